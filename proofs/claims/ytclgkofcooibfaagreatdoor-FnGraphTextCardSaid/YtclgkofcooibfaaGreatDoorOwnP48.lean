import Derived.Test.YtclgkofcooibfaaGreatDoorOwnP47
set_option maxHeartbeats 6400000
set_option maxRecDepth 100000
namespace Go.Proofs.YtclgkofcooibfaaGreatDoor
open Go.RowKit
def aiY(w:World)(B:Nat)(u:Value)(d:ax):Prop:=∃gL cL gH cH gN cN lab,u=.agg #[.int .i64 d.inn,.int .i64 d.rounds,.slice (some ⟨gL,0,none⟩) d.nl cL,.slice (some ⟨gH,0,none⟩) d.nh cH,.slice (some ⟨gN,0,none⟩) d.nn cN,.int .i64 d.out]/\
 dF w lab (.slice (some ⟨gL,0,none⟩) d.nl cL) (.slice (some ⟨gH,0,none⟩) d.nh cH) (.slice (some ⟨gN,0,none⟩) d.nn cN) d.nl d.nh d.nn d.Lo d.Hi d.N/\∀g,g<B->lab g=9
def wY(k:Nat):Nat:=if 250<=k then 8 else 1+k % 3
def drR(k:Nat):Nat:=if k/3 % 5=4 then 20 else k/3 % 5
def drM(k n p:Nat):Nat:=if 12<1+k/15 % 4+(n-p)/16 then 12 else 1+k/15 % 4+(n-p)/16
def drB(X:Nat->Nat)(n k p1 p2 C:Nat):ax×Nat:=
 (⟨wY k,drR k,wY k,sdL X n p1,wY k,sdH X n p1,C,gN X n p2 (wY k),(if k % 16=15 then nV X n (gS X n p2 (wY k) C).2 % (C+1) else C:Nat)⟩,if k % 16=15 then nP n (gS X n p2 (wY k) C).2 else (gS X n p2 (wY k) C).2)
def cY(X:Nat->Nat)(n p:Nat):ax×Nat:=
 drB X n (nV X n p) (nP n p) (pE X n (nP n p) (wY (nV X n p))) (gC X n (pE X n (nP n p) (wY (nV X n p))) (wY (nV X n p)) (drM (nV X n p) n (pE X n (nP n p) (wY (nV X n p)))) 12 0)
theorem fP.mv'{w w':World}{lo k:Nat}{p p':Nat->Prop}{v:Value}{R:Nat->br}{xs:List Value}(h:fP w lo p v k R xs)(ho:∀g,v.ownBlock=some g->w'.heap[g]?=w.heap[g]?)(hb:∀g,g<w.heap.size->p g->v.ownBlock≠some g->w'.heap[g]?=w.heap[g]?/\p' g):fP w' lo p' v k R xs:=by
 refine⟨kU h.own ho,fun i hi=> ?_⟩;obtain⟨a1,a2,k1,k2,h1,h2,h3,h4⟩:=h.at_ i hi;exact⟨a1,a2,k1,k2,h1,h2,h3,h4.mv fun g hg hp=>⟨(hb g hg hp.1 hp.2).1,(hb g hg hp.1 hp.2).2,hp.2⟩⟩
theorem bj.blk{w w':World}{c:Nat}{x y z:Value}(h:bj w c x y z)(hb:w'.heap[c]?=w.heap[c]?):bj w' c x y z:=
 ⟨(fa (a:=jj c 0) hb).trans h.c0,(fa (a:=jj c 1) hb).trans h.c1,(fa (a:=jj c 2) hb).trans h.c2,fun k=>(wW (a:=jj c k) hb).trans (h.f k)⟩
def Lab(lab:Nat->Nat)(B cG:Nat):Prop:=(∀g,g<B->lab g=9)/\lab cG=9
theorem Lab.lu{lab:Nat->Nat}{B cG S:Nat}(h:Lab lab B cG)(f:Nat->Nat)(h1:B<=S)(h2:cG<S):Lab (lu lab S f) B cG:=
 ⟨fun g hg=>(aj om).trans (h.1 g hg),(aj h2).trans h.2⟩
theorem abp{lab:Nat->Nat}{B cG g t:Nat}(h:Lab lab B cG)(e:lab g=t)(ht:t≠9):B<=g/\g≠cG:=by
 refine⟨?_,fun e'=> ?_⟩
 . rcases Nat.lt_or_ge g B with h1 | h1
   . exact absurd (e.symm.trans (h.1 g h1)) ht
   . exact h1
 . subst e'
   exact ht (e.symm.trans h.2)
theorem km.mv{w w':World}{base k:Nat}{v:Value}{X:Nat->Int}{xs:List Value}(h:km w base v k X xs)(ho:∀g,v.ownBlock=some g->w'.heap[g]?=w.heap[g]?):km w' base v k X xs:=⟨kU h.own ho,h.at_⟩
theorem ago{w w1 w':World}{lab:Nat->Nat}{v v':Value}{k gg cp:Nat}{xs ys:List Value}{N:Nat->ay}(oN:w.ownsRow 0 48 6 v k xs)(hN:∀i,i<k->rK w lab i xs (N i))(hv:∀g,v.ownBlock=some g->lab g=3)(s1:w.S w1)(hs:w.heap.size<w1.heap.size)(g:w1.grownBy w' v.ownBlock)
 (own:w'.ownsRow 0 48 6 v' (k+1) (xs++[.i (N k).op,.i (N k).a,.i (N k).b,.i (N k).k,.i (N k).s,.s gg (N k).nv cp]))(hat:v'.ownBlock=v.ownBlock∨v'.ownBlock=some w1.heap.size)(L:fP w 0 (fun q=>lab q=0) (.s gg (N k).nv cp) (N k).nv (N k).V ys)(hg:lab gg=10+k):
 (∃xs,w'.ownsRow 0 48 6 v' (k+1) xs/\∀i,i<k+1->rK w' (lu lab w.heap.size (fun _=>3)) i xs (N i))/\(∀q,v'.ownBlock=some q->lu lab w.heap.size (fun _=>3) q=3)/\∀q,q<w.heap.size->lab q≠3->w'.heap[q]?=w.heap[q]?:=by
 have blk:∀q,q<w.heap.size->lab q≠3->w'.heap[q]?=w.heap[q]?:=fun q hq hl=>(g.block q om (fun e=>hl (hv q e.symm))).trans (s1.block q hq)
 have hl:=oN.1;refine⟨⟨_,own,fun i hi=> ?_⟩,fun q hq=> ?_,blk⟩
 . have h:rK w lab i (xs++[.i (N k).op,.i (N k).a,.i (N k).b,.i (N k).k,.i (N k).s,.s gg (N k).nv cp]) (N i):=by
    by_cases e:i=k
    . subst e
      refine⟨gg,cp,ys, ?_, ?_, ?_, ?_, ?_, ?_,L,hg⟩<;>(rw[List.getElem?_append_right om,hl];simp)
    . obtain⟨g0,c0,y0,h0,h1,h2,h3,h4,h5,L0,e0⟩:=hN i om
      refine⟨g0,c0,y0, ?_, ?_, ?_, ?_, ?_, ?_,L0,e0⟩<;>(rw[List.getElem?_append_left om];assumption)
   exact h.mv fun q hq hp=>⟨blk q hq om,aj hq⟩
 rcases hat with e | e
 . rw[e] at hq
   rw[aj (oN.lt q hq).2];exact hv q hq
 . rw[e] at hq
   simp only[Option.some.injEq] at hq;exact cX om
theorem ahh{X:Nat->Nat}{n p K M i C:Nat}(h:gC X n p K M (12-i) i=C)(hM:M<=12)(h1:i<M)(h2:i<2∨0<n-(gS X n p K i).2):gC X n p K M (12-(i+1)) (i+1)=C:=by
 rw[show 12-i=(12-(i+1))+1 by omega,gC,if_pos ⟨h1,h2⟩] at h;exact h
theorem afc{X:Nat->Nat}{n p K M i C:Nat}(h:gC X n p K M (12-i) i=C)(h1:¬(i<M/\(i<2∨0<n-(gS X n p K i).2))):i=C:=by
 cases e:12-i with
 | zero=>rw[e] at h;exact h
 | succ f=>rw[e,gC,if_neg h1] at h;exact h
theorem jk.out{w0 w w':World}{c:Nat}{a:Option Addr}{b off n cap:Nat}{X:Nat->Nat}{p c9 gL cL gH cH gN cN:Nat}{lab:Nat->Nat}{d:ax}(h:jk w0 w c a b off n cap X p w0.heap.size c9 (.i d.inn) (.i d.rounds) (.s gL d.nl cL) (.s gH d.nh cH) (.s gN d.nn cN) (.i d.out))
 (K:dF w lab (.s gL d.nl cL) (.s gH d.nh cH) (.s gN d.nn cN) d.nl d.nh d.nn d.Lo d.Hi d.N)(HL:Lab lab (w0.heap.size+1) c9)(M:af w w' w0.heap.size):
 aiY w' w0.heap.size (.agg #[.i d.inn,.i d.rounds,.s gL d.nl cL,.s gH d.nh cH,.s gN d.nn cN,.i d.out]) d/\Rp w' c a b off n cap X p/\cu c w0 w':=
 ⟨⟨gL,cL,gH,cH,gN,cN,lab,rfl,K.bE M (HL.1 _ om),fun g hg=>HL.1 g om⟩,h.m4 M⟩
theorem aat{p:Prop}(h:p:=by
 have b0:=G.B9.c0;have b1:=G.B9.c1;have b2:=G.B9.c2;have b3:=G.B9.c3;have b4:=G.B9.c4;have b5:=G.B9.c5;have bf5:=G.B9.f 5;have u0:=G.B4.c0;have u1:=G.B4.c1;have u2:=G.B4.c2;have u3:=G.B4.c3;have u4:=G.B4.c4;have u5:=G.B4.c5;have uf0:=G.B4.f 0;have uf1:=G.B4.f 1;have uf2:=G.B4.f 2;have uf3:=G.B4.f 3;have uf4:=G.B4.f 4;have uf5:=G.B4.f 5;go_wp2;refine bodyPost_ret (dn rfl Tryz.underlying26 rfl fp _ _ _ _ _ _ _ _ _ rfl ((((((G8.B4.aE _).aG _).aF _).aK _).aS _).aO _)) rfl ?_;rw[<-HDR.out];exact⟨_,rfl,G8.out (d:=ax.mk _ _ _ _ _ _ _ _ _) GK8.out HLB.out (((((((af.refl _ w.heap.size).setCell 0 _).setCell 1 _).setCell 2 _).setCell 3 _).setCell 4 _).setCell 5 _)⟩):p:=h
theorem wV{p:Prop}(h:p:=by
 have GG:=HG.out;have HR:=HDR.out;unfold drB at HR;rw[HI.out,HRD.out,HLO.out,HHH.out,HNN.out] at HR
 by_cases x:k % 16=15
 . rw[if_pos x,if_pos x] at HR
   have x':((k:Int) % 16==15)=true:=by simp;omega
   have b4:=GG.B9.c4;have b5:=GG.B9.c5;have bf5:=GG.B9.f 5;have G5:=GG.aO (.i (i:Int));have GK5:=ae (HGK.out.bE ((af.refl wr cG).setCell 5 (.i (i:Int))) HLB.out.2);have HHR:=ae HR;clear HR x HDR
   go_upto_region 27 with fail
   generalize wr.setCell ⟨cG,5,none⟩ (.i (i:Int))=w5 at*;clear b4 b5 bf5 GG HG HGK HIL;have kk:=G5.B9.c4;have J1:=@cT c a b off n cap X _ w5.drew hn (G5.R.aA (ao (eg _ _)));obtain⟨m,hm⟩:∃m,i+1=m:=⟨_,rfl⟩;have wr1:IntKind.i64.wrap ((i:Int)+1)=(m:Int):=by rw[<-hm];exact wrap64 om om
   have hm2:¬m=0:=om
   rw[hm] at HHR;clear hm;refine wp_region_held_drew (S:=fun w'=>w'.cell? (jj cG 4)=some (.s gN' i cN)) kr (by exact kk) (fun hHeld=> ?_);refine tk 0 109 (.p c 0) ?_;simp only[ap,la,lz,ls];refine tk 2 111 (.p cG 4) ?_;simp only[ap,la,lz,ls];refine ta 3 112 (.s gN' i cN) ?_ ?_
   . intro w' hSw
     try dsimp only at hSw
     go_simp
   simp only[ap,la,lz,ls];refine ta 4 113 (.i (i:Int)) ?_ ?_
   . intro w' hSw
     try dsimp only at hSw
     go_simp
   simp only[ap,la,lz,ls];refine ta 5 114 (.i (m:Int)) ?_ ?_
   . intro w' hSw
     try dsimp only at hSw
     go_simp
   simp only[ap,la,lz,ls];refine wpAnyH_ready (rs:=[1]) kr qz ?_;refine AllReadyH.cons rfl (fun K hK=> ?_) AllReadyH.nil;go_simp
   go_wp2_with (go_at_call 41;with_reducible refine J1.mono ?_;rintro e w6 ⟨k2,ek2,rfl,hk2,R6,O6⟩)
   have O56:cu c w5 w6:=⟨O6.os,O6.tape,O6.output,O6.size,O6.block⟩;have G6:=G5.go R6 O56;have GK6:=GK5.out.aI O56 (HLB.out.1 c om);obtain⟨y,hy⟩:∃t,k2 % m=t:=⟨_,rfl⟩;have ht':=tm hy;have HR:=HHR.out;rw[ek2,hy] at HR;have HDR:=ae HR;clear HR hy ek2;refine hK.out _ _ G6.B9.c4 (fun h1=> ?_);clear hK K hHeld;refine wpAnyH_ready (rs:=[6]) kr qz ?_;refine AllReadyH.cons rfl (fun K hK=> ?_) AllReadyH.nil;go_simp;refine hK.out _ _ G6.B9.c4 (fun h2=> ?_);clear hK K h1;refine wpAnyH_ready (rs:=[7]) kr qz ?_;refine AllReadyH.cons rfl (fun K hK=> ?_) AllReadyH.nil;go_simp;refine hK.out _ _ G6.B9.c4 (fun h4=> ?_);clear hK K h2;have k5:=G6.B9.c5;have kf5:=G6.B9.f 5;refine wpAnyH_ready (rs:=[8]) kr qz ?_;refine AllReadyH.cons rfl (fun K hK=> ?_) AllReadyH.nil;go_simp;refine hK.out _ _ (G6.aO (.i (y:Int))).B9.c4 (fun h3=> ?_);clear hK K h4 h3 k5 kf5;refine wpAnyH_done kr ?_ _;have G:=G6.aO (.i (y:Int));have GK8:=ae (GK6.bE ((af.refl w6 cG).setCell 5 (.i (y:Int))) HLB.out.2);generalize w6.setCell ⟨cG,5,none⟩ (.i (y:Int))=w7 at*;have G8:=G;clear kk G6 GK6 G5 GK5 J1 HHR;exact aat
 . rw[if_neg x,if_neg x] at HR
   have x':((k:Int) % 16==15)=false:=by simp;omega
   have HDR:=ae HR;have G:=GG;have G8:=GG.aO (.i (i:Int));have GK8:=ae (HGK.out.bE ((af.refl wr cG).setCell 5 (.i (i:Int))) HLB.out.2);clear HR x GG HG HGK HIL;exact aat):p:=h
theorem uQ{p:Prop}(h:p:=by
 have JN:=@ahA c a b off n cap X _ (i+1) gd cd (gS X n p2 I i).1 wr hn HG.out.R om om HIL.out.ints (by have:=HN0.out;omega) (acz hX.out p2 I hI8 i om);have OK:=ae (afb hX.out p2 I hI8 i om);obtain⟨dd,hdd⟩:∃d,(nd X n (gS X n p2 I i).2 (i+1) (gS X n p2 I i).1).1=d:=⟨_,rfl⟩;rw[hdd] at JN;have HND:Hid (NN i=dd):=ae (by rw[<-HNN.out];exact hdd);have HOK:Hid (aic (gS X n p2 I i).1 (i+1) dd):=ae (by rw[<-hdd];exact OK.out);have HDD:=ae hdd;have HJN:=ae JN;clear JN hdd OK;go_wp2_with fail;refine HJN.out.mono ?_;clear HJN;rintro e w3 ⟨u,rfl,⟨g,cp,ys,rfl,L3⟩,R3,O3⟩;obtain⟨op,da,db,dk,ds,nv,V⟩:=dd;obtain⟨t,ht⟩:∃t:Nat,da=(t:Int):=⟨da.toNat,by have h:0<=da/\_:=HOK.out.a;omega⟩;subst ht;have htm:t<i+1:=by have h:_/\(t:Int)<((i+1:Nat):Int):=HOK.out.a;omega
 obtain⟨w4,e4⟩:∃x:World,x=w3.alloc (.cells #[.i op,.i (t:Int),.i db,.i dk,.i ds,.s g nv cp] 48):=⟨_,rfl⟩;have s4:w3.S w4:=by rw[e4];exact (eg _ _).alloc (Nat.le_refl _) _
 have b4:au w4 w3.heap.size (.i op) (.i (t:Int)) (.i db) (.i dk) (.i ds) (.s g nv cp):=by rw[e4];exact au.new _ _ _ _ _ _ _ _
 have lt1:=HG.out.B9.lt;have ltR:=HG.out.B4.lt;have z3:=O3.size;have lgd:=(HIL.out.own.lt gd rfl).2;have lg:=L3.own.lt g rfl;have hN0:=HN0.out;have HG4:=ae ((HG.out.go R3 O3).aA s4);have HLB4:=ae (HLB.out.lu (fun q=>if q=g then 10+i else 0) ltR lt1);have HGK4:=ae (((HGK.out.lu (fun q=>if q=g then 10+i else 0) (Nat.le_refl _)).aI O3 (HLB4.out.1 c om)).aA s4);have LV:Hid (fP w4 0 (fun q=>lu lab wr.heap.size (fun q=>if q=g then 10+i else 0) q=0) (.s g nv cp) nv V ys):=ae (((L3.mv' (w':=w3) (p':=fun q=>lu lab wr.heap.size (fun q=>if q=g then 10+i else 0) q=0) (fun _ _=>rfl) (fun q _ hp hne=>⟨rfl,by rw[cX hp,if_neg (fun e=>hne (by rw[e];rfl))]⟩)).low (Nat.zero_le _) (fun _ h=>h)).aA s4);have hg10:Hid (lu lab wr.heap.size (fun q=>if q=g then 10+i else 0) g=10+i):=ae (by rw[cX lg.1,if_pos rfl]);have hb0:Hid (lu lab wr.heap.size (fun q=>if q=g then 10+i else 0) w3.heap.size=0):=ae (by rw[cX z3,if_neg om]);have HGD4:Hid (lu lab wr.heap.size (fun q=>if q=g then 10+i else 0) gd=9):=ae ((aj lgd).trans HGD.out);have HIL4:=ae ((HIL.out.mv (w':=w3) (fun q hq=>O3.block q (HIL.out.own.lt q hq).2 (fun e=>by simp[Value.ownBlock] at hq;omega))).aA s4);generalize lu lab wr.heap.size (fun q=>if q=g then 10+i else 0)=lab4 at*;clear HG HGK HLB HIL HGD L3 R3 O3 s4
 go_upto_region 23 with fail
 rw[<-e4];clear e4;obtain⟨xN,oN,hN⟩:=HGK4.out.no;have HoN:=ae oN;have HhN:=ae hN;have bl4:=HG4.out.B9.lt;have lb4:=b4.lt;have r0:=b4.c0;have r1:=b4.c1;have r2:=b4.c2;have r3:=b4.c3;have r4:=b4.c4;have r5:=b4.c5;have q4:=HG4.out.B9.c4;have qf4:=HG4.out.B9.f 4;clear oN hN
 go_wp2_with (at_builtin;refine wpList_append_own_at _ rfl _ _ 24 rfl 0 48 i1 _ 6 64 Tryz.underlying24 hi' hz0' hz1' hz2' rfl qd _ _ _ rfl (HoN.out.alloc _) (jj w4.heap.size 0) 1 1 [.i op,.i (t:Int),.i db,.i dk,.i ds,.s g nv cp] rfl rfl (agq _ _ _ _ _ _ _ _) (age _ _ _ _ _ _ _ _) (by unfold maxLen;omega) om om ?_)
 intro v' w5 hown' hgrow hnn hat;replace hgrow:(w4.alloc (.cells #[.i op,.i (t:Int),.i db,.i dk,.i ds,.s g nv cp] 48)).grownBy w5 (Value.s gN' i cN).ownBlock:=hgrow;obtain⟨gM,cM,rfl,hg1,hg2⟩:=hown'.form om;have sW:=bJ w4 (.cells #[.i op,.i (t:Int),.i db,.i dk,.i ds,.s g nv cp] 48);have zW:(w4.alloc (.cells #[.i op,.i (t:Int),.i db,.i dk,.i ds,.s g nv cp] 48)).heap.size=w4.heap.size+1:=by simp
 obtain⟨NA,l3,blk⟩:=ago (N:=NN) (ys:=ys) HoN.out HhN.out HGK4.out.nb sW om hgrow (by rw[HND.out];exact hown') (by rw[zW];exact hat) (by rw[HND.out];exact LV.out) hg10.out;have GK5:=HGK4.out.setN blk (fun g hg=>aj hg) NA l3;have LB5:=HLB4.out.lu (fun _=>3) om bl4;have G5:=(HG4.out.aA sW).grown hgrow (fun q e=>by have:=abp HLB4.out (HGK4.out.nb q e) om;omega)
 have IL5:=HIL4.out.mv (w':=w5) (fun q hq=>by
  simp[Value.ownBlock] at hq
  subst hq;exact blk gd (HIL4.out.own.lt gd rfl).2 (by rw[HGD4.out];omega))
 have b5:=b4.bI (blk _ lb4 (by rw[hb0.out];omega));have GD5:lu lab4 w4.heap.size (fun _=>3) gd=9:=(aj (HIL4.out.own.lt gd rfl).2).trans HGD4.out;have z5:=hgrow.size;have M6:af w5 (w5.setCell ⟨cG,4,none⟩ (.s gM (i+1) cM)) cG:=(af.refl w5 cG).setCell 4 _;have HGK6:=ae (GK5.bE M6 LB5.2);have HG6:=ae (G5.aS (.s gM (i+1) cM));have HIL6:=ae (IL5.mv (w':=w5.setCell ⟨cG,4,none⟩ (.s gM (i+1) cM)) (fun q hq=>M6.other q (fun e=>by simp[Value.ownBlock] at hq;omega)));have b6:=b5.marked M6 om;have z6:=Nat.le_of_eq M6.size.symm;have q4:=G5.B9.c4;have qf4:=G5.B9.f 4;have HLB5:=ae LB5;have HGD5:=ae GD5;have HBN:Hid (lu lab4 w4.heap.size (fun _=>3) w3.heap.size=0):=ae ((aj lb4).trans hb0.out);generalize lu lab4 w4.heap.size (fun _=>3)=lab5 at*;clear GK5 LB5 G5 IL5 GD5 b5 NA l3 blk sW zW hgrow hown' hnn hat HG4 HGK4 HLB4 HIL4 HGD4 HoN HhN M6 r0 r1 r2 r3 r4 r5 b4 LV hg10 hb0
 go_upto_region 24 with fail
 generalize w5.setCell ⟨cG,4,none⟩ (.s gM (i+1) cM)=w6 at*;clear q4 qf4;obtain⟨x,hx⟩:∃x,(gS X n p2 I i).1 t=x:=⟨_,rfl⟩;have hx8:1<=x/\x<=8:=by rw[<-hx];exact acz hX.out p2 I hI8 i om t htm
 have hxc:Hid (w6.cell? (jj gd t)=some (.i (x:Int))):=ae (by have h:=(HIL6.out.ints t htm).2;rw[Nat.zero_add] at h;rw[<-hx];exact h);have tt:((t:Int)).toNat=t:=by simp
 obtain⟨dm,hdm⟩:∃y,jR op dk ds (x:Int)=y:=⟨_,rfl⟩;have hd8:1<=dm/\dm<=8:=by have h:=HOK.out.dim;simp only[tt,hx,hdm] at h;exact h
 have JD:=@oG op (t:Int) db dk ds (x:Int) (jp g 0) nv cp w6.drew om om (fun h=>HOK.out.c5 h) (fun h=>by have h:=HOK.out.c6 h;simp only[tt,hx] at h;exact h);rw[hdm] at JD;have HS1:Hid (∀j,j<=i->(gS X n p2 I (i+1)).1 j=(gS X n p2 I i).1 j):=ae (fun j hj=>if_pos hj)
 have HS2:Hid (((gS X n p2 I (i+1)).1 (i+1):Int)=dm):=ae (by
  show ((if i+1<=i then _ else _:Nat):Int)=_
  rw[if_neg om,HDD.out];simp only[tt,hx,hdm];omega)
 have HG9:Hid (jk w w6 c a b off n cap X (gS X n p2 I (i+1)).2 w.heap.size cG (.i (I:Int)) (.i (RD:Int)) (.s gL I cL) (.s gH I cH) (.s gM (i+1) cM) (.i 0)):=HG6;have HJD:=ae JD;have htm':(t:Int)<((i+1:Nat):Int):=om
 have ht0:¬(t:Int)<0:=om
 clear hx hdm HG6 tt JD;have u0:=eg w6.heap.size w6;refine wp_region_held_drew (S:=fun w'=>w'.cell? (jj w3.heap.size 0)=some (.i op)/\w'.cell? (jj w3.heap.size 1)=some (.i (t:Int))/\w'.cell? (jj w3.heap.size 2)=some (.i db)/\w'.cell? (jj w3.heap.size 3)=some (.i dk)/\w'.cell? (jj w3.heap.size 4)=some (.i ds)/\w'.cell? (jj w3.heap.size 5)=some (.s g nv cp)) kr (by exact⟨b6.c0,b6.c1,b6.c2,b6.c3,b6.c4,b6.c5⟩) (fun hHeld=> ?_);refine tk 0 92 (.s gd (i+1) cd) ?_;simp only[ap,la,lz,ls];refine tk 2 94 (.s gd (i+1) cd) ?_;simp only[ap,la,lz,ls];refine tk 3 95 (.p w3.heap.size 1) ?_;simp only[ap,la,lz,ls];refine ta 1 93 (.agg #[.i op,.i (t:Int),.i db,.i dk,.i ds,.s g nv cp]) ?_ ?_
 . intro w' hSw
   try dsimp only at hSw
   go_simp
 simp only[ap,la,lz,ls];refine ta 4 96 (.i (t:Int)) ?_ ?_
 . intro w' hSw
   try dsimp only at hSw
   go_simp
 simp only[ap,la,lz,ls];refine ta 5 97 (.p gd t) ?_ ?_
 . intro w' hSw
   try dsimp only at hSw
   go_simp;intro h;omega
 simp only[ap,la,lz,ls];refine wpAnyH_ready (rs:=[6]) kr qz ?_;refine AllReadyH.cons rfl (fun K hK=> ?_) AllReadyH.nil;have lx:=hxc.out;go_simp;clear lx;refine hK.out _ _ (by exact⟨b6.c0,b6.c1,b6.c2,b6.c3,b6.c4,b6.c5⟩) (fun h1=> ?_);clear hK K hHeld;refine wpAnyH_ready (rs:=[7]) kr qz ?_;refine AllReadyH.cons rfl (fun K hK=> ?_) AllReadyH.nil;go_simp
 go_wp2_with (go_at_call 17;with_reducible refine HJD.out.mono ?_;rintro e w7 ⟨rfl,s7⟩)
 have u7:w6.S w7:=(ao u0).trans s7;have b7:=b6.aA u7;have O7:=HIL6.out.aA u7;have z7:=u7.size;refine hK.out _ _ ⟨b7.c0,b7.c1,b7.c2,b7.c3,b7.c4,b7.c5⟩ (fun h2=> ?_);clear hK K h1 HJD;refine wpAnyH_ready (rs:=[8]) kr qz ?_;refine AllReadyH.cons rfl (fun K hK=> ?_) AllReadyH.nil;go_simp;have sW:=bJ w7 (.cells #[.i dm] 3);have b8:=b7.aA sW;refine hK.out _ _ ⟨b8.c0,b8.c1,b8.c2,b8.c3,b8.c4,b8.c5⟩ (fun h3=> ?_);clear hK K h2;refine wpAnyH_ready (rs:=[9]) kr qz ?_;refine AllReadyH.cons rfl (fun K hK=> ?_) AllReadyH.nil;refine step_append_lies _ rfl _ _ 28 rfl 0 3 i2 _ 1 8 Tryz.underlying28 hi2 hz02 hz12 hz22 rfl qd _ (i+1) xs rfl (O7.own.alloc _) (jj w7.heap.size 0) 1 1 [.i dm] rfl rfl (bO _ _ _) (bZ _ rfl) qd (by unfold maxLen;omega) om (Nat.zero_le _) (w7.heap.size+1) qz ?_;intro gd' cd' w8 hown' hgrow hat hlt8;replace hgrow:(w7.alloc (.cells #[.i dm] 3)).grownBy w8 (Value.s gd (i+1) cd).ownBlock:=hgrow;replace hat:(Value.s gd (i+1) cd).ownBlock=some gd'∨gd'=w7.heap.size+1:=hat
 have hat:gd'=gd∨gd'=w7.heap.size+1:=by
  rcases hat with e | e
  . simp[Value.ownBlock] at e;exact Or.inl e.symm
  . exact Or.inr e
 have zz:(w7.alloc (.cells #[.i dm] 3)).heap.size=w7.heap.size+1:=by simp
 have hlg:=O7.own.lt gd rfl;have hN0:=HN0.out;have bl6:=HG9.out.B9.lt;have lt6:=HG9.out.B4.lt;have lb6:=b6.lt;have hgd:gd<w6.heap.size:=(HIL6.out.own.lt gd rfl).2;have hbn:w3.heap.size≠gd:=fun e=>by have:=HGD5.out;have:=HBN.out;omega
 have blk8:∀q,q<w6.heap.size->q≠gd->w8.heap[q]?=w6.heap[q]?:=fun q hq hne=>(hgrow.block q om (fun e=>hne (by simpa [Value.ownBlock] using e))).trans ((sW.block q om).trans (u7.block q hq))
 have b9:=b6.bI (blk8 _ lb6 hbn);refine hK.out _ _ ⟨b9.c0,b9.c1,b9.c2,b9.c3,b9.c4,b9.c5⟩ (fun h4=> ?_);clear hK K h3;refine wpAnyH_ready (rs:=[10]) kr qz ?_;refine AllReadyH.cons rfl (fun K hK=> ?_) AllReadyH.nil;go_simp;refine hK.out _ _ ⟨b9.c0,b9.c1,b9.c2,b9.c3,b9.c4,b9.c5⟩ (fun h5=> ?_);clear hK K h5 h4;refine wpAnyH_done kr ?_ _;have G8:=((HG9.out.aA u7).aA sW).grown hgrow (fun q e=>by simp[Value.ownBlock] at e;omega);have HLB8:=ae (HLB5.out.lu (fun _=>9) lt6 bl6);have HGK8:Hid (dF w8 (lu lab5 w6.heap.size (fun _=>9)) _ _ _ I I (i+1) LO HH NN):=ae (HGK6.out.mv fun q hq hl=>⟨blk8 q hq (fun e=>by have:=HGD5.out;subst e;omega),aj hq⟩)
 have HGD8:Hid (lu lab5 w6.heap.size (fun _=>9) gd'=9):=ae (by
  rcases hat with e | e
  . rw[e,aj hgd];exact HGD5.out
  . exact cX om)
 have HN8:Hid (w.heap.size<gd'/\gd'≠cG):=ae om;have HIL8:=ae (km.snoc (X:=fun j=>((gS X n p2 I (i+1)).1 j:Int)) O7.len (fun j hj=>by rw[HS1.out j om];exact O7.at_ j hj) hown' HS2.out);have HG8:=ae G8;clear G8 hgrow hown' hat b6 b7 b8 b9 O7 sW u7 s7 blk8 HG9 HGK6 HLB5 HGD5 HIL6 HN0 HS1 HS2;go_wp2;go_roundw
 case rel=>exact⟨i+1,gd',cd',gM,cM,_,_,om,rfl,by go_num,HG8,HGK8,HLB8,HGD8,HIL8,HCC2,HN8⟩
 case measure=>simp[intOf];omega):p:=h
theorem ag4{c:Nat}{a:Option Addr}{b off n cap:Nat}{X:Nat->Nat}{p:Nat}{w:World}(hn:n<=16777216)(R:Rp w c a b off n cap X p):
 Cl 42 #[.p c 0] w fun e w'=>∃u,e=.returned u/\aiY w' w.heap.size u (cY X n p).1/\Rp w' c a b off n cap X (cY X n p).2/\cu c w w':=by
 obtain⟨i0,hi,hz0,hz1,hz2⟩:=jY;obtain⟨i1,hi',hz0',hz1',hz2'⟩:=pT;obtain⟨i2,hi2,hz02,hz12,hz22⟩:=xX;have hcl:=R.R.lt;have hX:=ae R.hX;have sA:=bJ w (.cells #[.i 0,.i 0,.n,.n,.n,.i 0] 26);have bA:=au.new w (.i 0) (.i 0) (.n) (.n) (.n) (.i 0) 26;have RA:=R.aA sA;obtain⟨DR,hDR⟩:∃x,cY X n p=x:=⟨_,rfl⟩;rw[hDR];have HDR:=ae hDR;clear hDR;go_enter Tryz.func42,Tryz.ntmps42;go_wp2_with fail;generalize (w.alloc _)=wA at*;have zA:=sA.size;have zb:=bA.lt;refine (cT hn RA).mono ?_;rintro e w1 ⟨k,ek,rfl,hk,R1,O1⟩;have b1:=bA.aI O1 om;have O01:=(cu.aC c sA).trans O1;have z1:=O1.size;have HE:=HDR.out;unfold cY at HE;rw[ek] at HE;obtain⟨I,hI⟩:∃I,wY k=I:=⟨_,rfl⟩;have HI:Hid (wY k=I):=ae hI;have hI8:1<=I/\I<=8:=by rw[<-hI];unfold wY;split<;>omega
 rw[hI] at HE;obtain⟨p1,hp1⟩:∃q,nP n p=q:=⟨_,rfl⟩;rw[hp1] at HE R1;obtain⟨p2,hp2⟩:∃q,pE X n p1 I=q:=⟨_,rfl⟩;rw[hp2] at HE;have HP2:=ae hp2;have H2:=ae HE;obtain⟨LO,hLO⟩:∃f,sdL X n p1=f:=⟨_,rfl⟩;obtain⟨HH,hHH⟩:∃f,sdH X n p1=f:=⟨_,rfl⟩;obtain⟨NN,hNN⟩:∃f,gN X n p2 I=f:=⟨_,rfl⟩;have HLO:=ae hLO;have HHH:=ae hHH;have HNN:=ae hNN;clear RA O1 sA ek HDR bA HE hI hp1 hp2 hLO hHH hNN;obtain⟨w2,e2⟩:∃w2:World,w2=(((w1.alloc (.cells #[] 44)).alloc (.cells #[] 44)).alloc (.cells #[] 48)).alloc (.cells #[.i 0,.i 0,.s w1.heap.size 0 0,.s (w1.heap.size+1) 0 0,.s (w1.heap.size+1+1) 0 0,.i 0] 26):=⟨_,rfl⟩;obtain⟨wa,ea⟩:∃x:World,x=w1.alloc (.cells #[] 44):=⟨_,rfl⟩;obtain⟨wb,eb⟩:∃x:World,x=wa.alloc (.cells #[] 44):=⟨_,rfl⟩;obtain⟨wd,ed⟩:∃x:World,x=wb.alloc (.cells #[] 48):=⟨_,rfl⟩;have sa:w1.S wa:=by rw[ea];exact bJ _ _
 have sb:wa.S wb:=by rw[eb];exact bJ _ _
 have sd':wb.S wd:=by rw[ed];exact bJ _ _
 have za:wa.heap.size=w1.heap.size+1:=by rw[ea];simp
 have zb':wb.heap.size=w1.heap.size+1+1:=by rw[eb];simp[za]
 have zd:wd.heap.size=w1.heap.size+1+1+1:=by rw[ed];simp[zb']
 rw[<-ea,<-eb,<-ed] at e2;have s2:wd.S w2:=by rw[e2];exact bJ _ _
 have b2:au w2 (w1.heap.size+1+1+1) (.i 0) (.i 0) (.s w1.heap.size 0 0) (.s (w1.heap.size+1) 0 0) (.s (w1.heap.size+1+1) 0 0) (.i 0):=by
  rw[e2,<-zd];exact au.new _ _ _ _ _ _ _ _
 have G:jk w w2 c a b off n cap X p1 w.heap.size (w1.heap.size+1+1+1) (.i 0) (.i 0) (.s w1.heap.size 0 0) (.s (w1.heap.size+1) 0 0) (.s (w1.heap.size+1+1) 0 0) (.i 0):=
  ⟨Nat.le_refl _,om,om,hcl,(((b1.aA sa).aA sb).aA sd').aA s2,b2,(((R1.aA sa).aA sb).aA sd').aA s2,(((O01.trans (cu.aC c sa)).trans (cu.aC c sb)).trans (cu.aC c sd')).trans (cu.aC c s2)⟩
 have GK:∃lab,Lab lab (w.heap.size+1) (w1.heap.size+1+1+1)/\dF w2 lab (.s w1.heap.size 0 0) (.s (w1.heap.size+1) 0 0) (.s (w1.heap.size+1+1) 0 0) 0 0 0 LO HH NN:=by
  refine⟨fun g=>if g=w1.heap.size then 1 else if g=w1.heap.size+1 then 2 else if g=w1.heap.size+1+1 then 3 else 9,⟨fun g hg=> ?_, ?_⟩,⟨[], ?_⟩,fun g e=> ?_,⟨[], ?_⟩,fun g e=> ?_,⟨[], ?_,fun i hi=>absurd hi om⟩,fun g e=> ?_⟩
  . simp only
    rw[if_neg om,if_neg om,if_neg om]
  . simp only
    rw[if_neg om,if_neg om,if_neg om]
  . have L:=fP.nil w1 0 (fun q=>(if q=w1.heap.size then 1 else if q=w1.heap.size+1 then 2 else if q=w1.heap.size+1+1 then 3 else 9)=0) LO (Nat.zero_le _)
    rw[<-ea] at L;exact ((L.aA sb).aA sd').aA s2
  . simp[Value.ownBlock] at e
    simp[e]
  . have L:=fP.nil wa 0 (fun q=>(if q=w1.heap.size then 1 else if q=w1.heap.size+1 then 2 else if q=w1.heap.size+1+1 then 3 else 9)=0) HH (Nat.zero_le _)
    rw[<-eb,za] at L;exact (L.aA sd').aA s2
  . simp[Value.ownBlock] at e
    simp[<-e]
  . have o:=pv (base:=0) (e:=48) (size:=6) wb #[] 0 (Nat.zero_le _) (Nat.zero_le _) rfl
    rw[<-ed,zb'] at o;exact kU o (fun g hg=>s2.block g (o.lt g hg).2)
  . simp[Value.ownBlock] at e
    simp[<-e]
    omega
 have z2:=s2.size;rw[ed,eb,ea] at e2;clear sa sb sd' ea eb ed s2 b2 b1 R1 O01 R
 go_upto_region 3 with fail
 rw[<-e2];rw[zd] at z2;clear e2 za zb' zd;obtain⟨lab,HL,GK⟩:=GK;have HGK:=ae GK;have HLB:=ae HL;clear GK HL;have b0:=G.B9.c0;have b1:=G.B9.c1;have bf0:=G.B9.f 0;have bf1:=G.B9.f 1;generalize hcG:w1.heap.size+1+1+1=cG at*
 go_upto_if 23 with fail
 go_cut [] (fun wx=>jk w wx c a b off n cap X p1 w.heap.size cG (.i (I:Int)) (.i 0) (.s w1.heap.size 0 0) (.s (w1.heap.size+1) 0 0) (.s (w1.heap.size+1+1) 0 0) (.i 0)/\Hid (dF wx lab (.s w1.heap.size 0 0) (.s (w1.heap.size+1) 0 0) (.s (w1.heap.size+1+1) 0 0) 0 0 0 LO HH NN)/\w2.heap.size<=wx.heap.size)
 case first=>
  by_cases q:250<=k
  . have q':(250:Int)<=k:=om
    have e':(I:Int)=8:=by rw[<-HI.out];unfold wY;rw[if_pos q];rfl
    clear q;go_wp2
    go_meet
    case rel=>exact⟨by rw[e'];exact (G.aE _).aE _,ae (HGK.out.bE (((af.refl _ _).setCell 0 _).setCell 0 _) HLB.out.2),qz⟩
  . have q':¬(250:Int)<=k:=om
    have e':(I:Int)=1+(k:Int) % 3:=by rw[<-HI.out];unfold wY;rw[if_neg q];omega
    clear q;go_wp2
    go_meet
    case rel=>exact⟨by rw[e'];exact G.aE _,ae (HGK.out.bE ((af.refl _ _).setCell 0 _) HLB.out.2),qz⟩
 case rest=>
  clear G HGK b0 b1 bf0 bf1;obtain⟨G,HGK,zc⟩:=hcut;obtain⟨RD,hRD⟩:∃r,drR k=r:=⟨_,rfl⟩;have HRD:=ae hRD;have b0:=G.B9.c0;have b1:=G.B9.c1;have bf1:=G.B9.f 1;clear hRD
  go_upto_if 31 with fail
  go_cut [] (fun wx=>jk w wx c a b off n cap X p1 w.heap.size cG (.i (I:Int)) (.i (RD:Int)) (.s w1.heap.size 0 0) (.s (w1.heap.size+1) 0 0) (.s (w1.heap.size+1+1) 0 0) (.i 0)/\Hid (dF wx lab (.s w1.heap.size 0 0) (.s (w1.heap.size+1) 0 0) (.s (w1.heap.size+1+1) 0 0) 0 0 0 LO HH NN)/\w2.heap.size<=wx.heap.size)
  case first=>
   by_cases q:k/3 % 5=4
   . have q':((k:Int)/3 % 5==4)=true:=by simp;omega
     have e':(RD:Int)=20:=by rw[<-HRD.out];unfold drR;rw[if_pos q];rfl
     clear q;go_wp2
     go_meet
     case rel=>exact⟨by rw[e'];exact (G.aG _).aG _,ae (HGK.out.bE (((af.refl _ _).setCell 1 _).setCell 1 _) HLB.out.2),by simpa using zc⟩
   . have q':((k:Int)/3 % 5==4)=false:=by simp;omega
     have e':(RD:Int)=k/3 % 5:=by rw[<-HRD.out];unfold drR;rw[if_neg q];omega
     clear q;go_wp2
     go_meet
     case rel=>exact⟨by rw[e'];exact G.aG _,ae (HGK.out.bE ((af.refl _ _).setCell 1 _) HLB.out.2),by simpa using zc⟩
  case rest=>
   clear G HGK b0 b1 bf1 zc;obtain⟨G,HGK,zc⟩:=hcut;have hp0:pE X n p1 0=p1:=rfl;rw[<-hp0] at G;have HG:=ae G;clear G hp0;go_wp2_with fail
   go_loopw [5] (fun t wr=>∃(j gL cL gH cH:Nat) (lab:Nat->Nat),j<=I/\t=.i (j:Int)/\Hid (jk w wr c a b off n cap X (pE X n p1 j) w.heap.size cG (.i (I:Int)) (.i (RD:Int)) (.s gL j cL) (.s gH j cH) (.s (w1.heap.size+1+1) 0 0) (.i 0))/\Hid (dF wr lab (.s gL j cL) (.s gH j cH) (.s (w1.heap.size+1+1) 0 0) j j 0 LO HH NN)/\Hid (Lab lab (w.heap.size+1) cG)) (fun t _=>I-(intOf t).toNat)
   case atStart=>exact⟨0,w1.heap.size,0,w1.heap.size+1,0,lab,Nat.zero_le _,rfl,HG,HGK,HLB⟩
   case round=>
    clear HG HGK HLB lab;obtain⟨j,gL,cL,gH,cH,lab,hj,rfl,HG,HGK,HLB⟩:=hrel;have b0:=HG.out.B9.c0
    by_cases hlt:j<I
    . have hlt':(j:Int)<I:=om
      have JS:=ahz hn HG.out.R;obtain⟨rL,hrL⟩:∃r,rd (sd X n (pE X n p1 j)).1.1=r:=⟨_,rfl⟩;obtain⟨rH,hrH⟩:∃r,rd (sd X n (pE X n p1 j)).1.2=r:=⟨_,rfl⟩;rw[hrL,hrH] at JS;have HRL:Hid (LO j=rL):=ae (by rw[<-HLO.out];exact hrL);have HRH:Hid (HH j=rH):=ae (by rw[<-HHH.out];exact hrH);clear hrL hrH;go_wp2_with fail;refine JS.mono ?_;clear JS;rintro e w3 ⟨u,v,rfl,⟨a1,a2,k1,k2,rfl,K1⟩,⟨a3,a4,k3,k4,rfl,K2⟩,R2,O2⟩;obtain⟨f1,n1,X1,m1,Y1⟩:=rL;obtain⟨f2,n2,X2,m2,Y2⟩:=rH;obtain⟨wx,ex⟩:∃x:World,x=w3.alloc (.cells #[.bool f1,.slice a1 n1 k1,.slice a2 m1 k2] 44):=⟨_,rfl⟩;obtain⟨w4,e4⟩:∃x:World,x=wx.alloc (.cells #[.bool f2,.slice a3 n2 k3,.slice a4 m2 k4] 44):=⟨_,rfl⟩;have sx:w3.S wx:=by rw[ex];exact bJ _ _
      have s4:wx.S w4:=by rw[e4];exact bJ _ _
      have zx:wx.heap.size=w3.heap.size+1:=by rw[ex];simp
      have bA:bj w4 w3.heap.size (.bool f1) (.slice a1 n1 k1) (.slice a2 m1 k2):=by
       have h:=bj.new w3 (.bool f1) (.slice a1 n1 k1) (.slice a2 m1 k2) 44;rw[<-ex] at h;exact h.aA s4
      have bB:bj w4 (w3.heap.size+1) (.bool f2) (.slice a3 n2 k3) (.slice a4 m2 k4):=by
       have h:=bj.new wx (.bool f2) (.slice a3 n2 k3) (.slice a4 m2 k4) 44;rw[<-e4,zx] at h;exact h
      have lt1:=HG.out.B9.lt;have ltR:=HG.out.B4.lt;have G4:=((HG.out.go R2 O2).aA sx).aA s4;have LB4:=HLB.out.lu (fun _=>0) ltR lt1;have GK4:=(((HGK.out.lu (fun _=>0) (Nat.le_refl _)).aI O2 (LB4.1 c om)).aA sx).aA s4;have K14:=((K1.aA sx).aA s4).imp (p':=fun q=>lu lab wr.heap.size (fun _=>0) q=0) (fun q _ h=>cX h);have K24:=((K2.aA sx).aA s4).imp (p':=fun q=>lu lab wr.heap.size (fun _=>0) q=0) (fun q _ h=>cX h);have z3:=O2.size;have hBl:lu lab wr.heap.size (fun _=>0) (w3.heap.size+1)=0:=cX om;generalize lu lab wr.heap.size (fun _=>0)=lab4 at*;rw[ex] at e4;have HG4:=ae G4;have HGK4:=ae GK4;have HK14:=ae K14;have HK24:=ae K24;have HLB4:=ae LB4;have HbB:=ae bB;clear HG HGK HLB K1 K2 sx s4 ex O2 R2 G4 GK4 K14 K24 LB4 zx b0 bB
      go_upto_region 13 with fail
      rw[<-e4];clear e4;obtain⟨xL,L1⟩:=HGK4.out.lo;have bl4:=HG4.out.B9.lt;have lB4:=HbB.out.lt;have q2:=HG4.out.B9.c2;have qf2:=HG4.out.B9.f 2;obtain⟨r0,r1,r2⟩:=bA.g;have HL1:=ae L1;clear L1
      go_wp2_with (at_builtin;refine wpList_append_own_at _ rfl _ _ 23 rfl 0 44 i0 _ 3 56 Tryz.underlying23 hi hz0 hz1 hz2 rfl qd _ _ _ rfl (HL1.out.own.alloc _) (jj w4.heap.size 0) 1 1 [.bool f1,.slice a1 n1 k1,.slice a2 m1 k2] rfl rfl (rb _ _ _ _ _) (qY _ _ _ _ _ _ _) (by unfold maxLen;omega) om om ?_)
      intro v' w5 hown' hgrow hnn hat;replace hgrow:(w4.alloc (.cells #[.bool f1,.slice a1 n1 k1,.slice a2 m1 k2] 44)).grownBy w5 (Value.s gL j cL).ownBlock:=hgrow;obtain⟨gL',cL',rfl,hg1,hg2⟩:=hown'.form om;have sW:=bJ w4 (.cells #[.bool f1,.slice a1 n1 k1,.slice a2 m1 k2] 44);have zW:(w4.alloc (.cells #[.bool f1,.slice a1 n1 k1,.slice a2 m1 k2] 44)).heap.size=w4.heap.size+1:=by simp
      obtain⟨LL,l1,blk⟩:=HL1.out.app HGK4.out.lb om sW om hgrow (by rw[HRL.out];exact hown') (by rw[zW];exact hat) (by rw[HRL.out];exact HK14.out);have GK5:=HGK4.out.setL blk (fun g hg=>aj hg) LL l1;have LB5:=HLB4.out.lu (fun _=>1) om bl4;have G5:=(HG4.out.aA sW).grown hgrow (fun q e=>by have:=abp HLB4.out (HGK4.out.lb q e) om;omega);have K25:dZ w5 (fun q=>lu lab4 w4.heap.size (fun _=>1) q=0) _ a3 a4 k3 k4:=HK24.out.mv fun q hq h=>⟨blk q hq om,(aj hq).trans h⟩
      have bB5:=HbB.out.blk (blk _ lB4 om);have z5:=hgrow.size;have M6:af w5 (w5.setCell (jj cG 2) (.s gL' (j+1) cL')) cG:=(af.refl w5 cG).setCell 2 _;have HGK6:=ae (GK5.bE M6 LB5.2);have HG6:=ae (G5.aF (.s gL' (j+1) cL'));have HK26:=ae (K25.marked M6 (fun g h e=>by subst e;have:=LB5.2;omega));have bB6:=bB5.marked M6 om;have z6:=Nat.le_of_eq M6.size.symm;have q2:=G5.B9.c2;have qf2:=G5.B9.f 2;have HLB5:=ae LB5;generalize lu lab4 w4.heap.size (fun _=>1)=lab5 at*;clear GK5 LB5 G5 K25 bB5 LL l1 blk sW zW hgrow hown' hnn hat HG4 HGK4 HK14 HK24 HLB4 HbB HL1 M6 r0 r1 r2 bA
      go_upto_region 14 with fail
      generalize w5.setCell (jj cG 2) (.s gL' (j+1) cL')=w6 at*;clear q2 qf2;obtain⟨xH,L2⟩:=HGK6.out.hi;have bl6:=HG6.out.B9.lt;have q3:=HG6.out.B9.c3;have qf3:=HG6.out.B9.f 3;obtain⟨r0,r1,r2⟩:=bB6.g;have HL2:=ae L2;clear L2
      go_wp2_with (at_builtin;refine wpList_append_own_at _ rfl _ _ 23 rfl 0 44 i0 _ 3 56 Tryz.underlying23 hi hz0 hz1 hz2 rfl qd _ _ _ rfl (HL2.out.own.alloc _) (jj w6.heap.size 0) 1 1 [.bool f2,.slice a3 n2 k3,.slice a4 m2 k4] rfl rfl (rb _ _ _ _ _) (qY _ _ _ _ _ _ _) (by unfold maxLen;omega) om om ?_)
      intro v' w7 hown' hgrow hnn hat;replace hgrow:(w6.alloc (.cells #[.bool f2,.slice a3 n2 k3,.slice a4 m2 k4] 44)).grownBy w7 (Value.s gH j cH).ownBlock:=hgrow;obtain⟨gH',cH',rfl,hg3,hg4⟩:=hown'.form om;have sW:=bJ w6 (.cells #[.bool f2,.slice a3 n2 k3,.slice a4 m2 k4] 44);have zW:(w6.alloc (.cells #[.bool f2,.slice a3 n2 k3,.slice a4 m2 k4] 44)).heap.size=w6.heap.size+1:=by simp
      obtain⟨LL,l1,blk⟩:=HL2.out.app HGK6.out.hb om sW om hgrow (by rw[HRH.out];exact hown') (by rw[zW];exact hat) (by rw[HRH.out];exact HK26.out);have GK7:=HGK6.out.setH blk (fun g hg=>aj hg) LL l1;have LB7:=HLB5.out.lu (fun _=>2) om bl6;have G7:=(HG6.out.aA sW).grown hgrow (fun q e=>by have:=abp HLB5.out (HGK6.out.hb q e) om;omega);have HGK8:=ae (GK7.bE ((af.refl w7 cG).setCell 3 (.s gH' (j+1) cH')) LB7.2);have HG8:=ae (G7.aK (.s gH' (j+1) cH'));have q3:=G7.B9.c3;have qf3:=G7.B9.f 3;have HLB7:=ae LB7;clear GK7 LB7 G7 LL l1 blk sW zW hgrow hown' hnn hat HG6 HGK6 HK26 HLB5 bB6 HL2 r0 r1 r2;go_wp2;go_roundw
      case rel=>exact⟨j+1,gL',cL',gH',cH',_,om,by go_num,HG8,HGK8,HLB7⟩
      case measure=>simp[intOf];omega
    . have ej:I=j:=om
      subst ej;have hlt':¬(I:Int)<I:=om
      have hG:=HG.out;rw[HP2.out] at hG;obtain⟨w3,e3⟩:∃x:World,x=wr.alloc (.cells #[.i (I:Int)] 3):=⟨_,rfl⟩;have s3:wr.S w3:=by rw[e3];exact bJ _ _
      have HIL:Hid (km w3 0 (.s wr.heap.size (0+1) 1) (0+1) (fun j=>((gS X n p2 I 0).1 j:Int)) [.i (I:Int)]):=ae (by
       rw[e3]
       exact⟨World.ownsRow_lit wr #[.i (I:Int)] 1 (Nat.zero_le _) qd rfl,fun j hj=>by
        obtain rfl:j=0:=om
        rfl⟩)
      have lt1:=hG.B9.lt;have ltR:=hG.B4.lt;have G3:=hG.aA s3;have HLB3:=ae (HLB.out.lu (fun _=>9) ltR lt1);have HGK3:=ae ((HGK.out.lu (fun _=>9) (Nat.le_refl _)).aA s3);have HGD:Hid (lu lab wr.heap.size (fun _=>9) wr.heap.size=9):=ae (cX (Nat.le_refl _));generalize lu lab wr.heap.size (fun _=>9)=lab3 at*;have HN0:=ae (show w.heap.size<wr.heap.size/\wr.heap.size≠cG by omega);obtain⟨M,hM⟩:∃m,drM k n p2=m:=⟨_,rfl⟩;have hM12:M<=12:=by rw[<-hM];unfold drM;split<;>omega
      obtain⟨q,hq⟩:∃q,n-p2=q:=⟨_,rfl⟩;have hql:q<=16777216:=om
      obtain⟨mo,hmo⟩:∃m,1+k/15 % 4+q/16=m:=⟨_,rfl⟩;have hmo':1+(k:Int)/15 % 4+(q:Int)/16=(mo:Int):=om
      have HM2:Hid ((if 12<mo then 12 else mo)=M):=ae (by rw[<-hM];unfold drM;rw[hq,hmo]);have H3:=H2.out;rw[hM] at H3;obtain⟨CC,hCC⟩:∃m,gC X n p2 I M 12 0=m:=⟨_,rfl⟩;rw[hCC] at H3;have HDR:=ae H3;have HCC:Hid (gC X n p2 I M (12-0) 0=CC):=ae hCC;have JL:=xP hn G3.R;rw[hq] at JL;have HJL:=ae JL;clear HG HGK HLB H2 H3 hCC hM hmo hq JL hlt;go_wp2_with fail;rw[<-e3];clear e3;refine HJL.out.mono ?_;clear HJL;rintro e w4 ⟨rfl,sm⟩;have G4:=G3.aA (sm.since _);have HGK4:=ae (HGK3.out.aA (sm.since _));have HIL4:=ae (HIL.out.aA (sm.since _));clear G3 HGK3 HIL sm
      go_upto_if 68 with fail
      go_cut [9] (fun u wx=>u=.i (M:Int)/\wx=w4)
      case first=>
       by_cases x:12<mo
       . have x':(12:Int)<mo:=om
         have e':(M:Int)=12:=by rw[<-HM2.out,if_pos x];rfl
         clear x;go_wp2
         go_meet
         case rel=>exact⟨by rw[e'],rfl⟩
       . have x':¬(12:Int)<mo:=om
         have e':M=mo:=by rw[<-HM2.out,if_neg x]
         clear x;go_wp2
         go_meet
         case rel=>exact⟨by rw[e'],rfl⟩
      case rest=>
       obtain⟨rfl,rfl⟩:=hcut;have HG4:=ae G4;clear G4 hmo';go_wp2_with fail
       go_loopw [8,10] (fun u t wr=>∃(i gd cd gN' cN:Nat) (lab:Nat->Nat) (xs:List Value),i<=M/\u=.s gd (i+1) cd/\t=.i (i:Int)/\Hid (jk w wr c a b off n cap X (gS X n p2 I i).2 w.heap.size cG (.i (I:Int)) (.i (RD:Int)) (.s gL I cL) (.s gH I cH) (.s gN' i cN) (.i 0))/\Hid (dF wr lab (.s gL I cL) (.s gH I cH) (.s gN' i cN) I I i LO HH NN)/\Hid (Lab lab (w.heap.size+1) cG)/\Hid (lab gd=9)/\Hid (km wr 0 (.s gd (i+1) cd) (i+1) (fun j=>((gS X n p2 I i).1 j:Int)) xs)/\Hid (gC X n p2 I M (12-i) i=CC)/\Hid (w.heap.size<gd/\gd≠cG)) (fun _ t _=>M-(intOf t).toNat)
       case atStart=>exact⟨0,wr.heap.size,1,w1.heap.size+1+1,0,lab3,_,Nat.zero_le _,rfl,rfl,HG4,HGK4,HLB3,HGD,HIL4,HCC,HN0⟩
       case round=>
        clear HG4 HGK4 HLB3 HGD HIL4 HCC HN0 lab3;obtain⟨i,gd,cd,gN',cN,lab,xs,hiM,rfl,rfl,HG,HGK,HLB,HGD,HIL,HCC,HN0⟩:=hrel
        by_cases hlt:i<M
        . have hlt':(i:Int)<M:=om
          by_cases h2:i<2
          . have h2':(i:Int)<2:=om
            have HCC2:=ae (ahh HCC.out hM12 hlt (Or.inl h2));clear HCC h2 hlt;exact uQ
          . have h2':¬(i:Int)<2:=om
            have JL:=xP hn HG.out.R;obtain⟨q,hq⟩:∃q,n-(gS X n p2 I i).2=q:=⟨_,rfl⟩;rw[hq] at JL;have HJL:=ae JL
            by_cases h3:0<q
            . have h3':(0:Int)<q:=om
              have HCC2:=ae (ahh HCC.out hM12 hlt (Or.inr om));clear JL hq HCC h2 h3 hlt;go_wp2_with fail;refine HJL.out.mono ?_;rintro e wr ⟨rfl,sm⟩;have HG:=ae (HG.out.aA (sm.since _));have HGK:=ae (HGK.out.aA (sm.since _));have HIL:=ae (HIL.out.aA (sm.since _));clear HJL;exact uQ
            . have h3':¬(0:Int)<q:=om
              have eC:=afc HCC.out (fun h=>by omega);subst eC;clear JL hq HCC;go_wp2_with fail;refine HJL.out.mono ?_;rintro e wr ⟨rfl,sm⟩;have HG:=ae (HG.out.aA (sm.since _));have HGK:=ae (HGK.out.aA (sm.since _));have HIL:=ae (HIL.out.aA (sm.since _));clear HJL hlt;exact wV
        . have hlt':¬(i:Int)<M:=om
          have eC:=afc HCC.out (fun h=>hlt h.1);subst eC;clear hlt HCC;exact wV
structure abO(w:World)(lab:Nat->Nat)(vL vH vN:Value)(nl nh nn:Nat)(Lo Hi:Nat->br)(N:Nat->ay)(y:Nat):Prop where
 lo:∃xs,fP w 0 (fun q=>lab q=0) vL nl Lo xs
 lb:∀g,vL.ownBlock=some g->lab g=1
 hi:∃xs,fP w 0 (fun q=>lab q=0) vH nh Hi xs
 hb:∀g,vH.ownBlock=some g->lab g=2
 no:∃xs,w.ownsRow 0 48 6 vN nn xs/\∀i,i<nn->i≠y->rK w lab i xs (N i)
 nb:∀g,vN.ownBlock=some g->lab g=3
section
variable{w w':World}{lab lab':Nat->Nat}{vL vH vN:Value}{nl nh nn y:Nat}{Lo Hi:Nat->br}{N:Nat->ay}{xs:List Value}
theorem dF.less(h:dF w lab vL vH vN nl nh nn Lo Hi N)(y:Nat):abO w lab vL vH vN nl nh nn Lo Hi N y:=by
 obtain⟨xs,o,n⟩:=h.no;exact⟨h.lo,h.lb,h.hi,h.hb,⟨xs,o,fun i hi _=>n i hi⟩,h.nb⟩
theorem abO.mv(h:abO w lab vL vH vN nl nh nn Lo Hi N y)(hb:∀g,g<w.heap.size->lab g<=3∨10<=lab g/\lab g≠10+y->w'.heap[g]?=w.heap[g]?/\lab' g=lab g):abO w' lab' vL vH vN nl nh nn Lo Hi N y:=by
 obtain⟨x1,L1⟩:=h.lo;obtain⟨x2,L2⟩:=h.hi;obtain⟨x3,L3,N3⟩:=h.no
 have lm:∀q,q<w.heap.size->lab q=0->w'.heap[q]?=w.heap[q]?/\lab' q=0:=fun q hq hp=>by
  have:=hb q hq (Or.inl om);exact⟨this.1,this.2.trans hp⟩
 have ol:∀ {v:Value} {n:Nat} {e:TypeId} {s:Nat} {xs:List Value} {t:Nat},w.ownsRow 0 e s v n xs->t<=3->(∀g,v.ownBlock=some g->lab g=t)->(∀g,v.ownBlock=some g->w'.heap[g]?=w.heap[g]?)/\∀g,v.ownBlock=some g->lab' g=t:=fun ho ht hl=>
  ⟨fun g hg=>(hb g (ho.lt g hg).2 (Or.inl (by rw[hl g hg];exact ht))).1,fun g hg=>(hb g (ho.lt g hg).2 (Or.inl (by rw[hl g hg];exact ht))).2.trans (hl g hg)⟩
 have o1:=ol L1.own om h.lb;have o2:=ol L2.own om h.hb;have o3:=ol L3 om h.nb;exact⟨⟨x1,L1.mv o1.1 lm⟩,o1.2,⟨x2,L2.mv o2.1 lm⟩,o2.2,⟨x3,kU L3 o3.1,fun i hi hy=>(N3 i hi hy).mv fun g hg hp=>hb g hg om⟩,o3.2⟩
theorem abO.put{gN cN gV cV:Nat}{d:ay}(h:abO w lab vL vH (.s gN nn cN) nl nh nn Lo Hi N y)(LV:∃ys,fP w 0 (fun q=>lab q=0) (.s gV d.nv cV) d.nv d.V ys)(lV:lab gV=10+y)(hy:y<nn):
 dF ((((((w.setCell ⟨gN,y*6,none⟩ (.i d.op)).setCell ⟨gN,y*6+1,none⟩ (.i d.a)).setCell ⟨gN,y*6+2,none⟩ (.i d.b)).setCell ⟨gN,y*6+3,none⟩ (.i d.k)).setCell ⟨gN,y*6+4,none⟩ (.i d.s)).setCell ⟨gN,y*6+5,none⟩ (.s gV d.nv cV)) lab vL vH (.s gN nn cN) nl nh nn Lo Hi (fun j=>if j=y then d else N j):=by
 obtain⟨xs,o,n⟩:=h.no;obtain⟨ys,LV⟩:=LV;have M:af w ((((((w.setCell (jj gN (y*6)) (.i d.op)).setCell (jj gN (y*6+1)) (.i d.a)).setCell (jj gN (y*6+2)) (.i d.b)).setCell (jj gN (y*6+3)) (.i d.k)).setCell (jj gN (y*6+4)) (.i d.s)).setCell (jj gN (y*6+5)) (.s gV d.nv cV)) gN:=((((((af.refl w _).setCell _ _).setCell _ _).setCell _ _).setCell _ _).setCell _ _).setCell _ _;have l3:=h.nb gN rfl;have mv:∀q,lab q≠3->_:=fun q hq=>M.other q (fun e=>hq (by rw[e];exact l3))
 have hl:=o.1;obtain⟨x1,L1⟩:=h.lo;obtain⟨x2,L2⟩:=h.hi;refine⟨⟨x1,L1.mv (fun g hg=>mv g (by rw[h.lb g hg];omega)) (fun q _ hp=>⟨mv q om,hp⟩)⟩,h.lb,⟨x2,L2.mv (fun g hg=>mv g (by rw[h.hb g hg];omega)) (fun q _ hp=>⟨mv q om,hp⟩)⟩,h.hb,⟨_,((((((o.stored (y*6) _).1.stored (y*6+1) _).1.stored (y*6+2) _).1.stored (y*6+3) _).1.stored (y*6+4) _).1.stored (y*6+5) _).1,fun i hi=> ?_⟩,h.nb⟩
 by_cases e:i=y
 . subst e
   rw[if_pos rfl];refine⟨gV,cV,ys, ?_, ?_, ?_, ?_, ?_, ?_,LV.mv (fun q hq=>mv q (by simp[Value.ownBlock] at hq;subst hq;omega)) (fun q _ hp=>⟨mv q om,hp⟩),lV⟩<;>simp only[List.getElem?_set,List.length_set]<;>simp<;>omega
 . rw[if_neg e]
   obtain⟨g0,c0,y0,h0,h1,h2,h3,h4,h5,L0,e0⟩:=n i hi e
   have nk:rK w lab i ((((((xs.set (y*6) (.i d.op)).set (y*6+1) (.i d.a)).set (y*6+2) (.i d.b)).set (y*6+3) (.i d.k)).set (y*6+4) (.i d.s)).set (y*6+5) (.s gV d.nv cV)) (N i):=by
    refine⟨g0,c0,y0, ?_, ?_, ?_, ?_, ?_, ?_,L0,e0⟩<;>(rw[List.getElem?_set_ne om,List.getElem?_set_ne om,List.getElem?_set_ne om,List.getElem?_set_ne om,List.getElem?_set_ne om,List.getElem?_set_ne om];assumption)
   exact nk.mv fun q _ hp=>⟨mv q om,rfl⟩
end
section
variable{w w':World}{lo k g cp:Nat}{p:Nat->Prop}{R:Nat->br}{xs:List Value}{lab:Nat->Nat}{aL aH aN:Option Addr}{nl nh nn kL kH kN:Nat}{Lo Hi:Nat->br}{N:Nat->ay}
theorem fP.pre(h:fP w lo p (.s g (k+1) cp) (k+1) R xs):∃ys,fP w lo p (.s g k cp) k R ys:=by
 obtain⟨⟨hl,h1 | ⟨g',cap,cur,e,hb,hh,hn,hm,hc,ht⟩⟩,hat⟩:=h
 . cases h1.1
 cases e;refine⟨xs.take (k*3),⟨by rw[List.length_take];omega,Or.inr ⟨g,cp,cur,rfl,hb,hh,om,hm,hc,by rw[<-ht,List.take_take];congr 1;omega⟩⟩,fun i hi=> ?_⟩;obtain⟨a1,a2,k1,k2,h1,h2,h3,h4⟩:=hat i om;exact⟨a1,a2,k1,k2,by rw[List.getElem?_take_of_lt om];exact h1,by rw[List.getElem?_take_of_lt om];exact h2,by rw[List.getElem?_take_of_lt om];exact h3,h4⟩
def NI(d:ay):Prop:=ef d.op/\ef d.a/\ef d.b/\ef d.k/\ef d.s/\d.nv<=100000
theorem fP.rl{a:Option Addr}{c n B:Nat}(h:fP w lo p (.slice a n c) n R xs)(hB:∀g,(Value.slice a n c).ownBlock=some g->B<=g)(hp:∀g,p g->B<=g):n<=c/\∃b o,(0<n->B<=b)/\fw w B a b o n R:=by
 have hc:= @World.ownsRow.cells _ _ _ _ _ _ _ h.own;have h2:=h.own;have hat:=h.at_;obtain⟨_,⟨e,rfl⟩ | ⟨g,cap,cur,e,hg,hb,hn,_⟩⟩:=h2
 . cases e
   exact⟨Nat.le_refl _,0,0,fun h=>absurd h om,fun i hi=>absurd hi om⟩
 . cases e
   refine⟨hn,g,0,fun _=>hB g rfl,fun i hi=>⟨rfl, ?_⟩⟩;obtain⟨a1,a2,k1,k2,h1,h2,h3,h4⟩:=hat i hi;have e1:=hc (g:=g) rfl _ _ h1;have e2:=hc (g:=g) rfl _ _ h2;have e3:=hc (g:=g) rfl _ _ h3;rw[Go.WideShapes.add_plain] at e1 e2 e3;obtain⟨ba,oa,l1,LX⟩:=h4.LX;obtain⟨bb,ob,l2,LY⟩:=h4.LY;exact⟨a1,a2,k1,k2,e1,by rw[Nat.add_assoc];exact e2,by rw[Nat.add_assoc];exact e3,h4.nc,h4.mc,h4.ac,h4.bc,⟨ba,oa,fun h=>hp ba (l1 h).1,LX⟩,⟨bb,ob,fun h=>hp bb (l2 h).1,LY⟩,h4.lX,h4.lY,h4.n63,h4.m63⟩
theorem oF{B g t:Nat}(hl:∀q,q<B->lab q=9)(h:lab g=t)(ht:t≠9):B<=g:=Nat.le_of_not_lt fun h2=>ht (h.symm.trans (hl g h2))
theorem dF.gral{inn rounds out:Int}{B:Nat}(h:dF w lab (.slice aL nl kL) (.slice aH nh kH) (.slice aN nn kN) nl nh nn Lo Hi N)(hl:∀q,q<B->lab q=9)(hN:∀i,i<nn->NI (N i))(ii:ef inn)(ir:ef rounds)(io:ef out)(l:nl<=100000)(l':nh<=100000)(l'':nn<=100000):
 gj w B ⟨inn,rounds,nl,Lo,nh,Hi,nn,N,out⟩ aL aH aN kL kH kN:=by
 obtain⟨x1,L1⟩:=h.lo;obtain⟨x2,L2⟩:=h.hi;obtain⟨x3,o3,N3⟩:=h.no;have h0:∀q,lab q=0->B<=q:=fun q e=>oF hl e om
 have r1:=L1.rl (fun g e=>oF hl (h.lb g e) om) h0;have r2:=L2.rl (fun g e=>oF hl (h.hb g e) om) h0;have hc:= @World.ownsRow.cells _ _ _ _ _ _ _ o3;obtain⟨_,⟨e,e0⟩ | ⟨gN,cap,cur,e,-,-,hn,-⟩⟩:=o3
 . cases e
   exact⟨r1.1,r2.1,Nat.le_refl _,r1.2,r2.2,⟨0,0,fun h=>absurd h qz,fun i hi=>absurd hi qz⟩,ii,ir,io,by simp only;omega,by simp only;omega,by simp only;omega⟩
 cases e;refine⟨r1.1,r2.1,hn,r1.2,r2.2,⟨gN,0,fun _=>oF hl (h.nb gN rfl) om,fun i hi=>⟨rfl, ?_⟩⟩,ii,ir,io,by simp only;omega,by simp only;omega,by simp only;omega⟩;obtain⟨gg,c0,y0,t0,h1,h2,h3,h4,h5,L0,lg⟩:=N3 i hi;have r0:=L0.rl (fun g e=>by simp[Value.ownBlock] at e;subst e;exact oF hl lg om) h0;obtain⟨i1,i2,i3,i4,i5,i6⟩:=hN i hi;have e0:=hc (g:=gN) rfl _ _ t0;have e1:=hc (g:=gN) rfl _ _ h1;have e2:=hc (g:=gN) rfl _ _ h2;have e3:=hc (g:=gN) rfl _ _ h3;have e4:=hc (g:=gN) rfl _ _ h4;have e5:=hc (g:=gN) rfl _ _ h5;rw[Go.WideShapes.add_plain] at e0 e1 e2 e3 e4 e5;refine⟨_,_,e0, ?_, ?_, ?_, ?_, ?_,r0.1,r0.2,i1,i2,i3,i4,i5,by simp only;omega⟩
 . rw[Nat.add_assoc];exact e1
 . rw[Nat.add_assoc];exact e2
 . rw[Nat.add_assoc];exact e3
 . rw[Nat.add_assoc];exact e4
 . rw[Nat.add_assoc];exact e5
end
def DrO(w:World)(B:Nat)(u:Value)(d:ax):Prop:=∃aL aH aN kL kH kN,u=.agg #[.int .i64 d.inn,.int .i64 d.rounds,.slice aL d.nl kL,.slice aH d.nh kH,.slice aN d.nn kN,.int .i64 d.out]/\gj w B d aL aH aN kL kH kN
def pb(X:Nat->Nat)(n:Nat)(d:ay)(i k p:Nat):ay:=
 if k % 9=0 then { d with op:=bd (nV X n p) 7 } else if k % 9=1 then { d with a:=bd (nV X n p) i } else if k % 9=2 then { d with b:=bd (nV X n p) i } else if k % 9=3 then { d with k:=bd (nV X n p) d.k } else if k % 9=4 then { d with s:=bd (nV X n p) d.s }
 else if k % 9=5 then { d with nv:=d.nv+1,V:=fun j=>if j=d.nv then rd (rq X n p) else d.V j } else if 0<d.nv/\k % 9=6 then { d with nv:=d.nv-1 }
 else if 0<d.nv/\k % 9=7 then { d with V:=fun j=>if j=nV X n p % d.nv then sp (d.V (nV X n p % d.nv)) (nV X n (nP n p)) else d.V j }
 else if 2<d.nv then { d with V:=fun j=>if j=2 then rd 0 else d.V j } else { d with op:=1+(nV X n p:Int) % 7 }
def spG(X:Nat->Nat)(n:Nat)(d:ax)(k p:Nat):ax:=
 if k % 8=0 then { d with inn:=bd (nV X n p) d.inn } else if k % 8=1 then { d with rounds:=1000+(k:Int)/8 % 3-1 }
 else if k % 8=2 then { d with Lo:=fun j=>if j=nV X n p % d.nl then rd ((d.Hi (nV X n p % d.nl)).q+mkRat ((k:Int)/8 % 2) 3) else d.Lo j }
 else if k % 8=3 then { d with Hi:=fun j=>if j=nV X n p % d.nh then sp (d.Hi (nV X n p % d.nh)) (nV X n (nP n p)) else d.Hi j }
 else if k % 8=4∨d.nn=0 then { d with out:=bd (nV X n p) d.nn }
 else { d with N:=fun j=>if j=nV X n p % d.nn then pb X n (d.N j) (j+1) (nV X n (nP n p)) (nP n (nP n p)) else d.N j }
structure GB(d:ax):Prop where
 l:1<=d.nl/\d.nl<=8/\d.nh=d.nl
 i:0<=d.inn/\d.inn<=1000/\0<=d.rounds/\d.rounds<=1000/\0<=d.out/\d.out<=1000
 n:d.nn<=12
 H:∀j,j<d.nl->∃q,d.Hi j=rd q/\Qb q 13
 L:∀j,j<d.nl->(d.Lo j).n<=13/\(d.Lo j).m<=13
 N:∀j,j<d.nn->(0<=(d.N j).op/\(d.N j).op<=7)/\(0<=(d.N j).a/\(d.N j).a<=1000)/\(0<=(d.N j).b/\(d.N j).b<=1000)/\(0<=(d.N j).k/\(d.N j).k<=1000)/\(0<=(d.N j).s/\(d.N j).s<=1000)/\(d.N j).nv<=63
 V:∀j,j<d.nn->∀i,i<(d.N j).nv->∃q,(d.N j).V i=rd q/\Qb q 11
theorem mY{k:Nat}{z:Int}(hk:k<256)(h:0<=z/\z<=1000):-1<=bd k z/\bd k z<=2000:=by
 unfold bd
 repeat' split
 all_goals omega
theorem dE{lab:Nat->Nat}{g h t s:Nat}(h1:lab g=t)(h2:lab h=s)(hts:t≠s):g≠h/\h≠g:=⟨fun e=>hts (by rw[<-h1,e,h2]),fun e=>hts (by rw[<-h1,<-e,h2])⟩
theorem fP.rm{w:World}{lo k g cp i:Nat}{p:Nat->Prop}{R:Nat->br}{xs:List Value}(h:fP w lo p (.s g k cp) k R xs)(hi:i<k):∃a1 a2 k1 k2,jM w 0 g (i*3) (R i) a1 a2 k1 k2:=by
 obtain⟨a1,a2,k1,k2,h0,h1,h2,K⟩:=h.cells hi;exact⟨a1,a2,k1,k2,h0,h1,h2,K.l⟩
theorem jM.aI{w w':World}{b off c:Nat}{r:br}{a1 a2:Option Addr}{k1 k2:Nat}{p:Nat->Prop}(h:jM w 0 b off r a1 a2 k1 k2)(K:dZ w p r a1 a2 k1 k2)(s:cu c w w')(hb:b≠c)(hp:∀g,p g->g≠c):jM w' 0 b off r a1 a2 k1 k2:=
 ⟨(s.cell (a:=jj b off) h.lt hb).trans h.c0,(s.cell (a:=jj b (off+1)) h.lt hb).trans h.c1,(s.cell (a:=jj b (off+2)) h.lt hb).trans h.c2,(K.aI s hp).l⟩
theorem aiv(q:Rat):(rd q).q=q:=by
 have h:(rd q).q=tq (tr q):=by
  unfold br.q tq tr rd mx;simp only[(gh q.num.natAbs).2.2,(gh q.den).2.2]
 rw[h,agO]
theorem DrO.of{w:World}{B:Nat}{D d:ax}{aL aH aN:Option Addr}{kL kH kN:Nat}(L:gj w B d aL aH aN kL kH kN)(e:D=d):DrO w B (.agg #[.i d.inn,.i d.rounds,.slice aL d.nl kL,.slice aH d.nh kH,.slice aN d.nn kN,.i d.out]) D:=by
 subst e;exact⟨aL,aH,aN,kL,kH,kN,rfl,L⟩
theorem GB.ni{d:ax}(B:GB d)(j:Nat)(hj:j<d.nn):NI (d.N j):=by
 have:=B.N j hj;unfold NI ef;omega
theorem un{p:Prop}(h:p:=by
 have b0:=G.B9.c0;have b1:=G.B9.c1;have b2:=G.B9.c2;have b3:=G.B9.c3;have b4:=G.B9.c4;have b5:=G.B9.c5;have bf0:=G.B9.f 0;have bf1:=G.B9.f 1;have bf5:=G.B9.f 5;have u0:=G.B4.c0;have u1:=G.B4.c1;have u2:=G.B4.c2;have u3:=G.B4.c3;have u4:=G.B4.c4;have u5:=G.B4.c5;have uf0:=G.B4.f 0;have uf1:=G.B4.f 1;have uf2:=G.B4.f 2;have uf3:=G.B4.f 3;have uf4:=G.B4.f 4;have uf5:=G.B4.f 5;go_wp2;refine bodyPost_ret (dn rfl Tryz.underlying26 rfl fp _ _ _ _ _ _ _ _ _ rfl ((((((G8.B4.aE _).aG _).aF _).aK _).aS _).aO _)) rfl ?_;refine⟨_,rfl, ?_,(G8.m4 (((((((af.refl _ (w.heap.size+1)).setCell 0 _).setCell 1 _).setCell 2 _).setCell 3 _).setCell 4 _).setCell 5 _)).2⟩;have L9:=fun w' (M:af _ w' (w.heap.size+1))=>dF.gral (GK8.out.bE M HL4.out) HL0.out HNI.out II.out IR.out IU.out om om om
 refine DrO.of (L9 _ (((((((af.refl _ (w.heap.size+1)).setCell 0 _).setCell 1 _).setCell 2 _).setCell 3 _).setCell 4 _).setCell 5 _)) ?_;rw[<-HD.out];unfold spG
 first | rw[if_pos x0,HZ.out] | rw[if_neg x0,if_pos x1] | (rw[if_neg x0,if_neg x1,if_pos x2];exact congrArg (fun f=>ax.mk inn rounds nl f nl Hi nn N out) HE2.out) | (rw[if_neg x0,if_neg x1,if_neg x2,if_pos x3];exact congrArg (fun f=>ax.mk inn rounds nl Lo nl f nn N out) HE2.out) | rw[if_neg x0,if_neg x1,if_neg x2,if_neg x3,if_pos x4,HZ.out] | (rw[if_neg x0,if_neg x1,if_neg x2,if_neg x3,if_neg x4];exact congrArg (fun f=>ax.mk inn rounds nl Lo nl Hi nn f out) HE2.out)):p:=h
theorem agU{p:Prop}(h:p:=by
 refine wpAnyH_ready (rs:=[10]) kr qz ?_;refine AllReadyH.cons rfl (fun K hK=> ?_) AllReadyH.nil;go_simp
 go_wp2_with (go_at_call 97;with_reducible refine (@acb _ _ _ _ _ _ k3 w3 om (Nat.le_trans HN1.out.1 om) (Nat.le_trans HN1.out.2 om) (MH3.L.rk)).mono ?_;rintro e w4 ⟨u,rfl,RO,s4⟩)
 obtain⟨r2,hr2⟩:∃r,sp ⟨f1,n5,X1,m1,Y1⟩ k3=r:=⟨_,rfl⟩;rw[hr2] at RO;obtain⟨b1,b2,l1,l2,rfl,K4⟩:=RO;obtain⟨f2,n6,X2,m2,Y2⟩:=r2;have HE2:Hid ((fun j=>if j=nV X n p1 % nl then sp (Hi (nV X n p1 % nl)) (nV X n (nP n p1)) else Hi j)=fun j=>if j=y then br.mk f2 n6 X2 m2 Y2 else Hi j):=ae (by rw[HY.out,HP2.out,HRH.out,ek3,hr2]);clear hr2 ek3;have G4:=G3.aA s4;have q5:=G4.B9.c3;refine hK.out _ _ q5 (fun h3=> ?_);clear hK K h2;refine wpAnyH_ready (rs:=[11]) kr qz ?_;refine AllReadyH.cons rfl (fun K hK=> ?_) AllReadyH.nil;go_simp;refine hK.out _ _ q5 (fun h4=> ?_);clear hK K h3;have MH4:=MH3.aA s4;have L4:=(HLL.out.aI O23 (fun e=>hcg (by simpa [Value.ownBlock] using e)) (fun q h e=>by rw[e,HLB.out c hcl] at h;omega)).aA s4;have d0:=MH4.c0;have d1:=MH4.c1;have d2:=MH4.c2;have f0:=L4.own.frozenAt (y*3);have f3:=L4.own.frozenAt (y*3+1);have f4:=L4.own.frozenAt (y*3+2);have M5:af w4 _ gH:=(((af.refl w4 gH).setCell (y*3) (.bool f2)).setCell (y*3+1) (.slice b1 n6 l1)).setCell (y*3+2) (.slice b2 m2 l2);have G8:=G4.mg M5 n3' n2' n4;refine wpAnyH_ready (rs:=[12]) kr qz ?_;refine AllReadyH.cons rfl (fun K hK=> ?_) AllReadyH.nil;go_simp;refine hK.out _ _ G8.B9.c3 (fun h5=> ?_);clear hK K h4 h5;refine wpAnyH_done kr ?_ _;have z3:=O23.size;have z4:=s4.size;have l9:=G.B9.lt;have l4:=G.B4.lt;have GK4:=((GK.out.aI O23 (HLB.out c hcl)).lu (fun _=>0) (Nat.le_refl _)).aA s4;obtain⟨xs,LL4⟩:=GK4.hi;have lL:=GK4.hb gH rfl;have HL4:Hid (lu lab1 w3.heap.size (fun _=>0) (w.heap.size+1)=9):=ae ((aj om).trans HL4.out);have HL0:Hid (∀q,q<w0.heap.size->lu lab1 w3.heap.size (fun _=>0) q=9):=ae (fun q hq=>(aj (by have:=G.O.size;omega)).trans (HLB.out q hq));obtain⟨ys,LP⟩:=LL4.put y (r:=⟨f2,n6,X2,m2,Y2⟩) (K4.imp (p':=fun q=>lu lab1 w3.heap.size (fun _=>0) q=0/\q≠gH) (fun q _ h=>⟨cX om,fun e=>by have h:=lL;rw[<-e,cX om] at h;omega⟩));have GK8:=ae (GK4.setH (fun q _ hne=>M5.other q (fun e=>hne (by rw[e];exact lL))) (fun _ _=>rfl) ⟨_,LP⟩ (fun g hg=>GK4.hb g hg));have G:=G8;generalize ((w4.setCell ⟨gH,y*3,none⟩ (.bool f2)).setCell ⟨gH,y*3+1,none⟩ (.slice b1 n6 l1)).setCell ⟨gH,y*3+2,none⟩ (.slice b2 m2 l2)=w5 at*;clear q5 d0 d1 d2 f0 f3 f4 M5 LP LL4 GK4 G4 MH4 L4 MH MH3 G3 K4 JN s4 R3 O3 O23 KH;exact un):p:=h
theorem aio{p:Prop}(h:p:=by
 rename World=>w8
 clear G bN HGY HLV HlV HL9 HL4 HL0 HLC HLN;obtain⟨d8,gV8,cV8,p8,lab8,G,bN8,HGY,HLV,HlV,HLL,HSN,HNY⟩:=hcut;have HL9:=ae HLL.out.1;have HL4:=ae HLL.out.2.1;have HL0:=ae HLL.out.2.2;obtain⟨op8,na8,nb8,nk8,ns8,nv8,V8⟩:=d8;simp only at bN8;obtain⟨xs,o,-⟩:=HGY.out.no;have hxl:=o.1;have r0:w8.cell? (jj gN (y*6))=some _:=(o.cellAt (y*6) om).trans (List.getElem?_eq_getElem om);have r1:w8.cell? (jj gN (y*6+1))=some _:=(o.cellAt (y*6+1) om).trans (List.getElem?_eq_getElem om);have r2:w8.cell? (jj gN (y*6+2))=some _:=(o.cellAt (y*6+2) om).trans (List.getElem?_eq_getElem om);have r3:w8.cell? (jj gN (y*6+3))=some _:=(o.cellAt (y*6+3) om).trans (List.getElem?_eq_getElem om);have r4:w8.cell? (jj gN (y*6+4))=some _:=(o.cellAt (y*6+4) om).trans (List.getElem?_eq_getElem om);have r5:w8.cell? (jj gN (y*6+5))=some _:=(o.cellAt (y*6+5) om).trans (List.getElem?_eq_getElem om);have v0:=o.frozenAt (y*6);have v1:=o.frozenAt (y*6+1);have v2:=o.frozenAt (y*6+2);have v3:=o.frozenAt (y*6+3);have v4:=o.frozenAt (y*6+4);have v5:=o.frozenAt (y*6+5);have q4:=G.B9.c4;have b0:=bN8.c0;have b1:=bN8.c1;have b2:=bN8.c2;have b3:=bN8.c3;have b4:=bN8.c4;have b5:=bN8.c5;have lN:=HGY.out.nb gN rfl;obtain⟨n2,n2'⟩:=dE lN HL9.out om;obtain⟨n3,n3'⟩:=dE lN HL4.out om;have n4:w0.heap.size<=gN:=Nat.le_of_not_lt fun h=>by have:=HL0.out gN h;omega
 clear o
 go_upto_region 43 with fail
 have M9:=((((((af.refl w8 gN).setCell (y*6) (.i op8)).setCell (y*6+1) (.i na8)).setCell (y*6+2) (.i nb8)).setCell (y*6+3) (.i nk8)).setCell (y*6+4) (.i ns8)).setCell (y*6+5) (.s gV8 nv8 cV8);have GK8:=ae (HGY.out.put (d:=⟨op8,na8,nb8,nk8,ns8,nv8,V8⟩) HLV.out HlV.out hyl);have G8:=G.mg M9 n3' n2' n4;have HNI:Hid (∀j,j<nn->NI (if j=y then ay.mk op8 na8 nb8 nk8 ns8 nv8 V8 else N j)):=ae (fun j hj=>by split;exact HNY.out;exact HNI.out j hj)
 have HE2:Hid ((fun j=>if j=nV X n p1 % nn then pb X n (N j) (j+1) (nV X n (nP n p1)) (nP n (nP n p1)) else N j)=fun j=>if j=y then ay.mk op8 na8 nb8 nk8 ns8 nv8 V8 else N j):=ae (by
  funext j
  rw[HY.out]
  by_cases e:j=y
  . rw[if_pos e,if_pos e,e,HND.out,HP2.out,HK4.out,HP3.out,HSN.out]
  . rw[if_neg e,if_neg e])
 have G:=G8;generalize (((((w8.setCell ⟨gN,y*6,none⟩ (.i op8)).setCell ⟨gN,y*6+1,none⟩ (.i na8)).setCell ⟨gN,y*6+2,none⟩ (.i nb8)).setCell ⟨gN,y*6+3,none⟩ (.i nk8)).setCell ⟨gN,y*6+4,none⟩ (.i ns8)).setCell ⟨gN,y*6+5,none⟩ (.s gV8 nv8 cV8)=w9 at*;clear r0 r1 r2 r3 r4 r5 v0 v1 v2 v3 v4 v5 q4 b0 b1 b2 b3 b4 b5 M9 HGY bN8 HLV;exact un):p:=h
theorem wy{p:Prop}(h:p:=by
 exact⟨_,gV,cV,_,lab2,(G.go R5 O5).mg M8 (Ne.symm n9.2.1) (Ne.symm n9.1) n9.2.2.2,bN8,ae ((HGY.out.mv (w':=w5) (lab':=lab2) (fun q hq hl=>⟨O5.block q hq (fun e=>by have:=HLC.out;subst e;omega),rfl⟩)).mv (fun q hq hl=>⟨M8.other q (fun e=>by have:=HLN.out;subst e;omega),rfl⟩)),ae ⟨_,(HLV.out.aI O5 (fun e=>by have:=HlV.out;have h2:=HLC.out;simp[Value.ownBlock] at e;subst e;omega) (fun q h e=>by have:=HLC.out;subst e;omega)).mv (fun q hq=>M8.other q (fun e=>by have:=HlV.out;have h2:=HLN.out;simp[Value.ownBlock] at hq;omega)) (fun q _ h=>⟨M8.other q (fun e=>by have:=HLN.out;subst e;omega),h⟩)⟩,HlV,ae ⟨HL9.out,HL4.out,HL0.out⟩,HSN,HNY⟩):p:=h
theorem agS{p:Prop}(h:p:=by
 have JN:=@cT c a b off n cap X p3 w4 hn G.R;have hv5:=gK hvX.out p3;go_wp2_with fail;refine JN.mono ?_;rintro e w5 ⟨k5,ek5,rfl,hk5,R5,O5⟩;have HNY:Hid (NI ⟨1+(nV X n p3:Int) % 7,na,nb,nk,ns,nv,V⟩):=ae (by unfold NI ef;simp only;omega);rw[ek5] at HSN HNY;clear ek5 JN hv5 b5;have bN5:=bN.aI O5 n9.2.2.1;have b0:=bN5.c0;have bf:=bN5.f 0;have bN8:=bN5.aE (.i (1+(k5:Int) % 7));have M8:=(af.refl w5 cB).setCell 0 (.i (1+(k5:Int) % 7));go_wp2
 go_meet
 case rel=>exact wy):p:=h
theorem aip{p:Prop}(h:p:=by
 exact⟨_,gV,cV,_,lab2,G.mg M8 (Ne.symm n9.2.1) (Ne.symm n9.1) n9.2.2.2,bN8,ae (HGY.out.mv (fun q hq hl=>⟨M8.other q (fun e=>by have:=HLN.out;subst e;omega),rfl⟩)),ae ⟨_,HLV.out.mv (fun q hq=>M8.other q (fun e=>by have:=HlV.out;have h2:=HLN.out;simp[Value.ownBlock] at hq;omega)) (fun q _ h=>⟨M8.other q (fun e=>by have:=HLN.out;subst e;omega),h⟩)⟩,HlV,ae ⟨HL9.out,HL4.out,HL0.out⟩,HSN,HNY⟩):p:=h
theorem agR{p:Prop}(h:p:=by
 exact⟨_,gV,cV,_,_,G5.mg M6 n7' n6' n8,bN5.marked M6 n5',ae (HGY5.out.mv (fun q hq hl=>⟨M6.other q (fun e=>by have:=HLL.out.1;subst e;omega),rfl⟩)),ae ⟨_,LP⟩,ae HLL.out.1,ae HLL.out.2,HSN,HNY⟩):p:=h
theorem aiq{p:Prop}(h:p:=by
 refine wpAnyH_ready (rs:=[10]) kr qz ?_;refine AllReadyH.cons rfl (fun K hK=> ?_) AllReadyH.nil;go_simp
 go_wp2_with (go_at_call 97;with_reducible refine (@acb _ _ _ _ _ _ k3 w6 om (Nat.le_trans HN1.out.1 om) (Nat.le_trans HN1.out.2 om) (MH3.L.rk)).mono ?_;rintro e w7 ⟨u,rfl,RO,s4⟩)
 obtain⟨r2,hr2⟩:∃r,sp ⟨f1,n1,X1,m1,Y1⟩ k3=r:=⟨_,rfl⟩;rw[hr2] at RO;obtain⟨b1,b2,l1,l2,rfl,K4⟩:=RO;obtain⟨f2,nZ,X2,m2,Y2⟩:=r2;have HSN:Hid (pb X n ⟨op,na,nb,nk,ns,nv,V⟩ (y+1) k4 p3=⟨op,na,nb,nk,ns,nv,fun j=>if j=t then br.mk f2 nZ X2 m2 Y2 else V j⟩):=ae (by unfold pb;rw[if_neg z0,if_neg z1,if_neg z2,if_neg z3,if_neg z4,if_neg z5,if_neg (fun h=>z6 h.2),if_pos ⟨hv,z7⟩];simp only[HT.out,HP5.out,HRH.out,ek3,hr2]);have HNY:Hid (NI ⟨op,na,nb,nk,ns,nv,fun j=>if j=t then br.mk f2 nZ X2 m2 Y2 else V j⟩):=ae (by unfold NI ef;simp only;omega);clear hr2 ek3;have bN7:=bN3.aA s4;have q5:=bN7.c5;refine hK.out _ _ q5 (fun h3=> ?_);clear hK K h2;refine wpAnyH_ready (rs:=[11]) kr qz ?_;refine AllReadyH.cons rfl (fun K hK=> ?_) AllReadyH.nil;go_simp;refine hK.out _ _ q5 (fun h4=> ?_);clear hK K h3;have MH4:=MH3.aA s4;have L6:=HLV.out.aI O23 (fun e=>hcg (by simpa [Value.ownBlock] using e)) (fun q h e=>by rw[e,HLC.out] at h;omega);have L7:=L6.aA s4;have d0:=MH4.c0;have d1:=MH4.c1;have d2:=MH4.c2;have v0:=L7.own.frozenAt (t*3);have v1:=L7.own.frozenAt (t*3+1);have v2:=L7.own.frozenAt (t*3+2);have M6:af w7 _ gV:=(((af.refl w7 gV).setCell (t*3) (.bool f2)).setCell (t*3+1) (.slice b1 nZ l1)).setCell (t*3+2) (.slice b2 m2 l2);refine wpAnyH_ready (rs:=[12]) kr qz ?_;refine AllReadyH.cons rfl (fun K hK=> ?_) AllReadyH.nil;go_simp;refine hK.out _ _ (bN7.marked M6 n5').c5 (fun h5=> ?_);clear hK K h4 h5;refine wpAnyH_done kr ?_ _;have z5:=s4.size;have lgV:=HlV.out;have hgV:=(L6.own.lt gV rfl).2;obtain⟨ys,LP⟩:=((L6.mv (w':=w6) (p':=fun q=>lu lab2 w6.heap.size (fun _=>0) q=0) (fun _ _=>rfl) (fun q hq h=>⟨rfl,(aj hq).trans h⟩)).aA s4).put t (r:=⟨f2,nZ,X2,m2,Y2⟩) (K4.imp (fun q _ (h:w6.heap.size<=q)=>⟨cX h,om⟩));have l9:=G3.B9.lt;have l4:=G3.B4.lt;have l0:=G3.O.size;have G5:=G3.aA s4;have bN5:=bN7;have HGY5:=ae ((HGY.out.mv (w':=w6) (lab':=lab2) (fun q hq hl=>⟨O23.block q hq (fun e=>by have:=HLC.out;subst e;omega),rfl⟩)).mv (w':=w7) (lab':=lu lab2 w6.heap.size (fun _=>0)) (fun q hq hl=>⟨s4.block q hq,aj hq⟩));have HLL:=ae (show lu lab2 w6.heap.size (fun _=>0) gV=10+y/\lu lab2 w6.heap.size (fun _=>0) w.heap.size=9/\lu lab2 w6.heap.size (fun _=>0) (w.heap.size+1)=9/\∀q,q<w0.heap.size->lu lab2 w6.heap.size (fun _=>0) q=9 from⟨(aj hgV).trans lgV,(aj l9).trans HL9.out,(aj l4).trans HL4.out,fun q hq=>(aj om).trans (HL0.out q hq)⟩);go_wp2
 go_meet
 case rel=>exact agR):p:=h
theorem ahy{p:Prop}(h:p:=by
 have z5:=O45.size;have lgV:=HlV.out;have hgV:=(HLV.out.own.lt gV rfl).2;have l9:=G.B9.lt;have l4:=G.B4.lt;have l0:=G.O.size;have lb:=bN.lt;have L4:=HLV.out.mv (w':=w4) (p':=fun q=>lu lab2 w4.heap.size (fun _=>0) q=0) (fun _ _=>rfl) (fun q hq h=>⟨rfl,(aj hq).trans h⟩);have LC:lu lab2 w4.heap.size (fun _=>0) c=9:=(aj om).trans HLC.out;have L5:=(L4.aI O45 (fun e=>by have h2:=HLC.out;simp[Value.ownBlock] at e;subst e;omega) (fun q h e=>by subst e;omega)).congr (R':=fun j=>if j=nv then br.mk fQ nQ XQ mQ YQ else V j) (fun j hj=>by rw[if_neg om]);have K5':=K5.imp (p':=fun q=>lu lab2 w4.heap.size (fun _=>0) q=0) (fun q _ h=>cX h);have HLL:=ae (show lu lab2 w4.heap.size (fun _=>0) gV=10+y/\lu lab2 w4.heap.size (fun _=>0) w.heap.size=9/\lu lab2 w4.heap.size (fun _=>0) (w.heap.size+1)=9/\lu lab2 w4.heap.size (fun _=>0) cB=9/\∀q,q<w0.heap.size->lu lab2 w4.heap.size (fun _=>0) q=9 from⟨(aj hgV).trans lgV,(aj l9).trans HL9.out,(aj l4).trans HL4.out,(aj lb).trans HLN.out,fun q hq=>(aj om).trans (HL0.out q hq)⟩);have HGY5:=ae ((HGY.out.mv (w':=w4) (lab':=lu lab2 w4.heap.size (fun _=>0)) (fun q hq hl=>⟨rfl,aj hq⟩)).mv (w':=w5) (lab':=lu lab2 w4.heap.size (fun _=>0)) (fun q hq hl=>⟨O45.block q hq (fun e=>by subst e;omega),rfl⟩));have G5:=G.go R5 O45;generalize lu lab2 w4.heap.size (fun _=>0)=lab3 at*;have sW:=bJ w5 (.cells #[.bool fQ,.slice a1 nQ k1,.slice a2 mQ k2] 44);have zW:(w5.alloc (.cells #[.bool fQ,.slice a1 nQ k1,.slice a2 mQ k2] 44)).heap.size=w5.heap.size+1:=by simp
 refine wpAnyH_ready (rs:=[5]) kr qz ?_;refine AllReadyH.cons rfl (fun K hK=> ?_) AllReadyH.nil;refine step_append_lies _ rfl _ _ 23 rfl 0 44 i0 _ 3 56 Tryz.underlying23 hi hz0 hz1 hz2 rfl qd _ nv _ rfl (L5.own.alloc _) (jj w5.heap.size 0) 1 1 [.bool fQ,.slice a1 nQ k1,.slice a2 mQ k2] rfl rfl (rb _ _ _ _ _) (qY _ _ _ _ _ _ _) qd (by unfold maxLen;omega) om (Nat.zero_le _) (w5.heap.size+1) qz ?_;intro gW cW w8 hown' hgrow hat hlt8;replace hgrow:(w5.alloc (.cells #[.bool fQ,.slice a1 nQ k1,.slice a2 mQ k2] 44)).grownBy w8 (Value.s gV nv cV).ownBlock:=hgrow;replace hat:(Value.s gV nv cV).ownBlock=some gW∨gW=w5.heap.size+1:=hat;obtain⟨LA,lA,blk⟩:=L5.app (t:=10+y) (a1:=a1) (a2:=a2) (k1:=k1) (k2:=k2) (fun q hq=>by simp[Value.ownBlock] at hq;subst hq;exact HLL.out.1) om sW om hgrow (by simp only[if_pos];exact hown') (by rw[zW];rcases hat with e | e;exact Or.inl (by rw[e];rfl);exact Or.inr (by rw[e];rfl)) (by simp only[if_pos];exact K5');refine hK.out _ _ trivial (fun h4=> ?_);clear hK K h3;refine wpAnyH_ready (rs:=[6]) kr qz ?_;refine AllReadyH.cons rfl (fun K hK=> ?_) AllReadyH.nil;go_simp;refine hK.out _ _ trivial (fun h5=> ?_);clear hK K h4;have l95:=G5.B9.lt;have l45:=G5.B4.lt;have lb5:=bN5.lt;have bN6:=bN5.bI (blk cB lb5 (by have:=HLL.out.2.2.2.1;omega));have b5:=bN6.c5;have bf:=bN6.f 5;refine wpAnyH_ready (rs:=[7]) kr qz ?_;refine AllReadyH.cons rfl (fun K hK=> ?_) AllReadyH.nil;go_simp;refine hK.out _ _ trivial (fun h6=> ?_);clear hK K h5 h6;refine wpAnyH_done kr ?_ _;have zg:=hgrow.size;have n8:w0.heap.size<=gV:=Nat.le_of_not_lt fun h=>by have:=HLL.out.2.2.2.2 gV h;have:=HLL.out.1;omega
 have nn1:=(dE HLL.out.1 HLL.out.2.1 om).1;have nn2:=(dE HLL.out.1 HLL.out.2.2.1 om).1;have G6:=(G5.aA sW).grown hgrow (fun q e=>by simp[Value.ownBlock] at e;subst e;exact⟨n8,nn2,nn1⟩);have M8:=(af.refl w8 cB).setCell 5 (.s gW (nv+1) cW);have lW:=lA gW rfl;have HLN':lu lab3 w5.heap.size (fun _=>10+y) cB=9:=(aj lb5).trans HLL.out.2.2.2.1;have HGY8:=ae (HGY5.out.mv (w':=w8) (lab':=lu lab3 w5.heap.size (fun _=>10+y)) (fun q hq hl=>⟨blk q hq om,aj hq⟩));obtain⟨yA,LA⟩:=LA;have bN8:=bN6.aO (.s gW (nv+1) cW);have HL8:=ae (show lu lab3 w5.heap.size (fun _=>10+y) w.heap.size=9/\lu lab3 w5.heap.size (fun _=>10+y) (w.heap.size+1)=9/\∀q,q<w0.heap.size->lu lab3 w5.heap.size (fun _=>10+y) q=9 from⟨(aj l95).trans HLL.out.2.1,(aj l45).trans HLL.out.2.2.1,fun q hq=>(aj om).trans (HLL.out.2.2.2.2 q hq)⟩);have HG6:=ae G6;have HLA:=ae LA;have HM8:=ae M8;have HB8:=ae bN8;clear G6 LA M8 bN8 hgrow hown' hat blk;go_wp2
 go_meet
 case rel=>exact⟨_,gW,cW,_,_,HG6.out.mg HM8.out (Ne.symm n9.2.1) (Ne.symm n9.1) n9.2.2.2,HB8.out,ae (HGY8.out.mv (fun q hq hl=>⟨HM8.out.other q (fun e=>by subst e;omega),rfl⟩)),ae ⟨_,HLA.out.mv (fun q hq=>HM8.out.other q (fun e=>by simp[Value.ownBlock] at hq;subst e;subst hq;omega)) (fun q _ h=>⟨HM8.out.other q (fun e=>by subst e;omega),h⟩)⟩,ae lW,HL8,HSN,HNY⟩):p:=h
theorem aea{c:Nat}{a:Option Addr}{b off n cap:Nat}{X:Nat->Nat}{p gL cL gH cH gN cN:Nat}{lab:Nat->Nat}{d:ax}{w0 w:World}(hn:n<=16777216)(R:Rp w c a b off n cap X p)(B:GB d)(O:cu c w0 w)(hcl:c<w0.heap.size)(hlab:∀q,q<w0.heap.size->lab q=9)
 (K:dF w lab (.s gL d.nl cL) (.s gH d.nh cH) (.s gN d.nn cN) d.nl d.nh d.nn d.Lo d.Hi d.N):
 Cl 44 #[.p c 0,.agg #[.i d.inn,.i d.rounds,.s gL d.nl cL,.s gH d.nh cH,.s gN d.nn cN,.i d.out]] w fun e w'=>∃u,e=.returned u/\DrO w' w0.heap.size u (spG X n d (nV X n p) (nP n p))/\cu c w0 w':=by
 obtain⟨inn,rounds,nl,Lo,nh,Hi,nn,N,out⟩:=d;obtain rfl:nl=nh:=B.l.2.2.symm;obtain⟨D,hD⟩:∃x,spG X n ⟨inn,rounds,nl,Lo,nl,Hi,nn,N,out⟩ (nV X n p) (nP n p)=x:=⟨_,rfl⟩;rw[hD];have HNI:=ae B.ni;have bi:=B.i;have bl:1<=nl/\nl<=8:=⟨B.l.1,B.l.2.1⟩;have bn:=B.n;simp only at bi bn;have II:Hid (ef inn):=ae (by unfold ef;omega);have IR:Hid (ef rounds):=ae (by unfold ef;omega);have IU:Hid (ef out):=ae (by unfold ef;omega);have zw:=O.size;obtain⟨wA,eA⟩:∃x:World,x=(w.alloc (.cells #[.i inn,.i rounds,.s gL nl cL,.s gH nl cH,.s gN nn cN,.i out] 26)).alloc (.cells #[.i 0,.i 0,.n,.n,.n,.i 0] 26):=⟨_,rfl⟩;have sA:w.S wA:=by rw[eA];exact (bJ _ _).alloc qz _
 have zA:wA.heap.size=w.heap.size+1+1:=by rw[eA];simp
 have b9:au wA w.heap.size (.i inn) (.i rounds) (.s gL nl cL) (.s gH nl cH) (.s gN nn cN) (.i out):=by rw[eA];exact (au.new w _ _ _ _ _ _ _).aA (bJ _ _)
 have b4:au wA (w.heap.size+1) (.i 0) (.i 0) (.n) (.n) (.n) (.i 0):=by
  rw[eA];have:=au.new (w.alloc (.cells #[.i inn,.i rounds,.s gL nl cL,.s gH nl cH,.s gN nn cN,.i out] 26)) (.i 0) (.i 0) (.n) (.n) (.n) (.i 0) 26
  simpa using this
 have GA:jk w0 wA c a b off n cap X p (w.heap.size+1) w.heap.size (.i inn) (.i rounds) (.s gL nl cL) (.s gH nl cH) (.s gN nn cN) (.i out):=⟨om,zw,om,hcl,b4,b9,R.aA sA,O.trans (cu.aC c sA)⟩;have HGA:=ae ((K.lu (fun _=>9) (Nat.le_refl _)).aA sA);have HL9:Hid (lu lab w.heap.size (fun _=>9) w.heap.size=9):=ae (cX (Nat.le_refl _));have HL4:Hid (lu lab w.heap.size (fun _=>9) (w.heap.size+1)=9):=ae (cX om);have HLB:Hid (∀q,q<w0.heap.size->lu lab w.heap.size (fun _=>9) q=9):=ae (fun q hq=>(aj om).trans (hlab q hq));have HB:=ae B;have HDD:=ae hD;generalize lu lab w.heap.size (fun _=>9)=lab1 at*;clear K hlab b4 b9 R sA B O hD;go_enter Tryz.func44,Tryz.ntmps44;go_wp2_with fail;rw[<-eA];clear eA;refine (@cT c a b off n cap X p wA hn GA.R).mono ?_;rintro e w1 ⟨k,ek,rfl,hk,R1,O1⟩;have G:=GA.go R1 O1;have GK:=ae (HGA.out.aI O1 (HLB.out c hcl));rw[ek] at HDD;obtain⟨p1,hp1⟩:∃q,nP n p=q:=⟨_,rfl⟩;rw[hp1] at HDD G;have HD:=HDD;have HL0:=HLB;clear GA HGA R1 O1 ek hp1 HDD
 by_cases x0:k % 8=0
 . have g0:((k:Int) % 8==0)=true:=by simp;omega
   have JB:=@sK c a b off n cap X p1 inn w1 hn G.R om om;have HBD:=ae (mY (z:=inn) (gK G.R.hX p1) om);obtain⟨z,hz⟩:∃z,bd (nV X n p1) inn=z:=⟨_,rfl⟩;have HZ:=ae hz;have II:Hid (ef z):=ae (by have h:=HBD.out;unfold ef;omega);rw[hz] at JB;have b0:=G.B9.c0;have b4:=G.B9.c4;clear hz;go_wp2_with fail;refine JB.mono ?_;rintro e w2 ⟨rfl,R2,O2⟩;have G:=G.go R2 O2;have GK8:=ae ((GK.out.aI O2 (HLB.out c hcl)).bE ((af.refl w2 w.heap.size).setCell 0 (.i z)) HL9.out);have G8:=G.aE (.i z);exact un
 have g0:((k:Int) % 8==0)=false:=by simp;omega
 by_cases x1:k % 8=1
 . have g1:((k:Int) % 8==1)=true:=by simp;omega
   have IR:Hid (ef (1000+(k:Int)/8 % 3-1)):=ae (by unfold ef;omega);have G8:=G.aG (.i (1000+(k:Int)/8 % 3-1));have GK8:=ae (GK.out.bE ((af.refl w1 w.heap.size).setCell 1 (.i (1000+(k:Int)/8 % 3-1))) HL9.out);exact un
 have g1:((k:Int) % 8==1)=false:=by simp;omega
 by_cases x2:k % 8=2
 . have g2:((k:Int) % 8==2)=true:=by simp;omega
   have JN:=@cT c a b off n cap X p1 w1.drew hn (G.R.aA (ao (eg _ _)));have m0:¬nl=0:=om
   have kk:=G.B9.c2;go_wp2_with fail
   go_region_held3 (fun w'=>w'.cell? (jj w.heap.size 2)=some (.s gL nl cL)) (go_keep)
    (first
      | (go_at_call 41
         with_reducible refine JN.mono ?_
         rintro e w2 ⟨k2,ek2,rfl,hk2,R2,O2⟩;have O12:cu c w1 w2:=⟨O2.os,O2.tape,O2.output,O2.size,O2.block⟩;have G2:=G.go R2 O12;have kk:=G2.B9.c2;obtain⟨y,hy⟩:∃t,k2 % nl=t:=⟨_,rfl⟩;have ht':=tm hy;have hyl:y<nl:=by rw[<-hy];exact Nat.mod_lt _ om
         have HY:Hid (nV X n p1 % nl=y):=ae (by rw[ek2];exact hy);clear hy ek2))
   have G:=G2;have GK:=ae (GK.out.aI O12 (HLB.out c hcl));obtain⟨p2,hp2⟩:∃q,nP n p1=q:=⟨_,rfl⟩;have HP2:=ae hp2;rw[hp2] at G;clear JN kk ht' R2 O2 O12 G2 hp2;obtain⟨xL,LL⟩:=GK.out.lo;obtain⟨xH,LH⟩:=GK.out.hi;have nL:=GK.out.lb gL rfl;obtain⟨n1,n1'⟩:=dE nL (GK.out.hb gH rfl) om;obtain⟨n2,n2'⟩:=dE nL HL9.out om;obtain⟨n3,n3'⟩:=dE nL HL4.out om;have n4:w0.heap.size<=gL:=Nat.le_of_not_lt fun h=>by have:=HLB.out gL h;omega
   obtain⟨a1,a2,k1,k3,MH⟩:=LH.rm hyl;obtain⟨e1,e2,e3,e4,ML⟩:=LL.rm hyl;obtain⟨q,hq,hQ⟩:=HB.out.H y hyl;have HE:Hid ((Hi y).q=q):=ae (by rw[show Hi y=rd q from hq];exact aiv q);obtain⟨rH,hrH⟩:∃r,Hi y=r:=⟨_,rfl⟩;simp only[hrH] at hq MH;obtain⟨f1,n5,X1,m1,Y1⟩:=rH;have HR1:=ae hq.symm;have HQ:=ae hQ;have HLL:=ae LL;have q2:=G.B9.c2;have q3:=G.B9.c3;obtain⟨c0,c1,c2⟩:=MH.g;have hy1:(y:Int)<nl:=om
   have hy0:¬(y:Int)<0:=om
   obtain⟨rF,hrF⟩:∃r,rd (mkRat ((k:Int)/8 % 2) (3:Int).toNat)=r:=⟨_,rfl⟩;have J0:=@iC ((k:Int)/8 % 2) 3 w2.drew om om om om;rw[hrF] at J0;have HRF:=ae hrF;obtain⟨f3,n7,X3,m3,Y3⟩:=rF;have J1:=fun z (h:z=(k:Int)/8 % 2)=>(by subst h;exact J0:Cl 92 #[.i z,.i 3] w2.drew _)
   clear hrF J0;have wr1:IntKind.i64.wrap ((k:Int)/8)=(k:Int)/8:=wrap64 om om;have u0:=eg w2.heap.size w2;clear hq hQ hrH LH LL;go_wp2_with fail
   go_region_held3 (fun w'=>w'.cell? (jj w.heap.size 2)=some (.s gL nl cL)/\w'.cell? (jj w.heap.size 3)=some (.s gH nl cH)/\w'.cell? (jj gH (y*3))=some (.bool f1)/\w'.cell? (jj gH (y*3+1))=some (.slice a1 n5 k1)/\w'.cell? (jj gH (y*3+2))=some (.slice a2 m1 k3)) (go_keep)
    (first
      | (go_at_call 92
         with_reducible refine (J1 _ (by rw[Int.tmod_eq_emod_of_nonneg om])).mono ?_
         rintro e w3 ⟨b1,b2,l1,l2,rfl,K3,s3⟩;have u3:=(ao u0).trans s3;have G3:=G.aA u3;have MH3:=MH.aA u3;have q2:=G3.B9.c2;have q3:=G3.B9.c3;obtain⟨c0,c1,c2⟩:=MH3.g;have J3:=acs (q:=mkRat ((k:Int)/8 % 2) (3:Int).toNat) HQ.out (pJ (k:=1) om om om) om (dZ.rq HR1.out MH3.L.rk) (dZ.rq HRF.out K3))
      | (go_at_call 96
         with_reducible refine J3.mono ?_
         rintro e w4 ⟨u,rfl,RV,s4⟩
         obtain⟨r2,hr2,b1,b2,l1,l2,rfl,K4⟩:∃r2,rd (q+mkRat ((k:Int)/8 % 2) (3:Int).toNat)=r2/\∃b1 b2 l1 l2,u=.agg #[.bool r2.neg,.slice b1 r2.n l1,.slice b2 r2.m l2]/\dZ w4 (fun g=>w3.heap.size<=g) r2 b1 b2 l1 l2:=by
          obtain⟨b1,b2,l1,l2,e,K⟩:=dM.kq RV om;exact⟨_,rfl,b1,b2,l1,l2,e,K⟩
         obtain⟨f2,n6,X2,m2,Y2⟩:=r2;have u4:=u3.tr s4;have G4:=G.aA u4;have MH4:=MH.aA u4;have ML4:=ML.aA u4;have L4:=HLL.out.aA u4;have HR2:=ae hr2;clear hr2;have q2:=G4.B9.c2;have q3:=G4.B9.c3;obtain⟨c0,c1,c2⟩:=MH4.g;obtain⟨d0,d1,d2⟩:=ML4.g;have f0:=L4.own.frozenAt (y*3);have f3:=L4.own.frozenAt (y*3+1);have f4:=L4.own.frozenAt (y*3+2)))
   have z4:=u4.size;have z3:=u3.size;have hgL:=(L4.own.lt gL rfl).2;have l9:=G.B9.lt;have l4:=G.B4.lt;have GK4:=(GK.out.lu (fun _=>0) (Nat.le_refl _)).aA u4;obtain⟨xs,LL4⟩:=GK4.lo;have lL:=GK4.lb gL rfl;have HL4:Hid (lu lab1 w2.heap.size (fun _=>0) (w.heap.size+1)=9):=ae ((aj om).trans HL4.out);have HL0:Hid (∀q,q<w0.heap.size->lu lab1 w2.heap.size (fun _=>0) q=9):=ae (fun q hq=>(aj (by have:=G.O.size;omega)).trans (HLB.out q hq));obtain⟨ys,LP⟩:=LL4.put y (r:=⟨f2,n6,X2,m2,Y2⟩) (K4.imp (p':=fun q=>lu lab1 w2.heap.size (fun _=>0) q=0/\q≠gL) (fun q _ h=>⟨cX om,fun e=>by have h:=lL;rw[<-e,cX om] at h;omega⟩));have M5:af w4 _ gL:=(((af.refl w4 gL).setCell (y*3) (.bool f2)).setCell (y*3+1) (.slice b1 n6 l1)).setCell (y*3+2) (.slice b2 m2 l2);have GK8:=ae (GK4.setL (fun q _ hne=>M5.other q (fun e=>hne (by rw[e];exact lL))) (fun _ _=>rfl) ⟨_,LP⟩ (fun g hg=>GK4.lb g hg));have G8:=G4.mg M5 n3' n2' n4;have HE2:Hid ((fun j=>if j=nV X n p1 % nl then rd ((Hi (nV X n p1 % nl)).q+mkRat ((k:Int)/8 % 2) 3) else Lo j)=fun j=>if j=y then br.mk f2 n6 X2 m2 Y2 else Lo j):=ae (by rw[HY.out,HE.out,<-HR2.out];rfl);have G:=G8;generalize ((w4.setCell (jj gL (y*3)) (.bool f2)).setCell (jj gL (y*3+1)) (.slice b1 n6 l1)).setCell (jj gL (y*3+2)) (.slice b2 m2 l2)=w5 at*;clear q2 q3 c0 c1 c2 d0 d1 d2 f0 f3 f4 M5 LP LL4 GK4 G4 MH4 ML4 L4 u4 u3 MH ML MH3 G3 K3 K4 J1 J3 s3 s4 RV;exact un
 have g2:((k:Int) % 8==2)=false:=by simp;omega
 by_cases x3:k % 8=3
 . have g3:((k:Int) % 8==3)=true:=by simp;omega
   have JN:=@cT c a b off n cap X p1 w1.drew hn (G.R.aA (ao (eg _ _)));have m0:¬nl=0:=om
   have kk:=G.B9.c3;go_wp2_with fail
   go_region_held3 (fun w'=>w'.cell? (jj w.heap.size 3)=some (.s gH nl cH)) (go_keep)
    (first
      | (go_at_call 41
         with_reducible refine JN.mono ?_
         rintro e w2 ⟨k2,ek2,rfl,hk2,R2,O2⟩;have O12:cu c w1 w2:=⟨O2.os,O2.tape,O2.output,O2.size,O2.block⟩;have G2:=G.go R2 O12;have kk:=G2.B9.c3;obtain⟨y,hy⟩:∃t,k2 % nl=t:=⟨_,rfl⟩;have ht':=tm hy;have hyl:y<nl:=by rw[<-hy];exact Nat.mod_lt _ om
         have HY:Hid (nV X n p1 % nl=y):=ae (by rw[ek2];exact hy);clear hy ek2))
   have G:=G2;have GK:=ae (GK.out.aI O12 (HLB.out c hcl));obtain⟨p2,hp2⟩:∃q,nP n p1=q:=⟨_,rfl⟩;have HP2:=ae hp2;rw[hp2] at G;clear JN kk ht' R2 O2 O12 G2 hp2;obtain⟨xH,LH⟩:=GK.out.hi;have nH:=GK.out.hb gH rfl;obtain⟨n2,n2'⟩:=dE nH HL9.out om;obtain⟨n3,n3'⟩:=dE nH HL4.out om;have n4:w0.heap.size<=gH:=Nat.le_of_not_lt fun h=>by have:=HLB.out gH h;omega
   have hcg:gH≠c:=om
   obtain⟨a1,a2,k1,k4,c0,c1,c2,KH⟩:=LH.cells hyl;obtain⟨q,hq,hQ⟩:=HB.out.H y hyl;have HN1:=ae (uo hQ);rw[<-show Hi y=rd q from hq] at HN1;obtain⟨rH,hrH⟩:∃r,Hi y=r:=⟨_,rfl⟩;rw[hrH] at HN1 KH c0 c1 c2;obtain⟨f1,n5,X1,m1,Y1⟩:=rH;have MH:jM w2 0 gH (y*3) ⟨f1,n5,X1,m1,Y1⟩ a1 a2 k1 k4:=⟨c0,c1,c2,KH.l⟩;have HRH:=ae hrH;have HLL:=ae LH;have q5:=G.B9.c3;have hy1:(y:Int)<nl:=om
   have hy0:¬(y:Int)<0:=om
   have JN:=@cT c a b off n cap X p2 w2.drew hn (G.R.aA (ao (eg _ _)));clear hq hQ hrH LH c0 c1 c2;go_wp2_with fail;refine wp_region_held_drew (S:=fun w'=>w'.cell? (jj w.heap.size 3)=some (.s gH nl cH)) kr (by exact q5) (fun hHeld=> ?_);refine tk 0 66 (.p w.heap.size 3) ?_;simp only[ap,la,lz,ls];refine ta 1 67 (.s gH nl cH) ?_ ?_
   . intro w' hSw
     try dsimp only at hSw
     go_simp
   simp only[ap,la,lz,ls];refine tk 2 68 (.i (y:Int)) ?_;simp only[ap,la,lz,ls];refine tk 3 69 (.p w.heap.size 3) ?_;simp only[ap,la,lz,ls];refine ta 4 70 (.s gH nl cH) ?_ ?_
   . intro w' hSw
     try dsimp only at hSw
     go_simp
   simp only[ap,la,lz,ls];refine tk 5 71 (.i (y:Int)) ?_;simp only[ap,la,lz,ls];refine ta 6 72 (.p gH (y*3)) ?_ ?_
   . intro w' hSw
     try dsimp only at hSw
     go_simp
   simp only[ap,la,lz,ls];refine tk 8 74 (.p c 0) ?_;simp only[ap,la,lz,ls];refine wpAnyH_ready (rs:=[7,9]) kr qz ?_;refine AllReadyH.cons rfl (fun K hK=> ?_) (AllReadyH.cons rfl (fun K hK=> ?_) AllReadyH.nil)
   . have c0:=MH.c0
     have c1:=MH.c1;have c2:=MH.c2;go_simp;refine hK.out _ _ (by exact q5) (fun h1=> ?_);clear hK K hHeld c0 c1 c2;refine wpAnyH_ready (rs:=[9]) kr qz ?_;refine AllReadyH.cons rfl (fun K hK=> ?_) AllReadyH.nil;go_simp
     go_wp2_with (go_at_call 41;with_reducible refine JN.mono ?_;rintro e w3 ⟨k3,ek3,rfl,hk3,R3,O3⟩)
     have O23:cu c w2 w3:=⟨O3.os,O3.tape,O3.output,O3.size,O3.block⟩;have G3:=G.go R3 O23;have MH3:=MH.aI KH O23 hcg (fun q h e=>by have:=h.1;rw[e,HLB.out c hcl] at this;omega);have q5:=G3.B9.c3;refine hK.out _ _ q5 (fun h2=> ?_);clear hK K h1;exact agU
   . go_simp
     go_wp2_with (go_at_call 41;with_reducible refine JN.mono ?_;rintro e w3 ⟨k3,ek3,rfl,hk3,R3,O3⟩)
     have O23:cu c w2 w3:=⟨O3.os,O3.tape,O3.output,O3.size,O3.block⟩;have G3:=G.go R3 O23;have MH3:=MH.aI KH O23 hcg (fun q h e=>by have:=h.1;rw[e,HLB.out c hcl] at this;omega);have q5:=G3.B9.c3;refine hK.out _ _ q5 (fun h1=> ?_);clear hK K hHeld;refine wpAnyH_ready (rs:=[7]) kr qz ?_;refine AllReadyH.cons rfl (fun K hK=> ?_) AllReadyH.nil;obtain⟨c0,c1,c2⟩:=MH3.g;go_simp;refine hK.out _ _ q5 (fun h2=> ?_);clear hK K h1 c0 c1 c2;exact agU
 have g3:((k:Int) % 8==3)=false:=by simp;omega
 by_cases y4:k % 8=4
 . have g4:((k:Int) % 8==4)=true:=by simp;omega
   have x4:k % 8=4∨nn=0:=Or.inl y4;have JB:=@sK c a b off n cap X p1 (nn:Int) w1 hn G.R om om;have HBD:=ae (mY (z:=(nn:Int)) (gK G.R.hX p1) om);obtain⟨z,hz⟩:∃z,bd (nV X n p1) (nn:Int)=z:=⟨_,rfl⟩;have HZ:=ae hz;have IU:Hid (ef z):=ae (by have h:=HBD.out;unfold ef;omega);rw[hz] at JB;have b0:=G.B9.c0;have b4:=G.B9.c4;clear hz;go_wp2_with fail;refine JB.mono ?_;rintro e w2 ⟨rfl,R2,O2⟩;have G:=G.go R2 O2;have GK8:=ae ((GK.out.aI O2 (HLB.out c hcl)).bE ((af.refl w2 w.heap.size).setCell 5 (.i z)) HL9.out);have G8:=G.aO (.i z);exact un
 have g4:((k:Int) % 8==4)=false:=by simp;omega
 by_cases x5:nn=0
 . have g5:((nn:Int)==0)=true:=by simp;omega
   have x4:k % 8=4∨nn=0:=Or.inr x5;clear x5;have JB:=@sK c a b off n cap X p1 (nn:Int) w1 hn G.R om om;have HBD:=ae (mY (z:=(nn:Int)) (gK G.R.hX p1) om);obtain⟨z,hz⟩:∃z,bd (nV X n p1) (nn:Int)=z:=⟨_,rfl⟩;have HZ:=ae hz;have IU:Hid (ef z):=ae (by have h:=HBD.out;unfold ef;omega);rw[hz] at JB;have b0:=G.B9.c0;have b4:=G.B9.c4;clear hz;go_wp2_with fail;refine JB.mono ?_;rintro e w2 ⟨rfl,R2,O2⟩;have G:=G.go R2 O2;have GK8:=ae ((GK.out.aI O2 (HLB.out c hcl)).bE ((af.refl w2 w.heap.size).setCell 5 (.i z)) HL9.out);have G8:=G.aO (.i z);exact un
 have g5:((nn:Int)==0)=false:=by simp;omega
 have x4:¬(k % 8=4∨nn=0):=om
 have JN:=@cT c a b off n cap X p1 w1.drew hn (G.R.aA (ao (eg _ _)));have m0:¬nn=0:=om
 have kk:=G.B9.c4;go_wp2_with fail
 go_region_held3 (fun w'=>w'.cell? (jj w.heap.size 4)=some (.s gN nn cN)) (go_keep)
  (first
    | (go_at_call 41
       with_reducible refine JN.mono ?_
       rintro e w2 ⟨k2,ek2,rfl,hk2,R2,O2⟩;have O12:cu c w1 w2:=⟨O2.os,O2.tape,O2.output,O2.size,O2.block⟩;have G2:=G.go R2 O12;have kk:=G2.B9.c4;obtain⟨y,hy⟩:∃t,k2 % nn=t:=⟨_,rfl⟩;have ht':=tm hy;have hyl:y<nn:=by rw[<-hy];exact Nat.mod_lt _ om
       have HY:Hid (nV X n p1 % nn=y):=ae (by rw[ek2];exact hy);clear hy ek2))
 have G:=G2;have GK:=ae (GK.out.aI O12 (HLB.out c hcl));obtain⟨p2,hp2⟩:∃q,nP n p1=q:=⟨_,rfl⟩;have HP2:=ae hp2;rw[hp2] at G;clear JN kk ht' R2 O2 O12 G2 hp2;obtain⟨xN,oN,hN⟩:=GK.out.no;obtain⟨gV,cV,yV,t0,t1,t2,t3,t4,t5,LV,lV⟩:=hN y hyl;have lN:=GK.out.nb gN rfl;have BN:=HB.out.N y hyl;have BV:=ae (show ∀i,i<(N y).nv->((N y).V i).n<=11/\((N y).V i).m<=11 from fun i hi=>by obtain⟨q,e,h⟩:=HB.out.V y hyl i hi;rw[show (N y).V i=rd q from e];exact uo h);simp only at BN;obtain⟨ND,hND⟩:∃x,N y=x:=⟨_,rfl⟩;rw[hND] at t0 t1 t2 t3 t4 t5 LV BN;have BV:Hid (∀i,i<ND.nv->(ND.V i).n<=11/\(ND.V i).m<=11):=ae (by rw[<-hND];exact BV.out);have HND:=ae hND;obtain⟨op,na,nb,nk,ns,nv,V⟩:=ND;simp only at t0 t1 t2 t3 t4 t5 LV BN;have r0:=(oN.cellAt _ (by have:=oN.1;omega)).trans t0;have r1:=(oN.cellAt _ (by have:=oN.1;omega)).trans t1;have r2:=(oN.cellAt _ (by have:=oN.1;omega)).trans t2;have r3:=(oN.cellAt _ (by have:=oN.1;omega)).trans t3;have r4:=(oN.cellAt _ (by have:=oN.1;omega)).trans t4;have r5:=(oN.cellAt _ (by have:=oN.1;omega)).trans t5;have HLV:=ae LV;have q4:=G.B9.c4;have hy1:(y:Int)<nn:=om
 have hy0:¬(y:Int)<0:=om
 have wr0:IntKind.i64.wrap (1+(y:Int))=1+(y:Int):=wrap64 om om;have ey:1+(y:Int)-1=(y:Int):=om
 obtain⟨w3,e3⟩:∃x:World,x=w2.alloc (.cells #[.i op,.i na,.i nb,.i nk,.i ns,.s gV nv cV] 48):=⟨_,rfl⟩;have s3:w2.S w3:=by rw[e3];exact bJ _ _
 have bN:au w3 w2.heap.size (.i op) (.i na) (.i nb) (.i nk) (.i ns) (.s gV nv cV):=by rw[e3];exact au.new _ _ _ _ _ _ _ _
 clear hND t0 t1 t2 t3 t4 t5 LV hN oN
 go_upto_region 21 with fail
 rw[<-e3];clear e3;have z3:=s3.size;have rR:=bN.lt;have l9:=G.B9.lt;have l4:=G.B4.lt;have hgV:=(HLV.out.own.lt gV rfl).2;have hwc:c<w2.heap.size:=by have:=G.O.size;omega
 have HGY:=ae (((GK.out.lu (fun _=>9) (Nat.le_refl _)).aA s3).less y);have HL9:Hid (lu lab1 w2.heap.size (fun _=>9) w.heap.size=9):=ae ((aj l9).trans HL9.out);have HL4:Hid (lu lab1 w2.heap.size (fun _=>9) (w.heap.size+1)=9):=ae ((aj l4).trans HL4.out);have HLC:Hid (lu lab1 w2.heap.size (fun _=>9) c=9):=ae ((aj hwc).trans (HLB.out c hcl));have HLN:Hid (lu lab1 w2.heap.size (fun _=>9) w2.heap.size=9):=ae (cX (Nat.le_refl _));have HlV:Hid (lu lab1 w2.heap.size (fun _=>9) gV=10+y):=ae ((aj hgV).trans lV);have HLV:Hid (fP w3 0 (fun q=>lu lab1 w2.heap.size (fun _=>9) q=0) (.s gV nv cV) nv V yV):=ae ((HLV.out.mv (w':=w2) (fun _ _=>rfl) (fun q hq h=>⟨rfl,(aj hq).trans h⟩)).aA s3);have HL0:Hid (∀q,q<w0.heap.size->lu lab1 w2.heap.size (fun _=>9) q=9):=ae (fun q hq=>(aj om).trans (HLB.out q hq));have G:=G.aA s3;have n9:w2.heap.size≠w.heap.size/\w2.heap.size≠w.heap.size+1/\w2.heap.size≠c/\w0.heap.size<=w2.heap.size:=om
 have JN:=@cT c a b off n cap X p2 w3 hn G.R;generalize lu lab1 w2.heap.size (fun _=>9)=lab2 at*;generalize w2.heap.size=cB at*;clear r0 r1 r2 r3 r4 r5 q4 GK lN lV;go_wp2_with fail;refine JN.mono ?_;rintro e w4 ⟨k4,ek4,rfl,hk4,R4,O4⟩;have HGY:=ae (HGY.out.mv (w':=w4) (fun q hq hl=>⟨O4.block q hq (fun e=>by have:=HLC.out;subst e;omega),rfl⟩));have HLV:=ae (HLV.out.aI O4 (fun e=>by have:=HlV.out;have h2:=HLC.out;simp[Value.ownBlock] at e;subst e;omega) (fun q h e=>by have:=HLC.out;subst e;omega));have bN:=bN.aI O4 n9.2.2.1;have G:=G.go R4 O4;obtain⟨p3,hp3⟩:∃q,nP n p2=q:=⟨_,rfl⟩;rw[hp3] at G;have HP3:=ae hp3;have HK4:=ae ek4;have hvX:=ae G.R.hX;clear JN R4 O4 hp3 ek4 s3
 go_upto_if 112 with fail
 go_cut [] (fun wx=>∃(d8:ay) (gV8 cV8 p8:Nat) (lab8:Nat->Nat),jk w0 wx c a b off n cap X p8 (w.heap.size+1) w.heap.size (.i inn) (.i rounds) (.s gL nl cL) (.s gH nl cH) (.s gN nn cN) (.i out)/\au wx cB (.i d8.op) (.i d8.a) (.i d8.b) (.i d8.k) (.i d8.s) (.s gV8 d8.nv cV8)/\Hid (abO wx lab8 (.s gL nl cL) (.s gH nl cH) (.s gN nn cN) nl nl nn Lo Hi N y)/\Hid (∃ys,fP wx 0 (fun q=>lab8 q=0) (.s gV8 d8.nv cV8) d8.nv d8.V ys)/\Hid (lab8 gV8=10+y)/\Hid (lab8 w.heap.size=9/\lab8 (w.heap.size+1)=9/\∀q,q<w0.heap.size->lab8 q=9)/\Hid (pb X n ⟨op,na,nb,nk,ns,nv,V⟩ (y+1) k4 p3=d8)/\Hid (NI d8))
 case first=>
  by_cases z0:k4 % 9=0
  . have f0:((k4:Int) % 9==0)=true:=by simp;omega
    have JB:=@sK c a b off n cap X p3 7 w4 hn G.R om om;have HBD:=ae (mY (z:=7) (gK hvX.out p3) om);obtain⟨z,hz⟩:∃z,bd (nV X n p3) 7=z:=⟨_,rfl⟩;have HSN:Hid (pb X n ⟨op,na,nb,nk,ns,nv,V⟩ (y+1) k4 p3=⟨z,na,nb,nk,ns,nv,V⟩):=ae (by unfold pb;rw[if_pos z0];simp only;first | rw[hz] | rw[show ((y+1:Nat):Int)=1+(y:Int) by omega,hz]);have HNY:Hid (NI ⟨z,na,nb,nk,ns,nv,V⟩):=ae (by have h:=HBD.out;rw[hz] at h;unfold NI ef;simp only;omega);rw[hz] at JB;have b0:=bN.c0;clear hz HBD;go_wp2_with fail;refine JB.mono ?_;rintro e w5 ⟨rfl,R5,O5⟩;clear b0 JB;have bN5:=bN.aI O5 n9.2.2.1;have b0:=bN5.c0;have bf:=bN5.f 0;have bN8:=bN5.aE (.i z);have M8:=(af.refl w5 cB).setCell 0 (.i z);go_wp2
    go_meet
    case rel=>exact wy
  have f0:((k4:Int) % 9==0)=false:=by simp;omega
  by_cases z1:k4 % 9=1
  . have f1:((k4:Int) % 9==1)=true:=by simp;omega
    have JB:=@sK c a b off n cap X p3 (1+(y:Int)) w4 hn G.R om om;have HBD:=ae (mY (z:=(1+(y:Int))) (gK hvX.out p3) om);obtain⟨z,hz⟩:∃z,bd (nV X n p3) (1+(y:Int))=z:=⟨_,rfl⟩;have HSN:Hid (pb X n ⟨op,na,nb,nk,ns,nv,V⟩ (y+1) k4 p3=⟨op,z,nb,nk,ns,nv,V⟩):=ae (by unfold pb;rw[if_neg z0,if_pos z1];simp only;first | rw[hz] | rw[show ((y+1:Nat):Int)=1+(y:Int) by omega,hz]);have HNY:Hid (NI ⟨op,z,nb,nk,ns,nv,V⟩):=ae (by have h:=HBD.out;rw[hz] at h;unfold NI ef;simp only;omega);rw[hz] at JB;have b0:=bN.c1;clear hz HBD;go_wp2_with fail;refine JB.mono ?_;rintro e w5 ⟨rfl,R5,O5⟩;clear b0 JB;have bN5:=bN.aI O5 n9.2.2.1;have b0:=bN5.c1;have bf:=bN5.f 1;have bN8:=bN5.aG (.i z);have M8:=(af.refl w5 cB).setCell 1 (.i z);go_wp2
    go_meet
    case rel=>exact wy
  have f1:((k4:Int) % 9==1)=false:=by simp;omega
  by_cases z2:k4 % 9=2
  . have f2:((k4:Int) % 9==2)=true:=by simp;omega
    have JB:=@sK c a b off n cap X p3 (1+(y:Int)) w4 hn G.R om om;have HBD:=ae (mY (z:=(1+(y:Int))) (gK hvX.out p3) om);obtain⟨z,hz⟩:∃z,bd (nV X n p3) (1+(y:Int))=z:=⟨_,rfl⟩;have HSN:Hid (pb X n ⟨op,na,nb,nk,ns,nv,V⟩ (y+1) k4 p3=⟨op,na,z,nk,ns,nv,V⟩):=ae (by unfold pb;rw[if_neg z0,if_neg z1,if_pos z2];simp only;first | rw[hz] | rw[show ((y+1:Nat):Int)=1+(y:Int) by omega,hz]);have HNY:Hid (NI ⟨op,na,z,nk,ns,nv,V⟩):=ae (by have h:=HBD.out;rw[hz] at h;unfold NI ef;simp only;omega);rw[hz] at JB;have b0:=bN.c2;clear hz HBD;go_wp2_with fail;refine JB.mono ?_;rintro e w5 ⟨rfl,R5,O5⟩;clear b0 JB;have bN5:=bN.aI O5 n9.2.2.1;have b0:=bN5.c2;have bf:=bN5.f 2;have bN8:=bN5.aF (.i z);have M8:=(af.refl w5 cB).setCell 2 (.i z);go_wp2
    go_meet
    case rel=>exact wy
  have f2:((k4:Int) % 9==2)=false:=by simp;omega
  by_cases z3:k4 % 9=3
  . have f3:((k4:Int) % 9==3)=true:=by simp;omega
    have JB:=@sK c a b off n cap X p3 nk w4 hn G.R om om;have HBD:=ae (mY (z:=nk) (gK hvX.out p3) om);obtain⟨z,hz⟩:∃z,bd (nV X n p3) nk=z:=⟨_,rfl⟩;have HSN:Hid (pb X n ⟨op,na,nb,nk,ns,nv,V⟩ (y+1) k4 p3=⟨op,na,nb,z,ns,nv,V⟩):=ae (by unfold pb;rw[if_neg z0,if_neg z1,if_neg z2,if_pos z3];simp only;first | rw[hz] | rw[show ((y+1:Nat):Int)=1+(y:Int) by omega,hz]);have HNY:Hid (NI ⟨op,na,nb,z,ns,nv,V⟩):=ae (by have h:=HBD.out;rw[hz] at h;unfold NI ef;simp only;omega);rw[hz] at JB;have b0:=bN.c3;clear hz HBD;go_wp2_with fail;refine JB.mono ?_;rintro e w5 ⟨rfl,R5,O5⟩;clear b0 JB;have bN5:=bN.aI O5 n9.2.2.1;have b0:=bN5.c3;have bf:=bN5.f 3;have bN8:=bN5.aK (.i z);have M8:=(af.refl w5 cB).setCell 3 (.i z);go_wp2
    go_meet
    case rel=>exact wy
  have f3:((k4:Int) % 9==3)=false:=by simp;omega
  by_cases z4:k4 % 9=4
  . have f4:((k4:Int) % 9==4)=true:=by simp;omega
    have JB:=@sK c a b off n cap X p3 ns w4 hn G.R om om;have HBD:=ae (mY (z:=ns) (gK hvX.out p3) om);obtain⟨z,hz⟩:∃z,bd (nV X n p3) ns=z:=⟨_,rfl⟩;have HSN:Hid (pb X n ⟨op,na,nb,nk,ns,nv,V⟩ (y+1) k4 p3=⟨op,na,nb,nk,z,nv,V⟩):=ae (by unfold pb;rw[if_neg z0,if_neg z1,if_neg z2,if_neg z3,if_pos z4];simp only;first | rw[hz] | rw[show ((y+1:Nat):Int)=1+(y:Int) by omega,hz]);have HNY:Hid (NI ⟨op,na,nb,nk,z,nv,V⟩):=ae (by have h:=HBD.out;rw[hz] at h;unfold NI ef;simp only;omega);rw[hz] at JB;have b0:=bN.c4;clear hz HBD;go_wp2_with fail;refine JB.mono ?_;rintro e w5 ⟨rfl,R5,O5⟩;clear b0 JB;have bN5:=bN.aI O5 n9.2.2.1;have b0:=bN5.c4;have bf:=bN5.f 4;have bN8:=bN5.aS (.i z);have M8:=(af.refl w5 cB).setCell 4 (.i z);go_wp2
    go_meet
    case rel=>exact wy
  have f4:((k4:Int) % 9==4)=false:=by simp;omega
  by_cases z5:k4 % 9=5
  . have f5:((k4:Int) % 9==5)=true:=by simp;omega
    have JQ:=@ael c a b off n cap X p3 w4.drew hn (G.R.aA (ao (eg _ _)));obtain⟨rQ,hrQ⟩:∃r,rd (rq X n p3)=r:=⟨_,rfl⟩;rw[hrQ] at JQ;have HSN:Hid (pb X n ⟨op,na,nb,nk,ns,nv,V⟩ (y+1) k4 p3=⟨op,na,nb,nk,ns,nv+1,fun j=>if j=nv then rQ else V j⟩):=ae (by unfold pb;rw[if_neg z0,if_neg z1,if_neg z2,if_neg z3,if_neg z4,if_pos z5,<-hrQ]);have HNY:Hid (NI ⟨op,na,nb,nk,ns,nv+1,fun j=>if j=nv then rQ else V j⟩):=ae (by unfold NI ef;simp only;omega);obtain⟨fQ,nQ,XQ,mQ,YQ⟩:=rQ;obtain⟨i0,hi,hz0,hz1,hz2⟩:=jY;have b5:=bN.c5;clear hrQ;go_wp2_with fail;refine wp_region_held_drew (S:=fun _=>True) kr trivial (fun hHeld=> ?_);refine tk 0 149 (.p cB 5) ?_;simp only[ap,la,lz,ls];refine tk 2 151 (.p c 0) ?_;simp only[ap,la,lz,ls];refine wpAnyH_ready (rs:=[1,3]) kr qz ?_;refine AllReadyH.cons rfl (fun K hK=> ?_) (AllReadyH.cons rfl (fun K hK=> ?_) AllReadyH.nil)
    . go_simp
      refine hK.out _ _ trivial (fun h1=> ?_);clear hK K hHeld;refine wpAnyH_ready (rs:=[3]) kr qz ?_;refine AllReadyH.cons rfl (fun K hK=> ?_) AllReadyH.nil;go_simp
      go_wp2_with (go_at_call 98;with_reducible refine JQ.mono ?_;rintro e w5 ⟨a1,a2,k1,k2,rfl,K5,R5,O5⟩)
      have O45:cu c w4 w5:=⟨O5.os,O5.tape,O5.output,O5.size,O5.block⟩;have bN5:=bN.aI O45 n9.2.2.1;refine hK.out _ _ trivial (fun h2=> ?_);clear hK K h1;refine wpAnyH_ready (rs:=[4]) kr qz ?_;refine AllReadyH.cons rfl (fun K hK=> ?_) AllReadyH.nil;go_simp;refine hK.out _ _ trivial (fun h3=> ?_);clear hK K h2;exact ahy
    . go_simp
      go_wp2_with (go_at_call 98;with_reducible refine JQ.mono ?_;rintro e w5 ⟨a1,a2,k1,k2,rfl,K5,R5,O5⟩)
      have O45:cu c w4 w5:=⟨O5.os,O5.tape,O5.output,O5.size,O5.block⟩;have bN5:=bN.aI O45 n9.2.2.1;refine hK.out _ _ trivial (fun h1=> ?_);clear hK K hHeld;refine wpAnyH_ready (rs:=[1,4]) kr qz ?_;refine AllReadyH.cons rfl (fun K hK=> ?_) (AllReadyH.cons rfl (fun K hK=> ?_) AllReadyH.nil)
      . have b5:=bN5.c5
        go_simp;refine hK.out _ _ trivial (fun h2=> ?_);clear hK K h1;refine wpAnyH_ready (rs:=[4]) kr qz ?_;refine AllReadyH.cons rfl (fun K hK=> ?_) AllReadyH.nil;go_simp;refine hK.out _ _ trivial (fun h3=> ?_);clear hK K h2;exact ahy
      . go_simp
        refine hK.out _ _ trivial (fun h2=> ?_);clear hK K h1;refine wpAnyH_ready (rs:=[1]) kr qz ?_;refine AllReadyH.cons rfl (fun K hK=> ?_) AllReadyH.nil;have b5:=(bN5.aA ((eg w5.heap.size w5).alloc (Nat.le_refl _) (.cells #[.bool fQ,.slice a1 nQ k1,.slice a2 mQ k2] 44))).c5;go_simp;refine hK.out _ _ trivial (fun h3=> ?_);clear hK K h2;exact ahy
  have f5:((k4:Int) % 9==5)=false:=by simp;omega
  have b5:=bN.c5
  by_cases hv:0<nv
  case neg=>
   have hv':¬(0:Int)<nv:=om
   have hv2:¬(2:Int)<nv:=om
   have HSN:Hid (pb X n ⟨op,na,nb,nk,ns,nv,V⟩ (y+1) k4 p3=⟨1+(nV X n p3:Int) % 7,na,nb,nk,ns,nv,V⟩):=ae (by unfold pb;rw[if_neg z0,if_neg z1,if_neg z2,if_neg z3,if_neg z4,if_neg z5,if_neg (fun h=>hv h.1),if_neg (fun h=>hv h.1),if_neg (by simp only;omega)]);clear hv;exact agS
  have hv':(0:Int)<nv:=om
  by_cases z6:k4 % 9=6
  . have f6:((k4:Int) % 9==6)=true:=by simp;omega
    obtain⟨m,hm⟩:∃m,nv=m+1:=⟨nv-1,om⟩;have em:(nv:Int)-1=(m:Int):=om
    have HSN:Hid (pb X n ⟨op,na,nb,nk,ns,nv,V⟩ (y+1) k4 p3=⟨op,na,nb,nk,ns,m,V⟩):=ae (by unfold pb;rw[if_neg z0,if_neg z1,if_neg z2,if_neg z3,if_neg z4,if_neg z5,if_pos ⟨hv,z6⟩,hm];rfl);have HNY:Hid (NI ⟨op,na,nb,nk,ns,m,V⟩):=ae (by unfold NI ef;simp only;omega);have hcap:nv<=cV:=(HLV.out.rl (B:=0) (fun _ _=>Nat.zero_le _) (fun _ _=>Nat.zero_le _)).1;have hcap2:m<=cV:=om
    have HLV:=HLV.out;rw[hm] at HLV;have bf:=bN.f 5;obtain⟨yP,LP⟩:=HLV.pre;have HLV:=ae LP;have HM:=ae hm;clear hm LP;have bN8:=bN.aO (.s gV m cV);have M8:=(af.refl w4 cB).setCell 5 (.s gV m cV);go_wp2
    go_meet
    case rel=>exact aip
  have f6:((k4:Int) % 9==6)=false:=by simp;omega
  by_cases z7:k4 % 9=7
  . have f7:((k4:Int) % 9==7)=true:=by simp;omega
    have JN:=@cT c a b off n cap X p3 w4.drew hn (G.R.aA (ao (eg _ _)));have m0:¬nv=0:=om
    go_wp2_with fail
    go_region_held3 (fun w'=>w'.cell? (jj cB 5)=some (.s gV nv cV)) (go_keep)
     (first
       | (go_at_call 41
          with_reducible refine JN.mono ?_
          rintro e w5 ⟨k5,ek5,rfl,hk5,R5,O5⟩;have O45:cu c w4 w5:=⟨O5.os,O5.tape,O5.output,O5.size,O5.block⟩;have bN5:=bN.aI O45 n9.2.2.1;have b5:=bN5.c5;obtain⟨t,ht⟩:∃t,k5 % nv=t:=⟨_,rfl⟩;have ht':=tm ht;have htl:t<nv:=by rw[<-ht];exact Nat.mod_lt _ om
          have HT:Hid (nV X n p3 % nv=t):=ae (by rw[ek5];exact ht);clear ht ek5))
    have G:=G.go R5 O45;obtain⟨p5,hp5⟩:∃q,nP n p3=q:=⟨_,rfl⟩;have HP5:=ae hp5;rw[hp5] at G;have HGY:=ae (HGY.out.mv (w':=w5) (lab':=lab2) (fun q hq hl=>⟨O45.block q hq (fun e=>by have:=HLC.out;subst e;omega),rfl⟩));have HLV:=ae (HLV.out.aI O45 (fun e=>by have:=HlV.out;have h2:=HLC.out;simp[Value.ownBlock] at e;subst e;omega) (fun q h e=>by have:=HLC.out;subst e;omega));have bN:=bN5;clear JN b5 ht' R5 O5 O45 bN5 hp5 m0;obtain⟨n5,n5'⟩:=dE HlV.out HLN.out om;obtain⟨n6,n6'⟩:=dE HlV.out HL9.out om;obtain⟨n7,n7'⟩:=dE HlV.out HL4.out om;have n8:w0.heap.size<=gV:=Nat.le_of_not_lt fun h=>by have:=HL0.out gV h;have:=HlV.out;omega
    have hcg:gV≠c:=(dE HlV.out HLC.out om).1;have hcb:=n9.2.2.1;obtain⟨a1,a2,k1,k6,c0,c1,c2,KH⟩:=HLV.out.cells htl;have HN1:=ae (BV.out t htl);obtain⟨rH,hrH⟩:∃r,V t=r:=⟨_,rfl⟩;simp only[hrH] at HN1 KH c0 c1 c2;obtain⟨f1,n1,X1,m1,Y1⟩:=rH;have MH:jM w5 0 gV (t*3) ⟨f1,n1,X1,m1,Y1⟩ a1 a2 k1 k6:=⟨c0,c1,c2,KH.l⟩;have HRH:=ae hrH;have q5:=bN.c5;have ht1:(t:Int)<nv:=om
    have ht0:¬(t:Int)<0:=om
    have JN:=@cT c a b off n cap X p5 w5.drew hn (G.R.aA (ao (eg _ _)));clear hrH c0 c1 c2;go_wp2_with fail;refine wp_region_held_drew (S:=fun w'=>w'.cell? (jj cB 5)=some (.s gV nv cV)) kr (by exact q5) (fun hHeld=> ?_);refine tk 0 188 (.p cB 5) ?_;simp only[ap,la,lz,ls];refine ta 1 189 (.s gV nv cV) ?_ ?_
    . intro w' hSw
      try dsimp only at hSw
      go_simp
    simp only[ap,la,lz,ls];refine tk 2 190 (.i (t:Int)) ?_;simp only[ap,la,lz,ls];refine tk 3 191 (.p cB 5) ?_;simp only[ap,la,lz,ls];refine ta 4 192 (.s gV nv cV) ?_ ?_
    . intro w' hSw
      try dsimp only at hSw
      go_simp
    simp only[ap,la,lz,ls];refine tk 5 193 (.i (t:Int)) ?_;simp only[ap,la,lz,ls];refine ta 6 194 (.p gV (t*3)) ?_ ?_
    . intro w' hSw
      try dsimp only at hSw
      go_simp
    simp only[ap,la,lz,ls];refine tk 8 196 (.p c 0) ?_;simp only[ap,la,lz,ls];refine wpAnyH_ready (rs:=[7,9]) kr qz ?_;refine AllReadyH.cons rfl (fun K hK=> ?_) (AllReadyH.cons rfl (fun K hK=> ?_) AllReadyH.nil)
    . have c0:=MH.c0
      have c1:=MH.c1;have c2:=MH.c2;go_simp;refine hK.out _ _ (by exact q5) (fun h1=> ?_);clear hK K hHeld c0 c1 c2;refine wpAnyH_ready (rs:=[9]) kr qz ?_;refine AllReadyH.cons rfl (fun K hK=> ?_) AllReadyH.nil;go_simp
      go_wp2_with (go_at_call 41;with_reducible refine JN.mono ?_;rintro e w6 ⟨k3,ek3,rfl,hk3,R3,O3⟩)
      have O23:cu c w5 w6:=⟨O3.os,O3.tape,O3.output,O3.size,O3.block⟩;have G3:=G.go R3 O23;have MH3:=MH.aI KH O23 hcg (fun q h e=>by have:=h.1;rw[e,HLC.out] at this;omega);have bN3:=bN.aI O23 hcb;have q5:=bN3.c5;refine hK.out _ _ q5 (fun h2=> ?_);clear hK K h1;exact aiq
    . go_simp
      go_wp2_with (go_at_call 41;with_reducible refine JN.mono ?_;rintro e w6 ⟨k3,ek3,rfl,hk3,R3,O3⟩)
      have O23:cu c w5 w6:=⟨O3.os,O3.tape,O3.output,O3.size,O3.block⟩;have G3:=G.go R3 O23;have MH3:=MH.aI KH O23 hcg (fun q h e=>by have:=h.1;rw[e,HLC.out] at this;omega);have bN3:=bN.aI O23 hcb;have q5:=bN3.c5;refine hK.out _ _ q5 (fun h1=> ?_);clear hK K hHeld;refine wpAnyH_ready (rs:=[7]) kr qz ?_;refine AllReadyH.cons rfl (fun K hK=> ?_) AllReadyH.nil;obtain⟨c0,c1,c2⟩:=MH3.g;go_simp;refine hK.out _ _ q5 (fun h2=> ?_);clear hK K h1 c0 c1 c2;exact aiq
  have f7:((k4:Int) % 9==7)=false:=by simp;omega
  by_cases hw:2<nv
  . have hw':(2:Int)<nv:=om
    have JZ:=@dY w4.drew;obtain⟨rZ,hrZ⟩:∃r,rd 0=r:=⟨_,rfl⟩;have HSN:Hid (pb X n ⟨op,na,nb,nk,ns,nv,V⟩ (y+1) k4 p3=⟨op,na,nb,nk,ns,nv,fun j=>if j=2 then rZ else V j⟩):=ae (by unfold pb;rw[if_neg z0,if_neg z1,if_neg z2,if_neg z3,if_neg z4,if_neg z5,if_neg (fun h=>z6 h.2),if_neg (fun h=>z7 h.2),if_pos hw,<-hrZ]);have HNY:Hid (NI ⟨op,na,nb,nk,ns,nv,fun j=>if j=2 then rZ else V j⟩):=ae (by unfold NI ef;simp only;omega);have HZ0:=ae hrZ;obtain⟨fZ,nZ,XZ,mZ,YZ⟩:=rZ;obtain⟨n5,n5'⟩:=dE HlV.out HLN.out om;obtain⟨n6,n6'⟩:=dE HlV.out HL9.out om;obtain⟨n7,n7'⟩:=dE HlV.out HL4.out om;have n8:w0.heap.size<=gV:=Nat.le_of_not_lt fun h=>by have:=HL0.out gV h;have:=HlV.out;omega
    obtain⟨e1,e2,e3,e4,ML⟩:=HLV.out.rm hw;have hv3:(2:Int)<nv:=om
    have u0:=eg w4.heap.size w4;clear hrZ;go_wp2_with fail
    go_region_held3 (fun w'=>w'.cell? (jj cB 5)=some (.s gV nv cV)) (go_keep)
     (first
       | (go_at_call 90
          with_reducible refine JZ.mono ?_
          rintro e w5 ⟨u,rfl,RV,s5⟩;obtain⟨b1,b2,l1,l2,rfl,K5⟩:=dM.kq (q:=0) RV om;simp only[HZ0.out] at K5⊢;have u5:=(ao u0).trans s5;have b5:=(bN.aA u5).c5;have ML5:=ML.aA u5;have L5:=HLV.out.aA u5;obtain⟨d0,d1,d2⟩:=ML5.g;simp only[Nat.reduceMul,Nat.reduceAdd] at d0 d1 d2;have v0:=L5.own.frozenAt 6;have v1:=L5.own.frozenAt 7;have v2:=L5.own.frozenAt 8))
    have z5:=u5.size;have lgV:=HlV.out;have hgV:=(HLV.out.own.lt gV rfl).2;obtain⟨ys,LP⟩:=((HLV.out.mv (w':=w4) (p':=fun q=>lu lab2 w4.heap.size (fun _=>0) q=0) (fun _ _=>rfl) (fun q hq h=>⟨rfl,(aj hq).trans h⟩)).aA u5).put 2 (r:=⟨fZ,nZ,XZ,mZ,YZ⟩) (K5.imp (fun q _ (h:w4.heap.size<=q)=>⟨cX h,om⟩));have M6:af w5 _ gV:=(((af.refl w5 gV).setCell 6 (.bool fZ)).setCell 7 (.slice b1 nZ l1)).setCell 8 (.slice b2 mZ l2);have l9:=G.B9.lt;have l4:=G.B4.lt;have l0:=G.O.size;have G5:=G.aA u5;have bN5:=bN.aA u5;have HGY5:=ae (HGY.out.mv (w':=w5) (lab':=lu lab2 w4.heap.size (fun _=>0)) (fun q hq hl=>⟨u5.block q hq,aj hq⟩));have HLL:=ae (show lu lab2 w4.heap.size (fun _=>0) gV=10+y/\lu lab2 w4.heap.size (fun _=>0) w.heap.size=9/\lu lab2 w4.heap.size (fun _=>0) (w.heap.size+1)=9/\∀q,q<w0.heap.size->lu lab2 w4.heap.size (fun _=>0) q=9 from⟨(aj hgV).trans lgV,(aj l9).trans HL9.out,(aj l4).trans HL4.out,fun q hq=>(aj om).trans (HL0.out q hq)⟩);go_wp2
    go_meet
    case rel=>exact agR
  have hv2:¬(2:Int)<nv:=om
  have HSN:Hid (pb X n ⟨op,na,nb,nk,ns,nv,V⟩ (y+1) k4 p3=⟨1+(nV X n p3:Int) % 7,na,nb,nk,ns,nv,V⟩):=ae (by unfold pb;rw[if_neg z0,if_neg z1,if_neg z2,if_neg z3,if_neg z4,if_neg z5,if_neg (fun h=>z6 h.2),if_neg (fun h=>z7 h.2),if_neg hw]);exact agS
 case rest=>
  exact aio
def aiR(xs:List Value)(i gR:Nat):Prop:=xs[i*6]?=some (.int .i64 2)/\xs[i*6+1]?=some (.int .i64 (i:Int))/\xs[i*6+2]?=some (.int .i64 0)/\xs[i*6+3]?=some (.int .i64 0)/\xs[i*6+4]?=some (.int .i64 0)/\xs[i*6+5]?=some (.slice (some ⟨gR,0,none⟩) 0 0)
structure rM(w:World)(lab:Nat->Nat)(vL vH vN:Value)(nl nh n0 nn:Nat)(Lo Hi:Nat->br)(N:Nat->ay)(gR:Nat):Prop where
 lo:∃xs,fP w 0 (fun q=>lab q=0) vL nl Lo xs
 lb:∀g,vL.ownBlock=some g->lab g=1
 hi:∃xs,fP w 0 (fun q=>lab q=0) vH nh Hi xs
 hb:∀g,vH.ownBlock=some g->lab g=2
 no:∃xs,w.ownsRow 0 48 6 vN nn xs/\(∀i,i<n0->rK w lab i xs (N i))/\∀i,n0<=i->i<nn->aiR xs i gR
 nb:∀g,vN.ownBlock=some g->lab g=3
section
variable{w w' w1:World}{lab lab':Nat->Nat}{vL vH vN v':Value}{nl nh n0 nn gR c:Nat}{Lo Hi:Nat->br}{N:Nat->ay}{xs:List Value}
theorem dF.rel(h:dF w lab vL vH vN nl nh nn Lo Hi N)(gR:Nat):rM w lab vL vH vN nl nh nn nn Lo Hi N gR:=by
 obtain⟨xs,o,n⟩:=h.no;exact⟨h.lo,h.lb,h.hi,h.hb,⟨xs,o,n,fun i h1 h2=>absurd h2 om⟩,h.nb⟩
theorem rM.mv(h:rM w lab vL vH vN nl nh n0 nn Lo Hi N gR)(hb:∀g,g<w.heap.size->lab g<=3∨10<=lab g->w'.heap[g]?=w.heap[g]?/\lab' g=lab g):rM w' lab' vL vH vN nl nh n0 nn Lo Hi N gR:=by
 obtain⟨x3,L3,N3,R3⟩:=h.no;have k:=(dF.mv (w':=w') (lab':=lab') (nn:=0) (vN:=.n) ⟨h.lo,h.lb,h.hi,h.hb,⟨[],⟨rfl,Or.inl ⟨rfl,rfl⟩⟩,fun i hi=>absurd hi om⟩,fun g e=>by simp[Value.ownBlock] at e⟩ hb:dF w' lab' vL vH _ nl nh 0 Lo Hi N);exact⟨k.lo,k.lb,k.hi,k.hb,⟨x3,kU L3 (fun g hg=>(hb g (L3.lt g hg).2 (Or.inl (by rw[h.nb g hg];omega))).1),fun i hi=>(N3 i hi).mv fun g hg hp=>hb g hg om,R3⟩,fun g hg=>(hb g (L3.lt g hg).2 (Or.inl (by rw[h.nb g hg];omega))).2.trans (h.nb g hg)⟩
theorem rM.bE(h:rM w lab vL vH vN nl nh n0 nn Lo Hi N gR)(s:af w w' c)(hc:lab c=9):rM w' lab vL vH vN nl nh n0 nn Lo Hi N gR:=h.mv fun g _ hl=>⟨s.other g (fun e=>by subst e;omega),rfl⟩
theorem rM.app{g0 c0:Nat}(h:rM w lab vL vH vN nl nh n0 nn Lo Hi N gR)(hxs:w.ownsRow 0 48 6 vN nn xs/\(∀i,i<n0->rK w lab i xs (N i))/\∀i,n0<=i->i<nn->aiR xs i gR)(hn:n0<=nn)(s1:w.S w1)(hs:w.heap.size<w1.heap.size)(g:w1.grownBy w' vN.ownBlock)
 (own:w'.ownsRow 0 48 6 (.s g0 (nn+1) c0) (nn+1) (xs++[.i 2,.i (nn:Int),.i 0,.i 0,.i 0,.s gR 0 0]))(hat:vN.ownBlock=some g0∨g0=w1.heap.size):
 rM w' (lu lab w.heap.size (fun _=>3)) vL vH (.s g0 (nn+1) c0) nl nh n0 (nn+1) Lo Hi N gR/\∀q,q<w.heap.size->lab q≠3->w'.heap[q]?=w.heap[q]?:=by
 have blk:∀q,q<w.heap.size->lab q≠3->w'.heap[q]?=w.heap[q]?:=fun q hq hl=>(g.block q om (fun e=>hl (h.nb q e.symm))).trans (s1.block q hq)
 obtain⟨o,n,r⟩:=hxs;have hl:=o.1
 have k:=(dF.mv (w':=w') (lab':=lu lab w.heap.size (fun _=>3)) (lab:=fun q=>if lab q=3 then 9 else lab q) (nn:=0) (vN:=.n) (N:=N)
  ⟨by obtain⟨x,L⟩:=h.lo;exact⟨x,L.mv (fun _ _=>rfl) (fun q _ h=>⟨rfl,by rw[if_neg om];exact h⟩)⟩,fun g e=>by have:=h.lb g e;rw[if_neg om];exact this,by obtain⟨x,L⟩:=h.hi;exact⟨x,L.mv (fun _ _=>rfl) (fun q _ h=>⟨rfl,by rw[if_neg om];exact h⟩)⟩,fun g e=>by have:=h.hb g e;rw[if_neg om];exact this,⟨[],⟨rfl,Or.inl ⟨rfl,rfl⟩⟩,fun i hi=>absurd hi om⟩,fun g e=>by simp[Value.ownBlock] at e⟩
  (fun q hq hp=>by
    split at hp
    . omega
    . rename_i h3
      rw[if_neg h3];exact⟨blk q hq h3,aj hq⟩):dF w' (lu lab w.heap.size (fun _=>3)) vL vH _ nl nh 0 Lo Hi N)
 refine⟨⟨k.lo,k.lb,k.hi,k.hb,⟨_,own,fun i hi=> ?_,fun i h1 h2=> ?_⟩,fun q hq=> ?_⟩,blk⟩
 . obtain⟨g1,c1,y1,h0,h1,h2,h3,h4,h5,L0,e0⟩:=n i hi
   have nk:rK w lab i (xs++[.i 2,.i nn,.i 0,.i 0,.i 0,.s gR 0 0]) (N i):=by
    refine⟨g1,c1,y1, ?_, ?_, ?_, ?_, ?_, ?_,L0,e0⟩<;>(rw[List.getElem?_append_left om];assumption)
   exact nk.mv fun q hq hp=>⟨blk q hq om,aj hq⟩
 . by_cases e:i=nn
   . subst e
     refine⟨?_, ?_, ?_, ?_, ?_, ?_⟩<;>(rw[List.getElem?_append_right om,hl];simp)
   . obtain⟨h0,h1,h2,h3,h4,h5⟩:=r i h1 om
     refine⟨?_, ?_, ?_, ?_, ?_, ?_⟩<;>(rw[List.getElem?_append_left om];assumption)
 . simp only[Value.ownBlock,Option.some.injEq] at hq
   subst hq
   rcases hat with e | e
   . rw[aj (o.lt g0 e).2]
     exact h.nb g0 e
   . exact cX om
end
def yF(X:Nat->Nat)(n:Nat)(d:ax)(k p:Nat):ax:=
 if k % 4=0 then { d with nn:=1000+k/4 % 2,N:=fun j=>if j<d.nn then d.N j else ⟨2,j,0,0,0,0,fun _=>br.nul⟩,out:=(nV X n p % (1000+k/4 % 2+2):Nat) }
 else if k % 4=1 then ⟨1000+(k:Int)/4 % 2,d.rounds,1000+k/4 % 2,fun _=>rd 0,1000+k/4 % 2,fun _=>rd 1,1,fun _=>⟨6,0,0,996,1+(nV X n p:Int) % 3,997,fun i=>rd (mkRat ((i:Int) % 3-1) 1)⟩,1⟩
 else if k % 4=2 then { d with rounds:=1000+(k:Int)/4 % 2 }
 else { d with Lo:=fun j=>if j=0 then rd (mkRat (-(lv (xF X n p) (vF X n p):Int)) 1) else d.Lo j }
theorem wR{w:World}:Cl 91 #[] w fun e w'=>∃v,e=.returned v/\dM w' v false 1 1 w.heap.size 67108864/\w.S w':=by
 obtain⟨wa,ea⟩:∃x:World,x=w.alloc (.cells #[.bool false,.s (w.heap.size+1) 1 1,.s (w.heap.size+1+1) 1 1] 44):=⟨_,rfl⟩;obtain⟨wb,eb⟩:∃x:World,x=wa.alloc (.cells #[.int .u32 1] 129):=⟨_,rfl⟩;have sa:w.S wa:=by rw[ea];exact bJ _ _
 have sb:wa.S wb:=by rw[eb];exact bJ _ _
 have za:wa.heap.size=w.heap.size+1:=by rw[ea];simp
 have zb:wb.heap.size=w.heap.size+1+1:=by rw[eb];simp[za]
 have sc:=bJ wb (.cells #[.int .u32 1] 129);have ba:bj wa w.heap.size (.bool false) (.s (w.heap.size+1) 1 1) (.s (w.heap.size+1+1) 1 1):=by rw[ea];exact bj.new w _ _ _ _
 have n1:=il wa;rw[<-eb,za] at n1;have n2:=il wb;rw[zb] at n2;have bc:=(ba.aA sb).aA sc;have n1:=n1.aA sc;have sA:=(sa.tr sb).trans (sM sc (sa.tr sb).size);rw[eb,ea] at n1 n2 bc sA;go_enter Tryz.func91,Tryz.ntmps91;go_wp2;refine bodyPost_ret (mu rfl _ _ _ _ _ _ rfl bc) rfl ?_;exact⟨_,rfl,⟨_,_,w.heap.size+1,w.heap.size+1+1,rfl,n1,n2,om,om,om⟩,sA⟩
theorem rM.gral{w:World}{lab:Nat->Nat}{aL aH aN:Option Addr}{nl nh n0 nn gR kL kH kN:Nat}{Lo Hi:Nat->br}{N:Nat->ay}{inn rounds out:Int}{B:Nat}(h:rM w lab (.slice aL nl kL) (.slice aH nh kH) (.slice aN nn kN) nl nh n0 nn Lo Hi N gR)(hl:∀q,q<B->lab q=9)(hN:∀i,i<n0->NI (N i))(ii:ef inn)(ir:ef rounds)(io:ef out)(l:nl<=100000)(l':nh<=100000)(l'':nn<=100000):
 gj w B ⟨inn,rounds,nl,Lo,nh,Hi,nn,fun j=>if j<n0 then N j else ⟨2,j,0,0,0,0,fun _=>br.nul⟩,out⟩ aL aH aN kL kH kN:=by
 obtain⟨x1,L1⟩:=h.lo;obtain⟨x2,L2⟩:=h.hi;obtain⟨x3,o3,N3,R3⟩:=h.no;have h0:∀q,lab q=0->B<=q:=fun q e=>oF hl e om
 have r1:=L1.rl (fun g e=>oF hl (h.lb g e) om) h0;have r2:=L2.rl (fun g e=>oF hl (h.hb g e) om) h0;have hc:= @World.ownsRow.cells _ _ _ _ _ _ _ o3;obtain⟨_,⟨e,e0⟩ | ⟨gN,cap,cur,e,-,-,hn,-⟩⟩:=o3
 . cases e
   exact⟨r1.1,r2.1,Nat.le_refl _,r1.2,r2.2,⟨0,0,fun h=>absurd h qz,fun i hi=>absurd hi qz⟩,ii,ir,io,by simp only;omega,by simp only;omega,by simp only;omega⟩
 cases e;refine⟨r1.1,r2.1,hn,r1.2,r2.2,⟨gN,0,fun _=>oF hl (h.nb gN rfl) om,fun i hi=>⟨rfl, ?_⟩⟩,ii,ir,io,by simp only;omega,by simp only;omega,by simp only;omega⟩
 have hq:∃a1 k1,x3[i*6]?=some (.i (if i<n0 then N i else ⟨2,i,0,0,0,0,fun _=>br.nul⟩).op)/\x3[i*6+1]?=some (.i (if i<n0 then N i else ⟨2,i,0,0,0,0,fun _=>br.nul⟩).a)/\x3[i*6+2]?=some (.i (if i<n0 then N i else ⟨2,i,0,0,0,0,fun _=>br.nul⟩).b)/\x3[i*6+3]?=some (.i (if i<n0 then N i else ⟨2,i,0,0,0,0,fun _=>br.nul⟩).k)/\x3[i*6+4]?=some (.i (if i<n0 then N i else ⟨2,i,0,0,0,0,fun _=>br.nul⟩).s)/\x3[i*6+5]?=some (.slice a1 (if i<n0 then N i else ⟨2,i,0,0,0,0,fun _=>br.nul⟩).nv k1)/\ov w B (if i<n0 then N i else ⟨2,i,0,0,0,0,fun _=>br.nul⟩) a1 k1:=by
  by_cases e:i<n0
  . simp only[if_pos e]
    obtain⟨gg,c0,y0,t0,h1,h2,h3,h4,h5,L0,lg⟩:=N3 i e;have r0:=L0.rl (fun g e=>by simp[Value.ownBlock] at e;subst e;exact oF hl lg om) h0;obtain⟨i1,i2,i3,i4,i5,i6⟩:=hN i e;exact⟨_,_,t0,h1,h2,h3,h4,h5,r0.1,r0.2,i1,i2,i3,i4,i5,om⟩
  . simp only[if_neg e]
    obtain⟨t0,h1,h2,h3,h4,h5⟩:=R3 i om hi;have hi':i<nn:=hi;exact⟨_,_,t0,h1,h2,h3,h4,h5,Nat.le_refl _,⟨0,0,fun h=>absurd h qz,fun j hj=>absurd hj qz⟩,by unfold ef;simp only;omega,by unfold ef;simp only;omega,by unfold ef;simp only;omega,by unfold ef;simp only;omega,by unfold ef;simp only;omega,by simp only;omega⟩
 obtain⟨a1,k1,t0,h1,h2,h3,h4,h5,L⟩:=hq;have e0:=hc (g:=gN) rfl _ _ t0;have e1:=hc (g:=gN) rfl _ _ h1;have e2:=hc (g:=gN) rfl _ _ h2;have e3:=hc (g:=gN) rfl _ _ h3;have e4:=hc (g:=gN) rfl _ _ h4;have e5:=hc (g:=gN) rfl _ _ h5;rw[Go.WideShapes.add_plain] at e0 e1 e2 e3 e4 e5;refine⟨a1,k1,e0, ?_, ?_, ?_, ?_, ?_,L⟩
 . rw[Nat.add_assoc];exact e1
 . rw[Nat.add_assoc];exact e2
 . rw[Nat.add_assoc];exact e3
 . rw[Nat.add_assoc];exact e4
 . rw[Nat.add_assoc];exact e5
theorem acq{p:Prop}(h:p:=by
 have b0:=G.B9.c0;have b1:=G.B9.c1;have b2:=G.B9.c2;have b3:=G.B9.c3;have b4:=G.B9.c4;have b5:=G.B9.c5;have bf0:=G.B9.f 0;have bf1:=G.B9.f 1;have bf5:=G.B9.f 5;have u0:=G.B4.c0;have u1:=G.B4.c1;have u2:=G.B4.c2;have u3:=G.B4.c3;have u4:=G.B4.c4;have u5:=G.B4.c5;have uf0:=G.B4.f 0;have uf1:=G.B4.f 1;have uf2:=G.B4.f 2;have uf3:=G.B4.f 3;have uf4:=G.B4.f 4;have uf5:=G.B4.f 5;go_wp2;refine bodyPost_ret (dn rfl Tryz.underlying26 rfl fp _ _ _ _ _ _ _ _ _ rfl ((((((G8.B4.aE _).aG _).aF _).aK _).aS _).aO _)) rfl ?_;refine⟨_,rfl, ?_,(G8.m4 (((((((af.refl _ (w.heap.size+1)).setCell 0 _).setCell 1 _).setCell 2 _).setCell 3 _).setCell 4 _).setCell 5 _)).2⟩;have L9:=fun w' (M:af _ w' (w.heap.size+1))=>(GK8.out.bE M HL4.out).gral HL0.out HNI.out II.out IR.out IU.out om om om
 refine DrO.of (L9 _ (((((((af.refl _ (w.heap.size+1)).setCell 0 _).setCell 1 _).setCell 2 _).setCell 3 _).setCell 4 _).setCell 5 _)) ?_;exact HE2.out):p:=h
theorem aeQ{p:Prop}(h:p:=by
 have z5:=u5.size;have l9:=HG.out.B9.lt;have l4:=HG.out.B4.lt;have l0:=HG.out.O.size;have lb:=HBN.out.lt;have lv:=(HLV.out.own.lt gV rfl).2;have GK5:=(HGK.out.lu (fun _=>0) (Nat.le_refl _)).aA u5;have G5:=HG.out.aA u5;have bN5:=HBN.out.aA u5;have LL:=(HLV.out.mv (w':=wr) (p':=fun q=>lu lab3 wr.heap.size (fun _=>0) q=0) (fun _ _=>rfl) (fun q hq h=>⟨rfl,(aj hq).trans h⟩)).aA u5;have L9:=ae (show lu lab3 wr.heap.size (fun _=>0) gV=8/\lu lab3 wr.heap.size (fun _=>0) cB=9/\lu lab3 wr.heap.size (fun _=>0) w.heap.size=9/\lu lab3 wr.heap.size (fun _=>0) (w.heap.size+1)=9/\∀q,q<w0.heap.size->lu lab3 wr.heap.size (fun _=>0) q=9 from⟨(aj lv).trans HLL.out.1,(aj lb).trans HLL.out.2.1,(aj l9).trans HLL.out.2.2.1,(aj l4).trans HLL.out.2.2.2.1,fun q hq=>(aj om).trans (HLL.out.2.2.2.2 q hq)⟩);have K6:=K5.imp (p':=fun q=>lu lab3 wr.heap.size (fun _=>0) q=0) (fun q _ (h:wr.heap.size<=q)=>cX h);generalize lu lab3 wr.heap.size (fun _=>0)=lab4 at*;have sW:=bJ w5 (.cells #[.bool fF,.slice b1 nF l1,.slice b2 mF l2] 44);have zW:(w5.alloc (.cells #[.bool fF,.slice b1 nF l1,.slice b2 mF l2] 44)).heap.size=w5.heap.size+1:=by simp
 refine wpAnyH_ready (rs:=[7]) kr qz ?_;refine AllReadyH.cons rfl (fun K hK=> ?_) AllReadyH.nil;refine step_append_lies _ rfl _ _ 23 rfl 0 44 i0 _ 3 56 Tryz.underlying23 hi hz0 hz1 hz2 rfl qd _ i _ rfl (LL.own.alloc _) (jj w5.heap.size 0) 1 1 [.bool fF,.slice b1 nF l1,.slice b2 mF l2] rfl rfl (rb _ _ _ _ _) (qY _ _ _ _ _ _ _) qd (by unfold maxLen;omega) om (Nat.zero_le _) (w5.heap.size+1) qz ?_;intro gW cW w8 hown' hgrow hat hlt8;replace hgrow:(w5.alloc (.cells #[.bool fF,.slice b1 nF l1,.slice b2 mF l2] 44)).grownBy w8 (Value.s gV i cV).ownBlock:=hgrow;replace hat:(Value.s gV i cV).ownBlock=some gW∨gW=w5.heap.size+1:=hat;obtain⟨LA,lA,blk⟩:=LL.app (t:=8) (a1:=b1) (a2:=b2) (k1:=l1) (k2:=l2) (fun q hq=>by simp[Value.ownBlock] at hq;subst hq;exact L9.out.1) om sW om hgrow (by rw[HF0.out];exact hown') (by rw[zW];rcases hat with e | e;exact Or.inl (by rw[e];rfl);exact Or.inr (by rw[e];rfl)) (by rw[HF0.out];exact K6);refine hK.out _ _ trivial (fun h4=> ?_);clear hK K h3;refine wpAnyH_ready (rs:=[8]) kr qz ?_;refine AllReadyH.cons rfl (fun K hK=> ?_) AllReadyH.nil;go_simp;refine hK.out _ _ trivial (fun h5=> ?_);clear hK K h4;have l95:=G5.B9.lt;have l45:=G5.B4.lt;have l05:=G5.O.size;have lb5:=bN5.lt
 have G8:=(G5.aA sW).grown hgrow (fun q e=>by
  simp[Value.ownBlock] at e
  subst e;exact⟨Nat.le_of_not_lt fun h=>by have:=L9.out.2.2.2.2 _ h;have:=L9.out.1;omega,(dE L9.out.1 L9.out.2.2.2.1 om).1,(dE L9.out.1 L9.out.2.2.1 om).1⟩)
 have bN8:=bN5.bI (blk cB lb5 (by have:=L9.out.2.1;omega));have kk:=bN8.c5;have kf:=bN8.f 5;refine wpAnyH_ready (rs:=[9]) kr qz ?_;refine AllReadyH.cons rfl (fun K hK=> ?_) AllReadyH.nil;go_simp;refine hK.out _ _ trivial (fun h6=> ?_);clear hK K h5 h6 kk kf;refine wpAnyH_done kr ?_ _;have M9:=(af.refl w8 cB).setCell 5 (.s gW (i+1) cW);have L9':=ae (show lu lab4 w5.heap.size (fun _=>8) gW=8/\lu lab4 w5.heap.size (fun _=>8) cB=9/\lu lab4 w5.heap.size (fun _=>8) w.heap.size=9/\lu lab4 w5.heap.size (fun _=>8) (w.heap.size+1)=9/\∀q,q<w0.heap.size->lu lab4 w5.heap.size (fun _=>8) q=9 from⟨lA gW rfl,(aj lb5).trans L9.out.2.1,(aj l95).trans L9.out.2.2.1,(aj l45).trans L9.out.2.2.2.1,fun q hq=>(aj om).trans (L9.out.2.2.2.2 q hq)⟩);have HGK8:=ae ((GK5.mv (w':=w8) (lab':=lu lab4 w5.heap.size (fun _=>8)) (fun q hq hl=>⟨blk q hq om,aj hq⟩)).bE M9 L9'.out.2.1);have HG8:=ae (G8.mg M9 (Ne.symm nB3) (Ne.symm nB2) nB1);have HBN8:=ae (bN8.aO (.s gW (i+1) cW));obtain⟨yA,LA⟩:=LA;have HLA:=ae (LA.mv (p':=fun q=>lu lab4 w5.heap.size (fun _=>8) q=0) (fun q hq=>M9.other q (fun e=>by have h1:=L9'.out.1;have h2:=L9'.out.2.1;simp[Value.ownBlock] at hq;subst hq;subst e;omega)) (fun q _ h=>⟨M9.other q (fun e=>by have h2:=L9'.out.2.1;subst e;omega),h⟩));clear G8 GK5 G5 bN5 bN8 LL LA lA blk hgrow hown' hat sW zW K5 K6 s5 u5 HG HGK HBN HLV M9;go_wp2;go_roundw
 case rel=>exact⟨i+1,om,by go_num,ae ⟨gW,cW,HBN8.out,HG8.out,_,HGK8.out,⟨_,HLA.out⟩,L9'.out⟩⟩
 case measure=>simp[intOf];omega):p:=h
theorem aeR{p:Prop}(h:p:=by
 have z5:=u5.size;have l9:=HG.out.B9.lt;have l4:=HG.out.B4.lt;have l0:=HG.out.O.size;have GK5:=(HGK.out.lu (fun _=>0) (Nat.le_refl _)).aA u5;have G5:=HG.out.aA u5;have L9:=ae (show lu lab3 w9.heap.size (fun _=>0) w.heap.size=9/\lu lab3 w9.heap.size (fun _=>0) (w.heap.size+1)=9/\∀q,q<w0.heap.size->lu lab3 w9.heap.size (fun _=>0) q=9 from⟨(aj l9).trans HLL.out.1,(aj l4).trans HLL.out.2.1,fun q hq=>(aj om).trans (HLL.out.2.2 q hq)⟩);have K6:=K5.imp (p':=fun q=>lu lab3 w9.heap.size (fun _=>0) q=0) (fun q _ (h:w9.heap.size<=q)=>cX h);generalize lu lab3 w9.heap.size (fun _=>0)=lab4 at*;obtain⟨xL,LL⟩:=GK5.hi;have sW:=bJ w10 (.cells #[.bool fO,.slice b1 nO l1,.slice b2 mO l2] 44);have zW:(w10.alloc (.cells #[.bool fO,.slice b1 nO l1,.slice b2 mO l2] 44)).heap.size=w10.heap.size+1:=by simp
 refine wpAnyH_ready (rs:=[4]) kr qz ?_;refine AllReadyH.cons rfl (fun K hK=> ?_) AllReadyH.nil;refine step_append_lies _ rfl _ _ 23 rfl 0 44 i0 _ 3 56 Tryz.underlying23 hi hz0 hz1 hz2 rfl qd _ j _ rfl (LL.own.alloc _) (jj w10.heap.size 0) 1 1 [.bool fO,.slice b1 nO l1,.slice b2 mO l2] rfl rfl (rb _ _ _ _ _) (qY _ _ _ _ _ _ _) qd (by unfold maxLen;omega) om (Nat.zero_le _) (w10.heap.size+1) qz ?_;intro gW cW w11 hown' hgrow hat hlt8;replace hgrow:(w10.alloc (.cells #[.bool fO,.slice b1 nO l1,.slice b2 mO l2] 44)).grownBy w11 (Value.s gB j cB).ownBlock:=hgrow;replace hat:(Value.s gB j cB).ownBlock=some gW∨gW=w10.heap.size+1:=hat;obtain⟨LA,lA,blk⟩:=LL.app (a1:=b1) (a2:=b2) (k1:=l1) (k2:=l2) GK5.hb om sW om hgrow (by rw[HO0.out];exact hown') (by rw[zW];rcases hat with e | e;exact Or.inl (by rw[e];rfl);exact Or.inr (by rw[e];rfl)) (by rw[HO0.out];exact K6);refine hK.out _ _ trivial (fun h4=> ?_);clear hK K h3;refine wpAnyH_ready (rs:=[5]) kr qz ?_;refine AllReadyH.cons rfl (fun K hK=> ?_) AllReadyH.nil;go_simp;refine hK.out _ _ trivial (fun h5=> ?_);clear hK K h4;have l95:=G5.B9.lt;have l45:=G5.B4.lt;have l05:=G5.O.size;have nA:=GK5.hb gB rfl
 have G8:=(G5.aA sW).grown hgrow (fun q e=>by
  simp[Value.ownBlock] at e
  subst e;exact⟨Nat.le_of_not_lt fun h=>by have:=L9.out.2.2 _ h;omega,(dE nA L9.out.2.1 om).1,(dE nA L9.out.1 om).1⟩)
 have kk:=G8.B9.c3;have kf:=G8.B9.f 3;refine wpAnyH_ready (rs:=[6]) kr qz ?_;refine AllReadyH.cons rfl (fun K hK=> ?_) AllReadyH.nil;go_simp;refine hK.out _ _ trivial (fun h6=> ?_);clear hK K h5 h6 kk kf;refine wpAnyH_done kr ?_ _;have L9':=ae (show lu lab4 w10.heap.size (fun _=>2) w.heap.size=9/\lu lab4 w10.heap.size (fun _=>2) (w.heap.size+1)=9/\∀q,q<w0.heap.size->lu lab4 w10.heap.size (fun _=>2) q=9 from⟨(aj l95).trans L9.out.1,(aj l45).trans L9.out.2.1,fun q hq=>(aj om).trans (L9.out.2.2 q hq)⟩);have HGK8:=ae ((GK5.setH blk (fun g hg=>aj hg) LA lA).bE ((af.refl w11 w.heap.size).setCell 3 (.s gW (j+1) cW)) L9'.out.1);have HG8:=ae (G8.aK (.s gW (j+1) cW));clear G8 GK5 G5 LL LA lA blk hgrow hown' hat sW zW K5 K6 RV s5 u5 HG HGK;go_wp2;go_roundw
 case rel=>exact⟨j+1,om,by go_num,ae ⟨gA,cA,gW,cW,HG8.out,_,HGK8.out,L9'.out⟩⟩
 case measure=>simp[intOf];omega):p:=h
theorem ahG{p:Prop}(h:p:=by
 refine wp_region_held_drew (S:=fun _=>True) kr trivial (fun hHeld=> ?_);refine tk 0 75 (.p w.heap.size 3) ?_;simp only[ap,la,lz,ls];refine wpAnyH_ready (rs:=[1,2]) kr qz ?_;refine AllReadyH.cons rfl (fun K hK=> ?_) (AllReadyH.cons rfl (fun K hK=> ?_) AllReadyH.nil)
 . have kk:=HG.out.B9.c3
   go_simp;refine hK.out _ _ trivial (fun h1=> ?_);clear hK K hHeld kk;refine wpAnyH_ready (rs:=[2]) kr qz ?_;refine AllReadyH.cons rfl (fun K hK=> ?_) AllReadyH.nil;go_simp
   go_wp2_with (go_at_call 91;with_reducible refine (@wR w9.drew).mono ?_;rintro e w10 ⟨u,rfl,RV,s5⟩)
   obtain⟨b1,b2,l1,l2,rfl,K5⟩:=dM.kq (q:=1) RV om;simp only[HO0.out] at K5⊢;have u5:=(ao (eg w9.heap.size w9)).trans s5;refine hK.out _ _ trivial (fun h2=> ?_);clear hK K h1;refine wpAnyH_ready (rs:=[3]) kr qz ?_;refine AllReadyH.cons rfl (fun K hK=> ?_) AllReadyH.nil;go_simp;refine hK.out _ _ trivial (fun h3=> ?_);clear hK K h2;exact aeR
 . go_simp
   go_wp2_with (go_at_call 91;with_reducible refine (@wR w9.drew).mono ?_;rintro e w10 ⟨u,rfl,RV,s5⟩)
   obtain⟨b1,b2,l1,l2,rfl,K5⟩:=dM.kq (q:=1) RV om;simp only[HO0.out] at K5⊢;have u5:=(ao (eg w9.heap.size w9)).trans s5;refine hK.out _ _ trivial (fun h1=> ?_);clear hK K hHeld;refine wpAnyH_ready (rs:=[1,3]) kr qz ?_;refine AllReadyH.cons rfl (fun K hK=> ?_) (AllReadyH.cons rfl (fun K hK=> ?_) AllReadyH.nil)
   . have kk:=(HG.out.aA u5).B9.c3
     go_simp;refine hK.out _ _ trivial (fun h2=> ?_);clear hK K h1 kk;refine wpAnyH_ready (rs:=[3]) kr qz ?_;refine AllReadyH.cons rfl (fun K hK=> ?_) AllReadyH.nil;go_simp;refine hK.out _ _ trivial (fun h3=> ?_);clear hK K h2;exact aeR
   . go_simp
     refine hK.out _ _ trivial (fun h2=> ?_);clear hK K h1;refine wpAnyH_ready (rs:=[1]) kr qz ?_;refine AllReadyH.cons rfl (fun K hK=> ?_) AllReadyH.nil;have kk:=((HG.out.aA u5).aA ((eg w10.heap.size w10).alloc (Nat.le_refl _) (.cells #[.bool fO,.slice b1 nO l1,.slice b2 mO l2] 44))).B9.c3;go_simp;refine hK.out _ _ trivial (fun h3=> ?_);clear hK K h2;clear kk;exact aeR):p:=h
theorem aeS{p:Prop}(h:p:=by
 have z5:=u5.size;have l9:=HG.out.B9.lt;have l4:=HG.out.B4.lt;have l0:=HG.out.O.size;have GK5:=(HGK.out.lu (fun _=>0) (Nat.le_refl _)).aA u5;have G5:=HG.out.aA u5;have L9:=ae (show lu lab3 wr.heap.size (fun _=>0) w.heap.size=9/\lu lab3 wr.heap.size (fun _=>0) (w.heap.size+1)=9/\∀q,q<w0.heap.size->lu lab3 wr.heap.size (fun _=>0) q=9 from⟨(aj l9).trans HLL.out.1,(aj l4).trans HLL.out.2.1,fun q hq=>(aj om).trans (HLL.out.2.2 q hq)⟩);have K6:=K5.imp (p':=fun q=>lu lab3 wr.heap.size (fun _=>0) q=0) (fun q _ (h:wr.heap.size<=q)=>cX h);generalize lu lab3 wr.heap.size (fun _=>0)=lab4 at*;obtain⟨xL,LL⟩:=GK5.lo;have sW:=bJ w5 (.cells #[.bool fZ,.slice b1 nZ l1,.slice b2 mZ l2] 44);have zW:(w5.alloc (.cells #[.bool fZ,.slice b1 nZ l1,.slice b2 mZ l2] 44)).heap.size=w5.heap.size+1:=by simp
 refine wpAnyH_ready (rs:=[4]) kr qz ?_;refine AllReadyH.cons rfl (fun K hK=> ?_) AllReadyH.nil;refine step_append_lies _ rfl _ _ 23 rfl 0 44 i0 _ 3 56 Tryz.underlying23 hi hz0 hz1 hz2 rfl qd _ j _ rfl (LL.own.alloc _) (jj w5.heap.size 0) 1 1 [.bool fZ,.slice b1 nZ l1,.slice b2 mZ l2] rfl rfl (rb _ _ _ _ _) (qY _ _ _ _ _ _ _) qd (by unfold maxLen;omega) om (Nat.zero_le _) (w5.heap.size+1) qz ?_;intro gW cW w8 hown' hgrow hat hlt8;replace hgrow:(w5.alloc (.cells #[.bool fZ,.slice b1 nZ l1,.slice b2 mZ l2] 44)).grownBy w8 (Value.s gA j cA).ownBlock:=hgrow;replace hat:(Value.s gA j cA).ownBlock=some gW∨gW=w5.heap.size+1:=hat;obtain⟨LA,lA,blk⟩:=LL.app (a1:=b1) (a2:=b2) (k1:=l1) (k2:=l2) GK5.lb om sW om hgrow (by rw[HZ0.out];exact hown') (by rw[zW];rcases hat with e | e;exact Or.inl (by rw[e];rfl);exact Or.inr (by rw[e];rfl)) (by rw[HZ0.out];exact K6);refine hK.out _ _ trivial (fun h4=> ?_);clear hK K h3;refine wpAnyH_ready (rs:=[5]) kr qz ?_;refine AllReadyH.cons rfl (fun K hK=> ?_) AllReadyH.nil;go_simp;refine hK.out _ _ trivial (fun h5=> ?_);clear hK K h4;have l95:=G5.B9.lt;have l45:=G5.B4.lt;have l05:=G5.O.size;have nA:=GK5.lb gA rfl
 have G8:=(G5.aA sW).grown hgrow (fun q e=>by
  simp[Value.ownBlock] at e
  subst e;exact⟨Nat.le_of_not_lt fun h=>by have:=L9.out.2.2 _ h;omega,(dE nA L9.out.2.1 om).1,(dE nA L9.out.1 om).1⟩)
 have kk:=G8.B9.c2;have kf:=G8.B9.f 2;refine wpAnyH_ready (rs:=[6]) kr qz ?_;refine AllReadyH.cons rfl (fun K hK=> ?_) AllReadyH.nil;go_simp;refine hK.out _ _ trivial (fun h6=> ?_);clear hK K h5 h6 kk kf;refine wpAnyH_done kr ?_ _;have L9':=ae (show lu lab4 w5.heap.size (fun _=>1) w.heap.size=9/\lu lab4 w5.heap.size (fun _=>1) (w.heap.size+1)=9/\∀q,q<w0.heap.size->lu lab4 w5.heap.size (fun _=>1) q=9 from⟨(aj l95).trans L9.out.1,(aj l45).trans L9.out.2.1,fun q hq=>(aj om).trans (L9.out.2.2 q hq)⟩);have HGK8:=ae ((GK5.setL blk (fun g hg=>aj hg) LA lA).bE ((af.refl w8 w.heap.size).setCell 2 (.s gW (j+1) cW)) L9'.out.1);have HG8:=ae (G8.aF (.s gW (j+1) cW));clear G8 GK5 G5 LL LA lA blk hgrow hown' hat sW zW K5 K6 RV s5 u5 HG HGK
 go_upto_region 20 with fail
 generalize w8.setCell ⟨w.heap.size,2,none⟩ (.s gW (j+1) cW)=w9 at*;have HX:Hid (∃gA cA gB cB:Nat,jk w0 w9 c a b off n cap X p1 (w.heap.size+1) w.heap.size (.i (T:Int)) (.i rounds) (.s gA (j+1) cA) (.s gB j cB) (.s gN nn cN) (.i out)/\∃lab:Nat->Nat,dF w9 lab (.s gA (j+1) cA) (.s gB j cB) (.n) (j+1) j 0 (fun _=>rd 0) (fun _=>rd 1) N/\lab w.heap.size=9/\lab (w.heap.size+1)=9/\∀q,q<w0.heap.size->lab q=9):=ae ⟨gW,cW,gB,cB,HG8.out,_,HGK8.out,L9'.out⟩;clear HG8 HGK8 L9' L9 HLL nA l9 l4 l0 l95 l45 l05 z5;obtain⟨gA,cA,gB,cB,hG,lab3,hGK,hLL⟩:=HX.out;have HG:=ae hG;have HGK:=ae hGK;have HLL:=ae hLL;clear hG hGK hLL HX;exact ahG):p:=h
theorem aeP{c:Nat}{a:Option Addr}{b off n cap:Nat}{X:Nat->Nat}{p gL cL gH cH gN cN:Nat}{lab:Nat->Nat}{d:ax}{w0 w:World}(hn:n<=16777216)(R:Rp w c a b off n cap X p)(B:GB d)(O:cu c w0 w)(hcl:c<w0.heap.size)(hlab:∀q,q<w0.heap.size->lab q=9)
 (K:dF w lab (.s gL d.nl cL) (.s gH d.nh cH) (.s gN d.nn cN) d.nl d.nh d.nn d.Lo d.Hi d.N):
 Cl 43 #[.p c 0,.agg #[.i d.inn,.i d.rounds,.s gL d.nl cL,.s gH d.nh cH,.s gN d.nn cN,.i d.out]] w fun e w'=>∃u,e=.returned u/\DrO w' w0.heap.size u (yF X n d (nV X n p) (nP n p))/\cu c w0 w':=by
 obtain⟨inn,rounds,nl,Lo,nh,Hi,nn,N,out⟩:=d;obtain rfl:nl=nh:=B.l.2.2.symm;obtain⟨D,hD⟩:∃x,yF X n ⟨inn,rounds,nl,Lo,nl,Hi,nn,N,out⟩ (nV X n p) (nP n p)=x:=⟨_,rfl⟩;rw[hD];have HNI:=ae B.ni;have bi:=B.i;have bl:1<=nl/\nl<=8:=⟨B.l.1,B.l.2.1⟩;have bn:=B.n;simp only at bi bn;have II:Hid (ef inn):=ae (by unfold ef;omega);have IR:Hid (ef rounds):=ae (by unfold ef;omega);have IU:Hid (ef out):=ae (by unfold ef;omega);have zw:=O.size;obtain⟨wA,eA⟩:∃x:World,x=(w.alloc (.cells #[.i inn,.i rounds,.s gL nl cL,.s gH nl cH,.s gN nn cN,.i out] 26)).alloc (.cells #[.i 0,.i 0,.n,.n,.n,.i 0] 26):=⟨_,rfl⟩;have sA:w.S wA:=by rw[eA];exact (bJ _ _).alloc qz _
 have zA:wA.heap.size=w.heap.size+1+1:=by rw[eA];simp
 have b9:au wA w.heap.size (.i inn) (.i rounds) (.s gL nl cL) (.s gH nl cH) (.s gN nn cN) (.i out):=by rw[eA];exact (au.new w _ _ _ _ _ _ _).aA (bJ _ _)
 have b4:au wA (w.heap.size+1) (.i 0) (.i 0) (.n) (.n) (.n) (.i 0):=by
  rw[eA];have:=au.new (w.alloc (.cells #[.i inn,.i rounds,.s gL nl cL,.s gH nl cH,.s gN nn cN,.i out] 26)) (.i 0) (.i 0) (.n) (.n) (.n) (.i 0) 26
  simpa using this
 have GA:jk w0 wA c a b off n cap X p (w.heap.size+1) w.heap.size (.i inn) (.i rounds) (.s gL nl cL) (.s gH nl cH) (.s gN nn cN) (.i out):=⟨om,zw,om,hcl,b4,b9,R.aA sA,O.trans (cu.aC c sA)⟩;have HGA:=ae ((K.lu (fun _=>9) (Nat.le_refl _)).aA sA);have HL9:Hid (lu lab w.heap.size (fun _=>9) w.heap.size=9):=ae (cX (Nat.le_refl _));have HL4:Hid (lu lab w.heap.size (fun _=>9) (w.heap.size+1)=9):=ae (cX om);have HLB:Hid (∀q,q<w0.heap.size->lu lab w.heap.size (fun _=>9) q=9):=ae (fun q hq=>(aj om).trans (hlab q hq));have HB:=ae B;have HDD:=ae hD;generalize lu lab w.heap.size (fun _=>9)=lab1 at*;clear K hlab b4 b9 R sA B O hD;go_enter Tryz.func43,Tryz.ntmps43;go_wp2_with fail;rw[<-eA];clear eA;refine (@cT c a b off n cap X p wA hn GA.R).mono ?_;rintro e w1 ⟨k,ek,rfl,hk,R1,O1⟩;have G:=GA.go R1 O1;have GK:=ae (HGA.out.aI O1 (HLB.out c hcl));rw[ek] at HDD;obtain⟨p1,hp1⟩:∃q,nP n p=q:=⟨_,rfl⟩;rw[hp1] at HDD G;have HD:=HDD;have HL0:=HLB;clear GA HGA R1 O1 ek hp1 HDD;obtain⟨wx,ex⟩:∃x:World,x=w1.alloc (.cells #[] 44):=⟨_,rfl⟩;have sx:w1.S wx:=by rw[ex];exact bJ _ _
 have zx:wx.heap.size=w1.heap.size+1:=by rw[ex];simp
 obtain⟨w2,e2⟩:∃x:World,x=wx.alloc (.cells #[.i 2,.i 0,.i 0,.i 0,.i 0,.s w1.heap.size 0 0] 48):=⟨_,rfl⟩;have s2:wx.S w2:=by rw[e2];exact bJ _ _
 have bR:au w2 (w1.heap.size+1) (.i 2) (.i 0) (.i 0) (.i 0) (.i 0) (.s w1.heap.size 0 0):=by rw[e2,<-zx];exact au.new _ _ _ _ _ _ _ _
 have z2:w2.heap.size=w1.heap.size+1+1:=by rw[e2];simp[zx]
 have lc9:=G.B9.lt;have lc4:=G.B4.lt;have G:=(G.aA sx).aA s2;have HL9:Hid (lu lab1 w1.heap.size (fun _=>9) w.heap.size=9):=ae ((aj lc9).trans HL9.out);have HL4:Hid (lu lab1 w1.heap.size (fun _=>9) (w.heap.size+1)=9):=ae ((aj lc4).trans HL4.out);have HLR:Hid (lu lab1 w1.heap.size (fun _=>9) (w1.heap.size+1)=9):=ae (cX om);have HLB:Hid (∀q,q<w0.heap.size->lu lab1 w1.heap.size (fun _=>9) q=9):=ae (fun q hq=>(aj om).trans (HLB.out q hq));have GK:=ae (((GK.out.lu (fun _=>9) (Nat.le_refl _)).aA sx).aA s2);generalize lu lab1 w1.heap.size (fun _=>9)=lab2 at*;rw[ex] at e2;have zz1:w.heap.size+1<w1.heap.size:=lc4;clear sx s2 ex zx
 go_upto_if 18 with fail
 rw[<-e2];clear e2
 by_cases x0:k % 4=0
 . have g0:((k:Int) % 4==0)=true:=by simp;omega
   obtain⟨m,hm⟩:∃m,1000-nn+k/4 % 2=m:=⟨_,rfl⟩;have em:1000-(nn:Int)+(k:Int)/4 % 2=(m:Int):=om
   have hm2:m<=1001:=om
   have HM:=ae hm;obtain⟨i1,hi',hz0',hz1',hz2'⟩:=pT;have HGR:=ae (GK.out.rel w1.heap.size);obtain⟨zA,bR⟩:∃z:Int,au w2 (w1.heap.size+1) (.i 2) (.i z) (.i 0) (.i 0) (.i 0) (.s w1.heap.size 0 0):=⟨0,bR⟩;have nR:w1.heap.size+1≠w.heap.size/\w1.heap.size+1≠w.heap.size+1/\w0.heap.size<=w1.heap.size+1:=om
   have HG:=ae G;have HBR:=ae bR;have q4:=G.B9.c4;generalize hgR:w1.heap.size=gR at*;generalize gR+1=cR at*;clear GK G bR hm hgR z2;go_wp2_with fail
   go_loopw [8] (fun t wr=>∃i:Nat,i<=m/\t=.i (i:Int)/\Hid (∃gM cM:Nat,jk w0 wr c a b off n cap X p1 (w.heap.size+1) w.heap.size (.i inn) (.i rounds) (.s gL nl cL) (.s gH nl cH) (.s gM (nn+i) cM) (.i out)/\∃lab:Nat->Nat,rM wr lab (.s gL nl cL) (.s gH nl cH) (.s gM (nn+i) cM) nl nl nn (nn+i) Lo Hi N gR/\(∃z:Int,au wr cR (.i 2) (.i z) (.i 0) (.i 0) (.i 0) (.s gR 0 0))/\lab w.heap.size=9/\lab (w.heap.size+1)=9/\lab cR=9/\∀q,q<w0.heap.size->lab q=9)) (fun t _=>m-(intOf t).toNat)
   case atStart=>exact⟨0,Nat.zero_le _,rfl,ae ⟨gN,cN,HG.out,lab2,HGR.out,⟨zA,HBR.out⟩,HL9.out,HL4.out,HLR.out,HLB.out⟩⟩
   case round=>
    clear HG HGR HBR q4;obtain⟨i,hi,rfl,HX⟩:=hrel;obtain⟨gM,cM,hG,lab3,hGR,⟨z,hBR⟩,hLL⟩:=HX.out;have HG:=ae hG;have HGR:=ae hGR;have HBR:=ae hBR;have HLL:=ae hLL;clear hG hGR hBR hLL HX
    by_cases hlt:i<m
    . have hlt':(i:Int)<m:=om
      obtain⟨t,ht⟩:∃t,nn+i=t:=⟨_,rfl⟩;rw[ht] at HG HGR;have HT:=ae (show nn+(i+1)=t+1 by omega);have ht1:nn<=t/\t<=2000:=om
      clear ht;have q4:=HG.out.B9.c4;have r1:=HBR.out.c1;have rf1:=HBR.out.f 1;have M3:=(af.refl wr cR).setCell 1 (.i (t:Int));have bR3:=HBR.out.aG (.i (t:Int));have G3:=HG.out.mg M3 (Ne.symm nR.2.1) (Ne.symm nR.1) nR.2.2;have GR3:=HGR.out.bE M3 HLL.out.2.2.1;clear HG HGR HBR
      go_upto_region 9 with fail
      generalize wr.setCell (jj cR 1) (.i (t:Int))=w3 at*;clear q4 r1 rf1 M3;obtain⟨xN,hxN⟩:=GR3.no;have HXN:=ae hxN;have l9:=G3.B9.lt;have l4:=G3.B4.lt;have lR:=bR3.lt;have l0:=G3.O.size;have q4:=G3.B9.c4;have qf4:=G3.B9.f 4;obtain⟨r0,r1,r2,r3,r4,r5⟩:=bR3.g;have HG:=ae G3;have HGR:=ae GR3;have HBR:=ae bR3;clear hxN G3 GR3 bR3
      go_wp2_with (at_builtin;refine wpList_append_own_at _ rfl _ _ 24 rfl 0 48 i1 _ 6 64 Tryz.underlying24 hi' hz0' hz1' hz2' rfl qd _ _ _ rfl (HXN.out.1.alloc _) (jj w3.heap.size 0) 1 1 [.i 2,.i (t:Int),.i 0,.i 0,.i 0,.s gR 0 0] rfl rfl (agq _ _ _ _ _ _ _ _) (age _ _ _ _ _ _ _ _) (by unfold maxLen;omega) om om ?_)
      intro v' w5 hown' hgrow hnn hat;replace hgrow:(w3.alloc (.cells #[.i 2,.i (t:Int),.i 0,.i 0,.i 0,.s gR 0 0] 48)).grownBy w5 (Value.s gM t cM).ownBlock:=hgrow;obtain⟨gM',cM',rfl,hg1,hg2⟩:=hown'.form om;have sW:=bJ w3 (.cells #[.i 2,.i (t:Int),.i 0,.i 0,.i 0,.s gR 0 0] 48);have zW:(w3.alloc (.cells #[.i 2,.i (t:Int),.i 0,.i 0,.i 0,.s gR 0 0] 48)).heap.size=w3.heap.size+1:=by simp
      obtain⟨GR5,blk⟩:=HGR.out.app HXN.out om sW om hgrow hown' (by rw[zW];simpa [Value.ownBlock,eq_comm] using hat);have nM:=HGR.out.nb gM rfl
      have G5:=(HG.out.aA sW).grown hgrow (fun q e=>by
       simp[Value.ownBlock] at e
       subst e;exact⟨Nat.le_of_not_lt fun h=>by have:=HLL.out.2.2.2 gM h;omega,(dE nM HLL.out.2.1 om).1,(dE nM HLL.out.1 om).1⟩)
      have bR5:=HBR.out.bI (blk cR lR (by have:=HLL.out.2.2.1;omega));have HL5:=ae (show lu lab3 w3.heap.size (fun _=>3) w.heap.size=9/\lu lab3 w3.heap.size (fun _=>3) (w.heap.size+1)=9/\lu lab3 w3.heap.size (fun _=>3) cR=9/\∀q,q<w0.heap.size->lu lab3 w3.heap.size (fun _=>3) q=9 from⟨(aj l9).trans HLL.out.1,(aj l4).trans HLL.out.2.1,(aj lR).trans HLL.out.2.2.1,fun q hq=>(aj om).trans (HLL.out.2.2.2 q hq)⟩);have q4:=G5.B9.c4;have qf4:=G5.B9.f 4;have M6:=(af.refl w5 w.heap.size).setCell 4 (.s gM' (t+1) cM');have HG6:=ae (G5.aS (.s gM' (t+1) cM'));have HGR6:=ae (GR5.bE M6 HL5.out.1);have HBR6:=ae (bR5.marked M6 nR.1);clear G5 GR5 bR5 hgrow hown' hnn hat sW zW blk HG HGR HBR HXN r0 r1 r2 r3 r4 r5 M6;go_wp2;go_roundw
      case rel=>exact⟨i+1,om,by go_num,ae ⟨gM',cM',by rw[HT.out];exact HG6.out,_,by rw[HT.out];exact HGR6.out,⟨_,HBR6.out⟩,HL5.out⟩⟩
      case measure=>simp[intOf];omega
    . obtain rfl:m=i:=om
      have hlt':¬(m:Int)<m:=om
      obtain⟨t,ht⟩:∃t,nn+m=t:=⟨_,rfl⟩;rw[ht] at HG HGR;have HT2:Hid (1000+k/4 % 2=t):=ae (by have:=HM.out;omega);have ht3:t<=2000:=om
      obtain⟨t2,ht2⟩:∃x,t+2=x:=⟨_,rfl⟩;have wr1:IntKind.i64.wrap ((t:Int)+2)=(t2:Int):=by rw[<-ht2];exact wrap64 om om
      have m0:¬t2=0:=om
      have ht4:t2<=2002:=om
      have HT3:=ae ht2;have JN:=@cT c a b off n cap X p1 wr.drew hn (HG.out.R.aA (ao (eg _ _)));have kk:=HG.out.B9.c4;clear ht ht2 hlt;go_wp2_with fail
      go_region_held3 (fun w'=>w'.cell? (jj w.heap.size 4)=some (.s gM t cM)) (first | go_keep | exact (fJ).trans kk)
       (first
         | (go_at_call 41
            with_reducible refine JN.mono ?_
            rintro e w5 ⟨k5,ek5,rfl,hk5,R5,O5⟩;have O25:cu c wr w5:=⟨O5.os,O5.tape,O5.output,O5.size,O5.block⟩;have G5:=HG.out.go R5 O25;have kk:=G5.B9.c4;have q5:=G5.B9.c5;have qf5:=G5.B9.f 5;obtain⟨y,hy⟩:∃y,k5 % t2=y:=⟨_,rfl⟩;have ht':=tm hy;have hyl:y<t2:=by rw[<-hy];exact Nat.mod_lt _ om
            have HY:Hid (nV X n p1 % (t+2)=y):=ae (by rw[ek5,HT3.out];exact hy);clear hy ek5))
      have M8:=(af.refl w5 w.heap.size).setCell 5 (.i (y:Int));have GK8:=ae ((HGR.out.mv (w':=w5) (lab':=lab3) (fun q hq hl=>⟨O25.block q hq (fun e=>by have:=HLL.out.2.2.2 c hcl;subst e;omega),rfl⟩)).bE M8 HLL.out.1);have G8:=G5.aO (.i (y:Int));have HL4:=ae HLL.out.2.1;have HL0:=ae HLL.out.2.2.2;have IU:Hid (ef (y:Int)):=ae (by unfold ef;omega);have HE2:Hid (D=⟨inn,rounds,nl,Lo,nl,Hi,t,fun j=>if j<nn then N j else ⟨2,j,0,0,0,0,fun _=>br.nul⟩,(y:Int)⟩):=ae (by rw[<-HD.out];unfold yF;rw[if_pos x0];simp only[HT2.out,HY.out]);have G:=G8;generalize w5.setCell (jj w.heap.size 5) (.i (y:Int))=w6 at*;clear kk q5 qf5 ht' JN G5 M8 HG HGR HBR O5 O25 R5 wr1;exact acq
 have g0:((k:Int) % 4==0)=false:=by simp;omega
 by_cases x1:k % 4=1
 . have g1:((k:Int) % 4==1)=true:=by simp;omega
   obtain⟨T,hT⟩:∃T,1000+k/4 % 2=T:=⟨_,rfl⟩;have eT:1000+(k:Int)/4 % 2=(T:Int):=om
   have hT2:T<=1001:=om
   have HT:=ae hT;have q0:=G.B9.c0;have qf0:=G.B9.f 0;have Ga:=G.aE (.i (T:Int));have Oa:=G.O.size;clear hT GK bR
   go_upto_region 14 with fail
   generalize w2.setCell (jj w.heap.size 0) (.i (T:Int))=wa at*;clear q0 qf0;have LA9:=ae Ga.B9.lt;have LA4:=ae Ga.B4.lt;have la0:=Ga.O.size;obtain⟨wb,eb⟩:∃x:World,x=wa.alloc (.cells #[] 44):=⟨_,rfl⟩;have sb:wa.S wb:=by rw[eb];exact bJ _ _
   have HZB:Hid (wb.heap.size=wa.heap.size+1):=ae (by rw[eb];simp);have Lb:fP wb 0 (fun q=>lu lab2 wa.heap.size (fun q=>if q=wa.heap.size then 1 else 2) q=0) (.s wa.heap.size 0 0) 0 (fun _=>rd 0) []:=by rw[eb];exact fP.nil wa 0 _ _ (Nat.zero_le _)
   have Gb:=Ga.aA sb;have q2:=Gb.B9.c2;have qf2:=Gb.B9.f 2;rw[eb] at q2 qf2
   go_upto_region 15 with fail
   rw[<-eb];clear q2 qf2 eb;have Gc:=Gb.aF (.s wa.heap.size 0 0);have Mc:=(af.refl wb w.heap.size).setCell 2 (.s wa.heap.size 0 0);have Lc:=Lb.mv (p':=fun q=>lu lab2 wa.heap.size (fun q=>if q=wa.heap.size then 1 else 2) q=0) (fun q hq=>Mc.other q (fun e=>by have:=LA9.out;simp[Value.ownBlock] at hq;omega)) (fun q _ h=>⟨Mc.other q (fun e=>by have:=HL9.out;subst e;rw[aj LA9.out] at h;omega),h⟩);have HZC:=ae Mc.size;generalize wb.setCell (jj w.heap.size 2) (.s wa.heap.size 0 0)=wc at*;obtain⟨wd,ed⟩:∃x:World,x=wc.alloc (.cells #[] 44):=⟨_,rfl⟩;have sd':wc.S wd:=by rw[ed];exact bJ _ _
   have Ld:fP wd 0 (fun q=>lu lab2 wa.heap.size (fun q=>if q=wa.heap.size then 1 else 2) q=0) (.s wc.heap.size 0 0) 0 (fun _=>rd 1) []:=by rw[ed];exact fP.nil wc 0 _ _ (Nat.zero_le _)
   have Lc:=Lc.aA sd';have Gd:=Gc.aA sd';have q3:=Gd.B9.c3;have qf3:=Gd.B9.f 3;rw[ed] at q3 qf3;clear Mc Lb Gb Ga Gc
   go_upto_region 16 with fail
   rw[<-ed];clear q3 qf3 ed;have Ge:=Gd.aK (.s wc.heap.size 0 0);have Me:=(af.refl wd w.heap.size).setCell 3 (.s wc.heap.size 0 0)
   have GK:dF (wd.setCell (jj w.heap.size 3) (.s wc.heap.size 0 0)) (lu lab2 wa.heap.size (fun q=>if q=wa.heap.size then 1 else 2)) (.s wa.heap.size 0 0) (.s wc.heap.size 0 0) (.n) 0 0 0 (fun _=>rd 0) (fun _=>rd 1) N:=
    ⟨⟨[],Lc.mv (fun q hq=>Me.other q (fun e=>by have:=LA9.out;have:=HZB.out;have:=HZC.out;simp[Value.ownBlock] at hq;omega)) (fun q _ h=>⟨Me.other q (fun e=>by have:=HL9.out;subst e;rw[aj LA9.out] at h;omega),h⟩)⟩,fun g e=>by simp[Value.ownBlock] at e;subst e;rw[cX (Nat.le_refl _),if_pos rfl],⟨[],Ld.mv (fun q hq=>Me.other q (fun e=>by have:=LA9.out;have:=HZB.out;have:=HZC.out;simp[Value.ownBlock] at hq;omega)) (fun q _ h=>⟨Me.other q (fun e=>by have:=HL9.out;subst e;rw[aj LA9.out] at h;omega),h⟩)⟩,fun g e=>by simp[Value.ownBlock] at e;subst e;rw[cX (by have:=HZB.out;have:=HZC.out;omega),if_neg (by have:=HZB.out;have:=HZC.out;omega)],⟨[],⟨rfl,Or.inl ⟨rfl,rfl⟩⟩,fun i hi=>absurd hi om⟩,fun g e=>by simp[Value.ownBlock] at e⟩
   have HLL:=ae (show lu lab2 wa.heap.size (fun q=>if q=wa.heap.size then 1 else 2) w.heap.size=9/\lu lab2 wa.heap.size (fun q=>if q=wa.heap.size then 1 else 2) (w.heap.size+1)=9/\∀q,q<w0.heap.size->lu lab2 wa.heap.size (fun q=>if q=wa.heap.size then 1 else 2) q=9 from⟨(aj LA9.out).trans HL9.out,(aj LA4.out).trans HL4.out,fun q hq=>(aj om).trans (HLB.out q hq)⟩);have HG:=ae Ge;have HGK:=ae GK;generalize wd.setCell (jj w.heap.size 3) (.s wc.heap.size 0 0)=we at*;generalize lu lab2 wa.heap.size (fun q=>if q=wa.heap.size then 1 else 2)=lab3 at*;clear Ge GK Me Lc Ld Gd HL9 HL4 HLR;obtain⟨gA,hgA⟩:∃g,wa.heap.size=g:=⟨_,rfl⟩;obtain⟨gB,hgB⟩:∃g,wc.heap.size=g:=⟨_,rfl⟩;rw[hgA,hgB] at HG HGK;have HX:Hid (∃gA cA gB cB:Nat,jk w0 we c a b off n cap X p1 (w.heap.size+1) w.heap.size (.i (T:Int)) (.i rounds) (.s gA 0 cA) (.s gB 0 cB) (.s gN nn cN) (.i out)/\∃lab:Nat->Nat,dF we lab (.s gA 0 cA) (.s gB 0 cB) (.n) 0 0 0 (fun _=>rd 0) (fun _=>rd 1) N/\lab w.heap.size=9/\lab (w.heap.size+1)=9/\∀q,q<w0.heap.size->lab q=9):=ae ⟨gA,0,gB,0,HG.out,lab3,HGK.out,HLL.out⟩;obtain⟨rZ,hrZ⟩:∃r,rd 0=r:=⟨_,rfl⟩;obtain⟨rO,hrO⟩:∃r,rd 1=r:=⟨_,rfl⟩;have HZ0:=ae hrZ;have HO0:=ae hrO;obtain⟨fZ,nZ,XZ,mZ,YZ⟩:=rZ;obtain⟨fO,nO,XO,mO,YO⟩:=rO;obtain⟨i0,hi,hz0,hz1,hz2⟩:=jY;clear HG HGK HLL hgA hgB hrZ hrO;go_wp2_with fail
   go_loopw [9] (fun t wr=>∃j:Nat,j<=T/\t=.i (j:Int)/\Hid (∃gA cA gB cB:Nat,jk w0 wr c a b off n cap X p1 (w.heap.size+1) w.heap.size (.i (T:Int)) (.i rounds) (.s gA j cA) (.s gB j cB) (.s gN nn cN) (.i out)/\∃lab:Nat->Nat,dF wr lab (.s gA j cA) (.s gB j cB) (.n) j j 0 (fun _=>rd 0) (fun _=>rd 1) N/\lab w.heap.size=9/\lab (w.heap.size+1)=9/\∀q,q<w0.heap.size->lab q=9)) (fun t _=>T-(intOf t).toNat)
   case atStart=>exact⟨0,Nat.zero_le _,rfl,HX⟩
   case round=>
    clear HX;obtain⟨j,hj,rfl,HX⟩:=hrel
    by_cases hlt:j<T
    . have hlt':(j:Int)<T:=om
      obtain⟨gA,cA,gB,cB,hG,lab3,hGK,hLL⟩:=HX.out;have HG:=ae hG;have HGK:=ae hGK;have HLL:=ae hLL;clear hG hGK hLL HX;have q0:=HG.out.B9.c0
      go_upto_region 19 with fail
      clear q0;refine wp_region_held_drew (S:=fun _=>True) kr trivial (fun hHeld=> ?_);refine tk 0 69 (.p w.heap.size 2) ?_;simp only[ap,la,lz,ls];refine wpAnyH_ready (rs:=[1,2]) kr qz ?_;refine AllReadyH.cons rfl (fun K hK=> ?_) (AllReadyH.cons rfl (fun K hK=> ?_) AllReadyH.nil)
      . have kk:=HG.out.B9.c2
        go_simp;refine hK.out _ _ trivial (fun h1=> ?_);clear hK K hHeld kk;refine wpAnyH_ready (rs:=[2]) kr qz ?_;refine AllReadyH.cons rfl (fun K hK=> ?_) AllReadyH.nil;go_simp
        go_wp2_with (go_at_call 90;with_reducible refine (@dY wr.drew).mono ?_;rintro e w5 ⟨u,rfl,RV,s5⟩)
        obtain⟨b1,b2,l1,l2,rfl,K5⟩:=dM.kq (q:=0) RV om;simp only[HZ0.out] at K5⊢;have u5:=(ao (eg wr.heap.size wr)).trans s5;refine hK.out _ _ trivial (fun h2=> ?_);clear hK K h1;refine wpAnyH_ready (rs:=[3]) kr qz ?_;refine AllReadyH.cons rfl (fun K hK=> ?_) AllReadyH.nil;go_simp;refine hK.out _ _ trivial (fun h3=> ?_);clear hK K h2;exact aeS
      . go_simp
        go_wp2_with (go_at_call 90;with_reducible refine (@dY wr.drew).mono ?_;rintro e w5 ⟨u,rfl,RV,s5⟩)
        obtain⟨b1,b2,l1,l2,rfl,K5⟩:=dM.kq (q:=0) RV om;simp only[HZ0.out] at K5⊢;have u5:=(ao (eg wr.heap.size wr)).trans s5;refine hK.out _ _ trivial (fun h1=> ?_);clear hK K hHeld;refine wpAnyH_ready (rs:=[1,3]) kr qz ?_;refine AllReadyH.cons rfl (fun K hK=> ?_) (AllReadyH.cons rfl (fun K hK=> ?_) AllReadyH.nil)
        . have kk:=(HG.out.aA u5).B9.c2
          go_simp;refine hK.out _ _ trivial (fun h2=> ?_);clear hK K h1 kk;refine wpAnyH_ready (rs:=[3]) kr qz ?_;refine AllReadyH.cons rfl (fun K hK=> ?_) AllReadyH.nil;go_simp;refine hK.out _ _ trivial (fun h3=> ?_);clear hK K h2;exact aeS
        . go_simp
          refine hK.out _ _ trivial (fun h2=> ?_);clear hK K h1;refine wpAnyH_ready (rs:=[1]) kr qz ?_;refine AllReadyH.cons rfl (fun K hK=> ?_) AllReadyH.nil;have kk:=((HG.out.aA u5).aA ((eg w5.heap.size w5).alloc (Nat.le_refl _) (.cells #[.bool fZ,.slice b1 nZ l1,.slice b2 mZ l2] 44))).B9.c2;go_simp;refine hK.out _ _ trivial (fun h3=> ?_);clear hK K h2;clear kk;exact aeS
    . obtain rfl:T=j:=om
      have hlt':¬(T:Int)<T:=om
      obtain⟨gA,cA,gB,cB,hG,lab3,hGK,hLL⟩:=HX.out;have HG:=ae hG;have HGK:=ae hGK;have HLL:=ae hLL;clear hG hGK hLL HX;obtain⟨cB',hcB'⟩:∃x,cB=x:=⟨_,rfl⟩;rw[hcB'] at HG HGK;clear hcB' cB;have q0:=HG.out.B9.c0;have JN:=@cT c a b off n cap X p1 wr hn HG.out.R;clear hlt;go_wp2_with fail;clear q0;refine JN.mono ?_;rintro e w3 ⟨k5,ek5,rfl,hk5,R5,O5⟩;obtain⟨sS,hsS⟩:∃z:Int,1+(k5:Int) % 3=z:=⟨_,rfl⟩;have hs2:1<=sS/\sS<=3:=om
      have HSS:Hid (1+(nV X n p1:Int) % 3=sS):=ae (by rw[ek5];exact hsS);have G3:=HG.out.go R5 O5;have GK3:=HGK.out.aI O5 (HLL.out.2.2 c hcl);obtain⟨p5,hp5⟩:∃q,nP n p1=q:=⟨_,rfl⟩;rw[hp5] at G3;obtain⟨w4,e4⟩:∃x:World,x=w3.alloc (.cells #[] 44):=⟨_,rfl⟩;have s4:w3.S w4:=by rw[e4];exact bJ _ _
      have z4:w4.heap.size=w3.heap.size+1:=by rw[e4];simp
      have Lb:fP w4 0 (fun q=>lu lab3 w3.heap.size (fun q=>if q=w3.heap.size then 8 else 9) q=0) (.s w3.heap.size 0 0) 0 (fun i=>rd (mkRat ((i:Int) % 3-1) 1)) []:=by rw[e4];exact fP.nil w3 0 _ _ (Nat.zero_le _)
      obtain⟨w6,e6⟩:∃x:World,x=w4.alloc (.cells #[.i 6,.i 0,.i 0,.i 996,.i sS,.s w3.heap.size 0 0] 48):=⟨_,rfl⟩;have s6:w4.S w6:=by rw[e6];exact bJ _ _
      have bN:au w6 (w3.heap.size+1) (.i 6) (.i 0) (.i 0) (.i 996) (.i sS) (.s w3.heap.size 0 0):=by rw[e6,<-z4];exact au.new _ _ _ _ _ _ _ _
      have l9:=G3.B9.lt;have l4:=G3.B4.lt;have l0:=G3.O.size;have HX:Hid (∃cB,w0.heap.size<=cB/\cB≠w.heap.size/\cB≠w.heap.size+1/\w3.heap.size+1=cB/\∃gV cV:Nat,au w6 cB (.i 6) (.i 0) (.i 0) (.i 996) (.i sS) (.s gV 0 cV)/\jk w0 w6 c a b off n cap X p5 (w.heap.size+1) w.heap.size (.i (T:Int)) (.i rounds) (.s gA T cA) (.s gB T cB') (.s gN nn cN) (.i out)/\∃lab:Nat->Nat,dF w6 lab (.s gA T cA) (.s gB T cB') (.n) T T 0 (fun _=>rd 0) (fun _=>rd 1) N/\(∃ys,fP w6 0 (fun q=>lab q=0) (.s gV 0 cV) 0 (fun i=>rd (mkRat ((i:Int) % 3-1) 1)) ys)/\lab gV=8/\lab cB=9/\lab w.heap.size=9/\lab (w.heap.size+1)=9/\∀q,q<w0.heap.size->lab q=9):=ae ⟨w3.heap.size+1,om,om,om,rfl,w3.heap.size,0,bN,(G3.aA s4).aA s6,lu lab3 w3.heap.size (fun q=>if q=w3.heap.size then 8 else 9),((GK3.lu (fun q=>if q=w3.heap.size then 8 else 9) (Nat.le_refl _)).aA s4).aA s6,⟨[],Lb.aA s6⟩,by rw[cX (Nat.le_refl _),if_pos rfl],by rw[cX om,if_neg om],(aj l9).trans HLL.out.1,(aj l4).trans HLL.out.2.1,fun q hq=>(aj om).trans (HLL.out.2.2 q hq)⟩;rw[e4] at e6;clear HG HGK HLL GK3 G3 R5 O5 JN ek5 hp5 s4 z4 Lb s6 bN e4 l9 l4 l0
      go_upto_region 22 with fail
      rw[<-e6];clear e6 hsS;obtain⟨cB,nB1,nB2,nB3,eB,hX⟩:=HX.out;rw[eB];have HX:=ae hX;clear hX eB;go_wp2_with fail
      go_loopw [11] (fun t wr=>∃i:Nat,i<=997/\t=.i (i:Int)/\Hid (∃gV cV:Nat,au wr cB (.i 6) (.i 0) (.i 0) (.i 996) (.i sS) (.s gV i cV)/\jk w0 wr c a b off n cap X p5 (w.heap.size+1) w.heap.size (.i (T:Int)) (.i rounds) (.s gA T cA) (.s gB T cB') (.s gN nn cN) (.i out)/\∃lab:Nat->Nat,dF wr lab (.s gA T cA) (.s gB T cB') (.n) T T 0 (fun _=>rd 0) (fun _=>rd 1) N/\(∃ys,fP wr 0 (fun q=>lab q=0) (.s gV i cV) i (fun i=>rd (mkRat ((i:Int) % 3-1) 1)) ys)/\lab gV=8/\lab cB=9/\lab w.heap.size=9/\lab (w.heap.size+1)=9/\∀q,q<w0.heap.size->lab q=9)) (fun t _=>997-(intOf t).toNat)
      case atStart=>exact⟨0,Nat.zero_le _,rfl,HX⟩
      case round=>
       clear HX;obtain⟨i,hi2,rfl,HX⟩:=hrel;obtain⟨gV,cV,hbN,hG,lab3,hGK,⟨ys,hLV⟩,hLL⟩:=HX.out;have HBN:=ae hbN;have HG:=ae hG;have HGK:=ae hGK;have HLV:=ae hLV;have HLL:=ae hLL;have b3:=hbN.c3;clear hbN hG hGK hLV hLL HX
       by_cases hle:i<=996
       . have hle':(i:Int)<=996:=om
         obtain⟨rF,hrF⟩:∃r,rd (mkRat ((i:Int) % 3-1) (1:Int).toNat)=r:=⟨_,rfl⟩;have JF:=@iC ((i:Int) % 3-1) 1 wr.drew om om om om;rw[hrF] at JF;have HF0:Hid (rd (mkRat ((i:Int) % 3-1) 1)=rF):=ae hrF;obtain⟨fF,nF,XF,mF,YF⟩:=rF;have ht3:((i:Int)).tmod 3=(i:Int) % 3:=Int.tmod_eq_emod_of_nonneg om;have wrS:IntKind.i64.wrap ((i:Int) % 3-1)=(i:Int) % 3-1:=wrap64 om om;clear hrF
         go_upto_region 25 with fail
         clear b3;refine wp_region_held_drew (S:=fun _=>True) kr trivial (fun hHeld=> ?_);refine tk 0 93 (.p cB 5) ?_;simp only[ap,la,lz,ls];refine tk 2 95 (.i (i:Int)) ?_;simp only[ap,la,lz,ls];refine ta 3 96 (.i ((i:Int) % 3)) ?_ ?_
         . intro w' hSw
           try dsimp only at hSw
           go_simp
         simp only[ap,la,lz,ls];refine ta 4 97 (.i ((i:Int) % 3-1)) ?_ ?_
         . intro w' hSw
           try dsimp only at hSw
           go_simp
         simp only[ap,la,lz,ls];refine wpAnyH_ready (rs:=[1,5]) kr qz ?_;refine AllReadyH.cons rfl (fun K hK=> ?_) (AllReadyH.cons rfl (fun K hK=> ?_) AllReadyH.nil)
         . have kk:=HBN.out.c5
           go_simp;refine hK.out _ _ trivial (fun h1=> ?_);clear hK K hHeld kk;refine wpAnyH_ready (rs:=[5]) kr qz ?_;refine AllReadyH.cons rfl (fun K hK=> ?_) AllReadyH.nil;go_simp
           go_wp2_with (go_at_call 92;with_reducible refine JF.mono ?_;rintro e w5 ⟨b1,b2,l1,l2,rfl,K5,s5⟩)
           have u5:=(ao (eg wr.heap.size wr)).trans s5;refine hK.out _ _ trivial (fun h2=> ?_);clear hK K h1;refine wpAnyH_ready (rs:=[6]) kr qz ?_;refine AllReadyH.cons rfl (fun K hK=> ?_) AllReadyH.nil;go_simp;refine hK.out _ _ trivial (fun h3=> ?_);clear hK K h2;exact aeQ
         . go_simp
           go_wp2_with (go_at_call 92;with_reducible refine JF.mono ?_;rintro e w5 ⟨b1,b2,l1,l2,rfl,K5,s5⟩)
           have u5:=(ao (eg wr.heap.size wr)).trans s5;refine hK.out _ _ trivial (fun h1=> ?_);clear hK K hHeld;refine wpAnyH_ready (rs:=[1,6]) kr qz ?_;refine AllReadyH.cons rfl (fun K hK=> ?_) (AllReadyH.cons rfl (fun K hK=> ?_) AllReadyH.nil)
           . have kk:=(HBN.out.aA u5).c5
             go_simp;refine hK.out _ _ trivial (fun h2=> ?_);clear hK K h1 kk;refine wpAnyH_ready (rs:=[6]) kr qz ?_;refine AllReadyH.cons rfl (fun K hK=> ?_) AllReadyH.nil;go_simp;refine hK.out _ _ trivial (fun h3=> ?_);clear hK K h2;exact aeQ
           . go_simp
             refine hK.out _ _ trivial (fun h2=> ?_);clear hK K h1;refine wpAnyH_ready (rs:=[1]) kr qz ?_;refine AllReadyH.cons rfl (fun K hK=> ?_) AllReadyH.nil;have kk:=((HBN.out.aA u5).aA ((eg w5.heap.size w5).alloc (Nat.le_refl _) (.cells #[.bool fF,.slice b1 nF l1,.slice b2 mF l2] 44))).c5;go_simp;refine hK.out _ _ trivial (fun h3=> ?_);clear hK K h2;clear kk;exact aeQ
       . have hle':¬(i:Int)<=996:=om
         have H997:=ae (show i=997 by omega);obtain⟨wM,eM⟩:∃x:World,x=wr.alloc (.cells #[.i 6,.i 0,.i 0,.i 996,.i sS,.s gV i cV] 48):=⟨_,rfl⟩;have sM:wr.S wM:=by rw[eM];exact bJ _ _
         have oM:wM.ownsRow 0 48 6 (.s wr.heap.size 1 1) 1 [.i 6,.i 0,.i 0,.i 996,.i sS,.s gV i cV]:=by rw[eM];exact World.ownsRow_lit wr #[.i 6,.i 0,.i 0,.i 996,.i sS,.s gV i cV] 1 (Nat.zero_le _) qd rfl
         have GM:=HG.out.aA sM;have q4:=GM.B9.c4;have qf4:=GM.B9.f 4;rw[eM] at q4 qf4;have b0:=HBN.out.c0;have b1:=HBN.out.c1;have b2:=HBN.out.c2;have b4:=HBN.out.c4;have b5:=HBN.out.c5;have HLv:=ae (HLV.out.own.lt gV rfl).2;have HM9:=ae (show wr.heap.size<wM.heap.size by rw[eM];simp);clear hle
         go_upto_region 27 with fail
         rw[<-eM];clear q4 qf4 b0 b1 b2 b3 b4 b5 eM;have MN:=(af.refl wM w.heap.size).setCell 4 (.s wr.heap.size 1 1);have G:=GM.aS (.s wr.heap.size 1 1);have HL9:=ae HLL.out.2.2.1;have HNI:Hid (∀j,j<1->NI ((fun _:Nat=>ay.mk 6 0 0 996 sS i (fun i=>rd (mkRat ((i:Int) % 3-1) 1))) j)):=ae (fun j _=>by unfold NI ef;simp only;omega);have II:Hid (ef (T:Int)):=ae (by unfold ef;omega);have IU:Hid (ef 1):=ae (by unfold ef;omega);have HE2:Hid (D=⟨(T:Int),rounds,T,fun _=>rd 0,T,fun _=>rd 1,1,fun _=>ay.mk 6 0 0 996 sS i (fun i=>rd (mkRat ((i:Int) % 3-1) 1)),1⟩):=ae (by rw[<-HD.out];unfold yF;rw[if_neg x0,if_pos x1,eT,HT.out,HSS.out,H997.out])
         have HL4:Hid ((fun q=>if q=gV then 10 else if q=wr.heap.size then 3 else lab3 q) (w.heap.size+1)=9):=ae (by
          have h1:=HLL.out;have h2:=HG.out.B4.lt;simp only;rw[if_neg (fun e=>by rw[e] at h1;omega),if_neg om];exact h1.2.2.2.1)
         have HL0:Hid (∀q,q<w0.heap.size->(fun q=>if q=gV then 10 else if q=wr.heap.size then 3 else lab3 q) q=9):=ae (fun q hq=>by
          have h1:=HLL.out;have h2:=HG.out.O.size;have h3:=h1.2.2.2.2 q hq;simp only;rw[if_neg (fun e=>by rw[e] at h3;omega),if_neg om];exact h3)
         have mvb:∀q,q<wr.heap.size->lab3 q≠9->((wM.setCell (jj w.heap.size 4) (.s wr.heap.size 1 1)).setCell (jj w.heap.size 5) (.i 1)).heap[q]?=wr.heap[q]?:=fun q hq hne=>((MN.setCell 5 (.i 1)).other q (fun e=>hne (by rw[e];exact HL9.out))).trans (sM.block q hq)
         have GKl:=HGK.out.mv (w':=(wM.setCell (jj w.heap.size 4) (.s wr.heap.size 1 1)).setCell (jj w.heap.size 5) (.i 1)) (lab':=fun q=>if q=gV then 10 else if q=wr.heap.size then 3 else lab3 q) (fun q hq hl=>⟨mvb q hq om,by
          rw[if_neg (fun e=>by have h1:=HLL.out.1;subst e;omega),if_neg om]⟩)
         have GK8:Hid (dF ((wM.setCell (jj w.heap.size 4) (.s wr.heap.size 1 1)).setCell (jj w.heap.size 5) (.i 1)) (fun q=>if q=gV then 10 else if q=wr.heap.size then 3 else lab3 q) (.s gA T cA) (.s gB T cB') (.s wr.heap.size 1 1) T T 1 (fun _=>rd 0) (fun _=>rd 1) (fun _=>ay.mk 6 0 0 996 sS i (fun i=>rd (mkRat ((i:Int) % 3-1) 1)))):=ae
          ⟨GKl.lo,GKl.lb,GKl.hi,GKl.hb,⟨_,kU oM (fun q hq=>(MN.setCell 5 (.i 1)).other q (fun e=>by have h2:=HG.out.B9.lt;simp[Value.ownBlock] at hq;omega)),fun j hj=>by
            obtain rfl:j=0:=om
            exact⟨gV,cV,ys,rfl,rfl,rfl,rfl,rfl,rfl,HLV.out.mv (fun q hq=>mvb q (HLV.out.own.lt q hq).2 (by simp[Value.ownBlock] at hq;subst hq;rw[HLL.out.1];omega)) (fun q hq h=>⟨mvb q hq om,by
             simp only;rw[if_neg (fun e=>by have h1:=HLL.out.1;subst e;omega),if_neg om];exact h⟩),if_pos rfl⟩⟩,fun q hq=>by
            simp[Value.ownBlock] at hq
            subst hq;have:=HLv.out;rw[if_neg om,if_pos rfl]⟩
         have G8:=G.aO (.i 1);clear MN GM oM sM mvb GKl HG HGK HBN HLV;generalize hwn:wM.setCell (jj w.heap.size 4) (.s wr.heap.size 1 1)=wn at*;clear hwn;exact acq
 have g1:((k:Int) % 4==1)=false:=by simp;omega
 by_cases x2:k % 4=2
 . have g2:((k:Int) % 4==2)=true:=by simp;omega
   have IR:Hid (ef (1000+(k:Int)/4 % 2)):=ae (by unfold ef;omega);have HL0:=HLB;have G8:=G.aG (.i (1000+(k:Int)/4 % 2));have GK8:=ae (GK.out.bE ((af.refl w2 w.heap.size).setCell 1 (.i (1000+(k:Int)/4 % 2))) HL9.out);have HE2:Hid (D=⟨inn,1000+(k:Int)/4 % 2,nl,Lo,nl,Hi,nn,N,out⟩):=ae (by rw[<-HD.out];unfold yF;rw[if_neg x0,if_neg x1,if_pos x2]);exact acq
 have g2:((k:Int) % 4==2)=false:=by simp;omega
 obtain⟨xL,LL⟩:=GK.out.lo;have nL:=GK.out.lb gL rfl;obtain⟨n2,n2'⟩:=dE nL HL9.out om;obtain⟨n3,n3'⟩:=dE nL HL4.out om;have n4:w0.heap.size<=gL:=Nat.le_of_not_lt fun h=>by have:=HLB.out gL h;omega
 obtain⟨e1,e2,e3,e4,ML⟩:=LL.rm (i:=0) om;have HLL:=ae LL;have q2:=G.B9.c2;have J1:=@ae3 c a b off n cap X p1 w2.drew hn (G.R.aA (ao (eg _ _)));obtain⟨t1,ht1⟩:∃t,vF X n p1=t:=⟨_,rfl⟩;obtain⟨D1,hD1⟩:∃t,xF X n p1=t:=⟨_,rfl⟩;rw[ht1,hD1] at J1;have HT1:=ae ht1;have HD1:=ae hD1;have hl0:(0:Int)<nl:=om
 have hl1:0<nl:=om
 have hl2:¬(nl:Int)<=0:=om
 clear LL ht1 hD1;go_wp2_with fail
 go_region_held3 (fun w'=>w'.cell? (jj w.heap.size 2)=some (.s gL nl cL)) (go_keep)
  (first
    | (go_at_call 94
       with_reducible refine J1.mono ?_
       rintro e w3 ⟨g1,c1,rfl,k1,k2,L1,l1,b1,b2,R3,O3⟩;have O23:cu c w2 w3:=⟨O3.os,O3.tape,O3.output,O3.size,O3.block⟩;have G3:=G.go R3 O23;have q2:=G3.B9.c2;have J2:=@cO (jp g1 0) g1 0 t1 c1 D1 w3 om L1 l1)
    | (go_at_call 75
       with_reducible refine J2.mono ?_
       rintro e w4 ⟨a4,g4,m4,c4,B4,rfl,k41,k42,L4,k43,k44,v4,s4⟩;have V4:=ae v4;have T4:Tr w4 (.slice a4 m4 c4) m4 B4:=⟨a4,g4,0,c4,rfl,k41,L4,k44⟩;have G4:=G3.aA s4;have q2:=G4.B9.c2;have J3:=@eJ 1 w4 om;rw[show ((1:Nat):Int)=1 from rfl] at J3;clear v4)
    | (go_at_call 74
       with_reducible refine J3.mono ?_
       rintro e w5 ⟨x5,t5,B5,rfl,k5,T5,v5,s5⟩;have J4:=@fT true _ x5 m4 t5 B4 B5 w5 om om (T4.aA s5) T5 (by rw[v5];omega);obtain⟨a5,b5,o5,c5,rfl,-,-,-⟩:=T5;have V5:=ae v5;have G5:=G4.aA s5;have q2:=G5.B9.c2;clear v5)
    | (go_at_call 93
       with_reducible refine J4.mono ?_
       rintro e w6 ⟨u,rfl,RV,s6⟩;obtain⟨N0,hN0⟩:∃t,lv D1 t1=t:=⟨_,rfl⟩;rw[V4.out,V5.out,hN0] at RV;have e:=ac0 (-(N0:Int)) 1 qd;simp only[fr,tr,Prod.mk.injEq,Int.natAbs_neg,Int.natAbs_natCast] at e;rw[e.2.1,e.2.2,show (true&&N0 != 0)=qn (mkRat (-(N0:Int)) 1) from e.1▸(by cases N0<;>simp)] at RV
       obtain⟨r2,hr2,b1',b2',l1',l2',rfl,K6⟩:∃r2,rd (mkRat (-(N0:Int)) 1)=r2/\∃b1 b2 l1 l2,u=.agg #[.bool r2.neg,.slice b1 r2.n l1,.slice b2 r2.m l2]/\dZ w6 (fun g=>w5.heap.size<=g) r2 b1 b2 l1 l2:=by
        obtain⟨b1,b2,l1,l2,e,K⟩:=dM.kq RV om;exact⟨_,rfl,b1,b2,l1,l2,e,K⟩
       obtain⟨f2,n6,X2,m2,Y2⟩:=r2;have HR2:Hid (rd (mkRat (-(lv (xF X n p1) (vF X n p1):Int)) 1)=⟨f2,n6,X2,m2,Y2⟩):=ae (by rw[HT1.out,HD1.out,hN0];exact hr2);have u6:=(s4.tr s5).trans (sM s6 (s4.tr s5).size);have G6:=G3.aA u6;have L6:=(HLL.out.aI O23 (fun e=>by have h2:=HLB.out c hcl;simp[Value.ownBlock] at e;subst e;omega) (fun q h e=>by have h2:=HLB.out c hcl;subst e;omega)).aA u6;obtain⟨e5,e6,e7,e8,ML6⟩:=L6.rm (i:=0) om;have q2:=G6.B9.c2;obtain⟨d0,d1,d2⟩:=ML6.g;simp only[Nat.reduceMul,Nat.reduceAdd] at d0 d1 d2;have f0:=L6.own.frozenAt 0;have f3:=L6.own.frozenAt 1;have f4:=L6.own.frozenAt 2;clear hr2 hN0 e RV))
 have z3:=O23.size;have z6:=u6.size;have z5:=(s4.tr s5).size;have l9:=G.B9.lt;have l4:=G.B4.lt;have GK6:=((GK.out.aI O23 (HLB.out c hcl)).lu (fun _=>0) (Nat.le_refl _)).aA u6;obtain⟨xs,LL6⟩:=GK6.lo;have lL:=GK6.lb gL rfl;have HL4:Hid (lu lab2 w3.heap.size (fun _=>0) (w.heap.size+1)=9):=ae ((aj om).trans HL4.out);have HL0:Hid (∀q,q<w0.heap.size->lu lab2 w3.heap.size (fun _=>0) q=9):=ae (fun q hq=>(aj (by have:=G.O.size;omega)).trans (HLB.out q hq));obtain⟨ys,LP⟩:=LL6.put 0 (r:=⟨f2,n6,X2,m2,Y2⟩) (K6.imp (p':=fun q=>lu lab2 w3.heap.size (fun _=>0) q=0/\q≠gL) (fun q _ h=>⟨cX om,fun e=>by have h:=lL;rw[<-e,cX om] at h;omega⟩));have M5:af w6 _ gL:=(((af.refl w6 gL).setCell 0 (.bool f2)).setCell 1 (.slice b1' n6 l1')).setCell 2 (.slice b2' m2 l2');have GK8:=ae (GK6.setL (fun q _ hne=>M5.other q (fun e=>hne (by rw[e];exact lL))) (fun _ _=>rfl) ⟨_,LP⟩ (fun g hg=>GK6.lb g hg));have G8:=G6.mg M5 n3' n2' n4;have HE2:Hid (D=⟨inn,rounds,nl,fun j=>if j=0 then br.mk f2 n6 X2 m2 Y2 else Lo j,nl,Hi,nn,N,out⟩):=ae (by rw[<-HD.out];unfold yF;rw[if_neg x0,if_neg x1,if_neg x2,<-HR2.out]);have G:=G8;generalize ((w6.setCell (jj gL 0) (.bool f2)).setCell (jj gL 1) (.slice b1' n6 l1')).setCell (jj gL 2) (.slice b2' m2 l2')=w7 at*;clear q2 d0 d1 d2 f0 f3 f4 M5 LP LL6 GK6 G6 ML6 L6 u6 ML G3 G4 G5 K6 J1 J2 J3 J4 s4 s5 s6 L1 L4 T4 HLL O3 R3 O23;exact acq
section
variable{X:Nat->Nat}{n:Nat}
theorem agT(hX:∀j,j<n->X j<256)(p:Nat):Qb (sd X n p).1.1 13/\Qb (sd X n p).1.2 13:=by
 have h0:=gK hX p;have hf:∀(z:Int) (d:Nat),z.natAbs<4294967296->d≠0->d<4294967296->Qb (mkRat z d) 1:=fun z d h1 h2 h3=>pJ h2 (by simpa using h1) (by simpa using h3)
 unfold sd
 split
 . have h1:=(kg hX (nP n p)).2
   have h2:=gK hX (rP X n (nP n p));exact⟨Qb.more (k:=11) h1 om,Qb.add (k:=11) (l:=1) h1 (hf _ _ om om om)⟩
 . unfold sdA
   repeat' split
   all_goals exact⟨(hf _ _ om om om).more om,(hf _ _ om om om).more om⟩
theorem ahg(p K M:Nat):∀f i,gC X n p K M f i<=f+i
 | 0,i=>by simp[gC]
 | f+1,i=>by
   unfold gC
   split
   . have:=ahg p K M f (i+1);omega
   . omega
theorem ac4(hX:∀j,j<n->X j<256)(p:Nat):GB (cY X n p).1:=by
 unfold cY drB;have hI:1<=wY (nV X n p)/\wY (nV X n p)<=8:=by unfold wY;split<;>omega
 have hR:drR (nV X n p)<=20:=by unfold drR;split<;>omega
 generalize wY (nV X n p)=I at*;generalize drR (nV X n p)=R at*;generalize pE X n (nP n p) I=p2;have hC:=ahg (X:=X) (n:=n) p2 I (drM (nV X n p) n p2) 12 0;generalize gC X n p2 I (drM (nV X n p) n p2) 12 0=C at*
 have ho:(if nV X n p % 16=15 then nV X n (gS X n p2 I C).2 % (C+1) else C)<=C:=by
  split
  . exact Nat.le_of_lt_succ (Nat.mod_lt _ om)
  . exact Nat.le_refl _
 generalize (if nV X n p % 16=15 then nV X n (gS X n p2 I C).2 % (C+1) else C)=o at*;refine⟨⟨hI.1,hI.2,rfl⟩,by simp only;omega,by simp only;omega,fun j _=>⟨_,rfl,(agT hX _).2⟩,fun j _=>uo (agT hX _).1,fun j hj=> ?_,fun j hj i hi=> ?_⟩
 . have h:=afb hX p2 I hI j (by simp only at hj;omega)
   have ha:=h.a;have hb:=h.op;have hc:=h.b;have hd:=h.k;have he:=h.s;have hf:=h.nv;simp only at hj⊢;omega
 . exact (afb hX p2 I hI j (by simp only at hj;omega)).V i hi
end
def anG(X:Nat->Nat)(n p:Nat):ax:=
 if nV X n p % 10=9 then yF X n (cY X n (nP n p)).1 (nV X n (cY X n (nP n p)).2) (nP n (cY X n (nP n p)).2)
 else if nV X n p % 5=3 then spG X n (cY X n (nP n p)).1 (nV X n (cY X n (nP n p)).2) (nP n (cY X n (nP n p)).2) else (cY X n (nP n p)).1
theorem ahk{p:Prop}(h:p:=by
 rintro e w4 ⟨u,rfl,⟨aL,aH,aN,kL,kH,kN,rfl,L4⟩,O4⟩;have b4:=HB1.out.aI O4 hne;rw[HE.out] at L4;simp only[HE.out];obtain⟨d0,d1,d2,d3,d4,d5,d6,d7,d8⟩:=D;have u0:=b4.c0;have u1:=b4.c1;have u2:=b4.c2;have u3:=b4.c3;have u4:=b4.c4;have u5:=b4.c5;have uf0:=b4.f 0;have uf1:=b4.f 1;have uf2:=b4.f 2;have uf3:=b4.f 3;have uf4:=b4.f 4;have uf5:=b4.f 5;have O04:=ae (O01.trans O4);have HL4:=ae L4;clear O4 L4 JL;go_wp2;refine bodyPost_ret (dn rfl Tryz.underlying26 rfl fp _ _ _ _ _ _ _ _ _ rfl ((((((b4.aE _).aG _).aF _).aK _).aS _).aO _)) rfl ?_;have M:=fun v0 v1 v2 v3 v4 v5=>((((((af.refl w4 w.heap.size).setCell 0 v0).setCell 1 v1).setCell 2 v2).setCell 3 v3).setCell 4 v4).setCell 5 v5
 exact⟨_,rfl,⟨_,_,_,_,_,_,rfl,(HL4.out.marked (M _ _ _ _ _ _) l1).down l1⟩,jl O04.out (M _ _ _ _ _ _) (Nat.le_refl _)⟩):p:=h
theorem aiO(c:Nat)(a:Option Addr)(b off n cap:Nat)(X:Nat->Nat)(p:Nat)(w:World)(hn:n<=16777216)(R:Rp w c a b off n cap X p):
 Cl 11 #[.p c 0] w fun e w'=>∃u,e=.returned u/\DrO w' (w.heap.size+1) u (anG X n p)/\cu c w w':=by
 have hcl:=R.R.lt;have hX:=ae R.hX;obtain⟨D,hD⟩:∃x,anG X n p=x:=⟨_,rfl⟩;rw[hD];have HD:=ae hD;obtain⟨wA,eA⟩:∃x:World,x=w.alloc (.cells #[.i 0,.i 0,.n,.n,.n,.i 0] 26):=⟨_,rfl⟩;have sA:w.S wA:=by rw[eA];exact bJ _ _
 have bA:au wA w.heap.size (.i 0) (.i 0) (.n) (.n) (.n) (.i 0):=by rw[eA];exact au.new w _ _ _ _ _ _ _
 clear hD;go_enter Tryz.func11,Tryz.ntmps11;go_wp2_with fail;rw[<-eA];clear eA;refine (cT hn (R.aA sA)).mono ?_;rintro e w1 ⟨k,ek,rfl,hk,R1,O1⟩;have O01:=(cu.aC c sA).trans O1;have b1:=bA.aI O1 om;have l1:=b1.lt;obtain⟨p1,hp1⟩:∃q,nP n p=q:=⟨_,rfl⟩;have HP1:=ae hp1;have HK:=ae ek;rw[hp1] at R1;have JG:=ag4 hn R1;have B:=ac4 hX.out p1;obtain⟨d,hd⟩:∃x,(cY X n p1).1=x:=⟨_,rfl⟩;obtain⟨p2,hp2⟩:∃x,(cY X n p1).2=x:=⟨_,rfl⟩;rw[hd,hp2] at JG;rw[hd] at B;have HD2:Hid ((if k % 10=9 then yF X n d (nV X n p2) (nP n p2) else if k % 5=3 then spG X n d (nV X n p2) (nP n p2) else d)=D):=ae (by rw[<-HD.out];unfold anG;rw[ek,hp1,hd,hp2]);clear R ek hp1 hd hp2 O1 sA bA HD HK;go_wp2_with fail;refine JG.mono ?_;clear JG;rintro e w2 ⟨u,rfl,⟨gL,cL,gH,cH,gN,cN,lab,rfl,K2,hlab⟩,R2,O2⟩;obtain⟨inn,rounds,nl,Lo,nh,Hi,nn,N,out⟩:=d;have z1:=O01.size;have z2:=O2.size;obtain⟨w3,e3⟩:∃x:World,x=w2.alloc (.cells #[.i inn,.i rounds,.s gL nl cL,.s gH nh cH,.s gN nn cN,.i out] 26):=⟨_,rfl⟩;have s3:w2.S w3:=by rw[e3];exact bJ _ _
 have g3:au w3 w2.heap.size (.i inn) (.i rounds) (.s gL nl cL) (.s gH nh cH) (.s gN nn cN) (.i out):=by rw[e3];exact au.new _ _ _ _ _ _ _ _
 have K3:=ae (K2.aA s3);have R3:=R2.aA s3;have O3:=(O01.trans O2).trans (cu.aC c s3);have b3:=(b1.aI O2 om).aA s3;have HLB:=ae hlab;have HB:=ae B;have O13:=O2.trans (cu.aC c s3);have HB1:=ae b1;clear K2 R2 O2 s3 hlab b1 B
 go_upto_if 11 with fail
 rw[<-e3];clear e3;obtain⟨q0,q1,q2,q3,q4,q5⟩:=g3.g;have hc1:c<w1.heap.size:=om
 have hne:w.heap.size≠c:=om
 by_cases x9:k % 10=9
 . have f9:((k:Int) % 10==9)=true:=by simp;omega
   have JL:=aeP hn R3 HB.out O13 hc1 HLB.out K3.out;have HE:Hid (yF X n ⟨inn,rounds,nl,Lo,nh,Hi,nn,N,out⟩ (nV X n p2) (nP n p2)=D):=ae (by have h:=HD2.out;rw[if_pos x9] at h;exact h);clear x9;go_wp2_with fail;refine JL.mono ?_;exact ahk
 have f9:((k:Int) % 10==9)=false:=by simp;omega
 by_cases x3:k % 5=3
 . have f3:((k:Int) % 5==3)=true:=by simp;omega
   have JL:=aea hn R3 HB.out O13 hc1 HLB.out K3.out;have HE:Hid (spG X n ⟨inn,rounds,nl,Lo,nh,Hi,nn,N,out⟩ (nV X n p2) (nP n p2)=D):=ae (by have h:=HD2.out;rw[if_neg x9,if_pos x3] at h;exact h);clear x3 x9;go_wp2_with fail;refine JL.mono ?_;exact ahk
 have f3:((k:Int) % 5==3)=false:=by simp;omega
 have HE:Hid (ax.mk inn rounds nl Lo nh Hi nn N out=D):=ae (by have h:=HD2.out;rw[if_neg x9,if_neg x3] at h;exact h);have bi:=HB.out.i;have bl:=HB.out.l;have bn:=HB.out.n;simp only at bi bl bn;obtain⟨u0,u1,u2,u3,u4,u5⟩:=b3.g;obtain⟨uf0,uf1,uf2,uf3,uf4,uf5⟩:=b3.k;have HBL:=ae bl;clear bl x9 x3;go_wp2;refine bodyPost_ret (dn rfl Tryz.underlying26 rfl fp _ _ _ _ _ _ _ _ _ rfl ((((((b3.aE _).aG _).aF _).aK _).aS _).aO _)) rfl ?_;have bl:=HBL.out;have M:=fun v0 v1 v2 v3 v4 v5=>((((((af.refl w3 w.heap.size).setCell 0 v0).setCell 1 v1).setCell 2 v2).setCell 3 v3).setCell 4 v4).setCell 5 v5
 rw[<-HE.out];refine⟨_,rfl,DrO.of (d:=⟨inn,rounds,nl,Lo,nh,Hi,nn,N,out⟩) ((K3.out.bE (M _ _ _ _ _ _) (HLB.out _ l1)).gral (fun q hq=>HLB.out q om) HB.out.ni (by unfold ef;omega) (by unfold ef;omega) (by unfold ef;omega) om om om) rfl,jl O3 (M _ _ _ _ _ _) (Nat.le_refl _)⟩
theorem ah7{a:Option Addr}{b off n cap:Nat}{X:Nat->Nat}{w:World}(hC:Code w a b off n X):
 Cl 12 #[.slice a n cap] w fun e w'=>e=.returned (.p w.heap.size 0)/\Rp w' w.heap.size a b off n cap X 0/\w.S w':=by
 have sA:=bJ w (.cells #[.slice a n cap,.i 0] 91);go_enter Tryz.func12,Tryz.ntmps12;go_wp2;go_ret;exact⟨rfl,⟨⟨qz,⟨0,Nat.zero_le _,qz⟩,fun k=>by simp,hC.aA sA,fun h=>Nat.ne_of_lt (hC.lt h)⟩,Nat.zero_le _,qz,fun h=>hC.lt h⟩,sA⟩
theorem ab7{a:Option Addr}{b off n cap:Nat}{X:Nat->Nat}{w:World}(hn:n<=16777216)(hC:Code w a b off n X):
 Cl 4 #[.slice a n cap] w fun e w'=>∃u,e=.returned u/\DrO w' w.heap.size u (anG X n 0)/\w.S w':=by
 obtain⟨D,hD⟩:∃x,anG X n 0=x:=⟨_,rfl⟩;obtain⟨wA,eA⟩:∃x:World,x=w.alloc (.cells #[.i 0,.i 0,.n,.n,.n,.i 0] 26):=⟨_,rfl⟩;have sA:w.S wA:=by rw[eA];exact bJ _ _
 have zA:wA.heap.size=w.heap.size+1:=by rw[eA];simp
 have bA:au wA w.heap.size (.i 0) (.i 0) (.n) (.n) (.n) (.i 0):=by rw[eA];exact au.new w _ _ _ _ _ _ _
 have JO:=@ah7 a b off n cap X wA (hC.aI (cu.aC w.heap.size sA) (fun h0=>by have:=hC.lt h0;omega));rw[hD];have HD:=ae hD;have HZ:=ae zA;clear hD zA;go_enter Tryz.func4,Tryz.ntmps4;go_wp2_with fail;rw[<-eA];clear eA;refine JO.mono ?_;rintro e w1 ⟨rfl,R1,s1⟩;have b1:=bA.aA s1;have JA:=aiO wA.heap.size a b off n cap X 0 w1 hn R1;rw[HD.out] at JA;have z1:=s1.size;have hl:=R1.R.lt;go_wp2_with fail;refine JA.mono ?_;rintro e w2 ⟨u,rfl,⟨aL,aH,aN,kL,kH,kN,rfl,L2⟩,O2⟩;obtain⟨d0,d1,d2,d3,d4,d5,d6,d7,d8⟩:=D;have hne:w.heap.size≠wA.heap.size:=by have:=HZ.out;omega
 have b2:=b1.aI O2 hne;obtain⟨u0,u1,u2,u3,u4,u5⟩:=b2.g;obtain⟨uf0,uf1,uf2,uf3,uf4,uf5⟩:=b2.k;have S2:w.S w2:=⟨O2.os.trans (s1.os.trans sA.os),O2.tape.trans (s1.tape.trans sA.tape),O2.output.trans (s1.output.trans sA.output),by have:=O2.size;have:=HZ.out;omega,fun q hq=>(O2.block q (by have:=HZ.out;omega) (by have:=HZ.out;omega)).trans ((s1.block q (by have:=HZ.out;omega)).trans (sA.block q hq))⟩;have HS2:=ae S2;have HL2:=ae L2;go_wp2;refine bodyPost_ret (dn rfl Tryz.underlying26 rfl fp _ _ _ _ _ _ _ _ _ rfl ((((((b2.aE _).aG _).aF _).aK _).aS _).aO _)) rfl ?_;have M:=fun v0 v1 v2 v3 v4 v5=>((((((af.refl w2 w.heap.size).setCell 0 v0).setCell 1 v1).setCell 2 v2).setCell 3 v3).setCell 4 v4).setCell 5 v5
 have hz:=HZ.out;exact⟨_,rfl,⟨_,_,_,_,_,_,rfl,(HL2.out.marked (M _ _ _ _ _ _) om).down om⟩,HS2.out.trans ((M _ _ _ _ _ _).since (Nat.le_refl _))⟩
theorem qP{R:Nat->br}{n K:Nat}(h:∀i,i<n->(R i).n+(R i).m<=K):mj R n<=n*K:=by
 induction n with
 | zero=>simp[mj]
 | succ n ih=>
   have:=ih (fun i hi=>h i om);have:=h n om;rw[ky,Nat.add_mul];omega
theorem ahs{A:Nat->ay}{n K:Nat}(h:∀i,i<n->(A i).size<=K):vt A n<=n*K:=by
 induction n with
 | zero=>simp[vt]
 | succ n ih=>
   have:=ih (fun i hi=>h i om);have:=h n om;rw[i8,Nat.add_mul];omega
theorem aht{A:Nat->ay}{r:Nat->ay}(n0 n:Nat)(h:∀j,(r j).size=0):vt (fun j=>if j<n0 then A j else r j) n<=vt A n0:=by
 induction n with
 | zero=>simp[vt]
 | succ n ih=>
   rw[i8]
   by_cases e:n<n0
   . rw[if_pos e]
     have h1:vt (fun j=>if j<n0 then A j else r j) n=vt A n:=by
      clear ih
      induction n with
      | zero=>rfl
      | succ m im=>rw[i8,i8,im om,if_pos om]
     have h2:=uh (A:=A) (show n+1<=n0 from e);rw[i8] at h2;omega
   . rw[if_neg e,h]
     exact ih
theorem size_le{d:ax}(hl:d.nl<=8)(hh:d.nh<=8)(hn:d.nn<=12)(L:∀i,i<d.nl->(d.Lo i).n+(d.Lo i).m<=40)(H:∀i,i<d.nh->(d.Hi i).n+(d.Hi i).m<=40)(N:∀j,j<d.nn->(d.N j).nv<=100/\∀i,i<(d.N j).nv->((d.N j).V i).n+((d.N j).V i).m<=40):d.size<=60000:=by
 have h1:=qP L;have h2:=qP H
 have h3:vt d.N d.nn<=d.nn*4100:=ahs fun j hj=>by
  obtain⟨a,b⟩:=N j hj;have:=qP b;unfold ay.size;omega
 unfold ax.size;omega
theorem aed{q:Rat}{k:Nat}(h:Qb q 13)(hk:k<256):(sp (rd q) k).n+(sp (rd q) k).m<=40:=by
 have hl:=uo h
 have h5:∀N,N<4294967296^13->(iE (N*(2+k/7))).1<=14:=fun N hN=>vh (by
  rw[Nat.pow_succ];exact Nat.mul_lt_mul'' hN om)
 have e1:lv (rd q).X (rd q).n=q.num.natAbs:=(gh _).2.2;have e2:lv (rd q).Y (rd q).m=q.den:=(gh _).2.2;unfold sp
 repeat' split
 case isTrue h55=>
  all_goals first
   | (simp only;omega)
   | (rw[e1,e2];have a:=h5 _ h.1;have b:=h5 _ h.2;show (iE _).1+(iE _).1<=40;omega)
 all_goals first
  | (simp only;omega)
  | (rw[e1,e2];have a:=h5 _ h.1;have b:=h5 _ h.2;show (iE _).1+(iE _).1<=40;omega)
section
variable{X:Nat->Nat}{n:Nat}{d:ax}
theorem oE{q:Rat}{k:Nat}(h:Qb q k)(hk:k<=20):(rd q).n+(rd q).m<=40:=by
 have:=uo h;omega
theorem qb_z(z:Int)(hz:z.natAbs<4294967296):Qb (mkRat z 1) 1:=pJ om (by simpa using hz) om
theorem aiz:Qb 0 1:=⟨qz,qz⟩
theorem qb_1:Qb 1 1:=⟨qz,qz⟩
theorem GB.lo(B:GB d)(i:Nat)(hi:i<d.nl):(d.Lo i).n+(d.Lo i).m<=40:=by
 have:=B.L i hi;omega
theorem GB.hi(B:GB d)(i:Nat)(hi:i<d.nh):(d.Hi i).n+(d.Hi i).m<=40:=by
 obtain⟨q,e,h⟩:=B.H i (by have:=B.l;omega);rw[e];exact oE h om
theorem GB.no(B:GB d)(j:Nat)(hj:j<d.nn):(d.N j).nv<=100/\∀i,i<(d.N j).nv->((d.N j).V i).n+((d.N j).V i).m<=40:=
 ⟨by have:=B.N j hj;omega,fun i hi=>by
   obtain⟨q,e,h⟩:=B.V j hj i hi;rw[e];exact oE h om⟩
theorem GB.sz(B:GB d):d.size<=60000:=size_le B.l.2.1 (by have:=B.l;omega) B.n B.lo B.hi B.no
theorem ahw(hX:∀j,j<n->X j<256){a:ay}(hn:a.nv<=63)(hV:∀i,i<a.nv->∃q,a.V i=rd q/\Qb q 11)(i k p:Nat):
 (pb X n a i k p).nv<=100/\∀j,j<(pb X n a i k p).nv->((pb X n a i k p).V j).n+((pb X n a i k p).V j).m<=40:=by
 have h0:∀i,i<a.nv->(a.V i).n+(a.V i).m<=40:=fun i hi=>by
  obtain⟨q,e,h⟩:=hV i hi;rw[e];exact oE h om
 have h1:∀j (c:Prop) [Decidable c] (r:br),(¬c->j<a.nv)->(c->r.n+r.m<=40)->(if c then r else a.V j).n+(if c then r else a.V j).m<=40:=fun j c _ r h h'=>by
  split
  . exact h' (by assumption)
  . exact h0 j (h (by assumption))
 obtain⟨b,hb⟩:∃b,pb X n a i k p=b:=⟨_,rfl⟩;rw[hb];unfold pb at hb
 repeat' split at hb
 all_goals subst hb
 all_goals refine⟨by first | exact Nat.le_trans hn om | (simp only;omega),fun j hj=> ?_⟩
 all_goals try simp only at hj⊢
 all_goals first
  | exact h0 j om
  | exact h1 j _ _ (fun h=>by omega) (fun _=>oE (kg hX p).2 om)
  | exact h1 j _ _ (fun h=>hj) (fun _=>oE aiz om)
  | (refine h1 j _ _ (fun h=>hj) (fun _=> ?_)
     obtain⟨q,e,h⟩:=hV (nV X n p % a.nv) (Nat.mod_lt _ om);rw[e];exact aed (h.more om) (gK hX _))
theorem ahx(hX:∀j,j<n->X j<256)(B:GB d)(k p:Nat):(spG X n d k p).size<=60000:=by
 have hl:=B.l;unfold spG
 repeat' split
 . exact B.sz
 . exact B.sz
 . refine size_le hl.2.1 (by simp only;omega) B.n (fun j hj=> ?_) B.hi B.no
   simp only
   split
   . obtain⟨q,e,h⟩:=B.H (nV X n p % d.nl) (Nat.mod_lt _ om)
     rw[e,aiv];exact oE (h.add (l:=1) (pJ om (by simp;omega) om)) om
   . exact B.lo j hj
 . refine size_le hl.2.1 (by simp only;omega) B.n B.lo (fun j hj=> ?_) B.no
   simp only
   split
   . obtain⟨q,e,h⟩:=B.H (nV X n p % d.nh) (by rw[hl.2.2];exact Nat.mod_lt _ om)
     rw[e];exact aed h (gK hX _)
   . exact B.hi j hj
 . exact B.sz
 . refine size_le hl.2.1 (by simp only;omega) B.n B.lo B.hi (fun j hj=> ?_)
   simp only at hj⊢
   split
   . exact ahw hX (by have:=B.N j hj;omega) (B.V j hj) _ _ _
   . exact B.no j hj
theorem ahE(hX:∀j,j<n->X j<256)(B:GB d)(k p:Nat):(yF X n d k p).size<=200000:=by
 have hl:=B.l;have hz:=B.sz;unfold yF
 repeat' split
 . have h:=aht (A:=d.N) (r:=fun j=>⟨2,j,0,0,0,0,fun _=>br.nul⟩) d.nn (1000+k/4 % 2) (fun j=>rfl)
   unfold ax.size at hz⊢;simp only;omega
 . have h1:=qP (R:=fun _=>rd 0) (n:=1000+k/4 % 2) (K:=40) (fun _ _=>oE aiz om)
   have h2:=qP (R:=fun _=>rd 1) (n:=1000+k/4 % 2) (K:=40) (fun _ _=>oE qb_1 om);have h3:=qP (R:=fun i:Nat=>rd (mkRat ((i:Int) % 3-1) 1)) (n:=997) (K:=40) (fun i _=>oE (qb_z _ om) om);unfold ax.size;simp only[vt,ay.size];omega
 . exact Nat.le_trans hz om
 . refine Nat.le_trans (size_le hl.2.1 (by simp only;omega) B.n (fun j hj=> ?_) B.hi B.no) om
   simp only
   split
   . exact oE (k:=11) (pJ om (by rw[Int.natAbs_neg,Int.natAbs_natCast];exact aey hX p) om) om
   . exact B.lo j hj
theorem aiP(hX:∀j,j<n->X j<256)(p:Nat):(anG X n p).size<=1048576:=by
 unfold anG
 repeat' split
 . exact Nat.le_trans (ahE hX (ac4 hX _) _ _) om
 . exact Nat.le_trans (ahx hX (ac4 hX _) _ _) om
 . exact Nat.le_trans (ac4 hX _).sz om
end
end Go.Proofs.YtclgkofcooibfaaGreatDoor
