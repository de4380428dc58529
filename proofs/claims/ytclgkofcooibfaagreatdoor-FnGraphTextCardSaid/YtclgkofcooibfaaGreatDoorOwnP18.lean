import Derived.Test.YtclgkofcooibfaaGreatDoorOwnP17
set_option maxHeartbeats 6400000
set_option maxRecDepth 100000
namespace Go.Proofs.YtclgkofcooibfaaGreatDoor
open Go.RowKit
theorem abl{base c d gn gm:Nat}{an am:Option Addr}{n m cn cm:Nat}{X Y:Nat->Nat}{u v x y:Nat}{w0 w:World}(hn:n<=33554432)(hmn:m<=n)(hm1:0<m)(hG:Gd base w0 w c d gn gm an am n m cn cm X Y)(hx:x≠0)
 (hu:u<4294967296)(hv:v<4294967296)(hx2:x<4294967296)(hy:y<4294967296){N M:Nat}(hE:N+u*lv X n=x*lv Y m/\M+y*lv Y m=v*lv X n)(hMN:M<=N)(hN:N<2^(32*n)):
 Calls Tryz.prog 215 #[.pointer (some ⟨c,0,none⟩),.pointer (some ⟨d,0,none⟩),.agg #[.int .u64 (u:Int),.int .u64 (v:Int),.int .u64 (x:Int),.int .u64 (y:Int),.bool true]] w fun e w'=>e=.returned (.tuple #[])/\vp base w0 c d N M w':=by
 have sA:w.Since w.heap.size (w.alloc (.cells #[.int .u64 (u:Int),.int .u64 (v:Int),.int .u64 (x:Int),.int .u64 (y:Int),.bool true] 242)):=(World.Since.refl _ _).alloc (Nat.le_refl _) _
 have hG4:=hG.grow sA
 have bx:=dc.new w (.int .u64 (u:Int)) (.int .u64 (v:Int)) (.int .u64 (x:Int)) (.int .u64 (y:Int)) (.bool true) 242
 have hL:base<=w.heap.size:=hG.aZ
 have l1:c<w.heap.size:=World.block_lt_of_cell? _ _ hG.bC
 have l2:d<w.heap.size:=World.block_lt_of_cell? _ _ hG.bD
 have l3:gn<w.heap.size:=hG.LX.lt (by omega)
 have l4:gm<w.heap.size:=hG.LY.lt hm1
 go_enter Tryz.func215,Tryz.ntmps215
 clear sA
 generalize hW:w.alloc (.cells #[.int .u64 (u:Int),.int .u64 (v:Int),.int .u64 (x:Int),.int .u64 (y:Int),.bool true] 242)=w4 at*
 have HE:=ae hE
 have HN:=ae hN
 have HMN:=ae hMN
 have LLY:Hid (ll (cZ Y m) m=ll Y m):=by
  simp only[Hid,ll]
  exact List.map_congr_left fun j hj=>by simp[cZ,List.mem_range.1 hj]
 have P0:Gp base w0 w4 c d gn an n cn X (.slice am m cm) m (cZ Y m):=by
  refine⟨hG4.S,hG4.bC,hG4.bD,hG4.fC,hG4.fD,hG4.LX,hG4.FX (by omega),hG4.uX,by rw[LLY.out];exact hG4.ownY hm1, ?_,hG4.hc,hG4.hd,hG4.hn,hG4.d1,hG4.d3,hG4.d4,hG4.LX.lt (by omega)⟩
  intro q hq
  have e:=hJ hG4.LY hm1
  subst e
  simp[Value.ownBlock] at hq
  subst hq
  exact⟨hG4.d5,hG4.d6,Ne.symm hG4.d2⟩
 have LY0:=hJ hG.LY hm1
 have hNC:=hG.nX
 have XL:=ae hG.lX
 have YL:=ae hG.lY
 clear hG hG4 hE hN hMN
 have x2:=bx.c2
 have hxn:((x:Int)==0)=false:=by simp;omega
 obtain⟨i0,hi,hz0,hz1,hz2⟩:=info_parts Tryz.info129
 go_wp2
 go_loopg [] (n-m) (fun g wr=>∃(k:Nat) (v':Value),m<=k/\k<=n/\Hid (g=n-k)/\Gp base w0 wr c d gn an n cn X v' k (cZ Y m)/\dc wr w.heap.size (.int .u64 (u:Int)) (.int .u64 (v:Int)) (.int .u64 (x:Int)) (.int .u64 (y:Int)) (.bool true)/\(∀q,v'.ownBlock=some q->q≠w.heap.size))
 case atStart=>
  exact⟨m,_,Nat.le_refl _,hmn,ae rfl,P0,bx,fun q hq=>by
   simp[Value.ownBlock] at hq
   have e:=LY0
   rw[e] at hq
   simp at hq
   omega⟩
 case round=>
  clear P0 bx x2
  obtain⟨k,v',hmk,hkn,Hg,PK,bx,hqL⟩:=hrel
  obtain⟨a,cap,rfl,hkc,hac,hag⟩:=jx PK.own
  have b1:=PK.bC
  have b2:=PK.bD
  by_cases hlt:k<n
  . have hki:(k:Int)<(n:Int):=by omega
    go_wp2
    go_region
    have PK:=PK.drew
    have bx:=bx.drew
    clear b1 b2
    generalize wr.drew=wd at*
    have b1:=PK.bC
    have b2:=PK.bD
    have ho:=PK.own
    have fD:=PK.fD
    have hbw:base<=wd.heap.size:=by have h1:=PK.hn;have h2:=PK.lg;omega
    go_wp2_with (at_builtin;refine wpList_append_own_at _ rfl _ _ 98 rfl base 129 i0 (.int .u32 0) 1 4 Tryz.underlying98 hi hz0 hz1 hz2 rfl (by decide) _ _ _ rfl (ho.alloc _) ⟨wd.heap.size,0,none⟩ 1 1 [.int .u32 0] rfl rfl (bO _ _ _) (bZ _ rfl) (by unfold maxLen;omega) (by omega) (by simp;omega) ?_)
    intro v' w1 hown' hgrow hnn hat
    rw[aco Y m k hmk] at hown'
    have PN:=PK.app hown' hgrow hat
    have sW:=(World.Since.refl wd.heap.size wd).alloc (Nat.le_refl _) (.cells #[.int .u32 0] 129)
    have hC:∀q,(Value.slice a k cap).ownBlock=some q->q≠c/\q≠d/\q≠gn:=PK.ap
    have eL:=(hgrow.block w.heap.size (by have:=bx.lt;simp;omega) (fun e=>hqL _ e.symm rfl)).trans (sW.block _ bx.lt)
    have bx1:dc w1 w.heap.size (.int .u64 (u:Int)) (.int .u64 (v:Int)) (.int .u64 (x:Int)) (.int .u64 (y:Int)) (.bool true):=
     ⟨(World.cell?_of_block (w:=wd) (a:=⟨w.heap.size,0,none⟩) eL).trans bx.c0,(World.cell?_of_block (w:=wd) (a:=⟨w.heap.size,1,none⟩) eL).trans bx.c1,(World.cell?_of_block (w:=wd) (a:=⟨w.heap.size,2,none⟩) eL).trans bx.c2,(World.cell?_of_block (w:=wd) (a:=⟨w.heap.size,3,none⟩) eL).trans bx.c3,(World.cell?_of_block (w:=wd) (a:=⟨w.heap.size,4,none⟩) eL).trans bx.c4,fun k=>(World.frozen?_of_block (w:=wd) (a:=⟨w.heap.size,k,none⟩) eL).trans (bx.f k)⟩
    have bx2:=bx1.marked ((af.refl w1 d).setCell 0 v') (by omega)
    have q1:w1.cell? ⟨d,0,none⟩=some (.slice a k cap):=hgrow.cell ((sW.cell (a:=⟨d,0,none⟩) (World.block_lt_of_cell? _ _ b2)).trans b2) (fun e=>(hC d e.symm).2.1 rfl)
    have f1:w1.frozen? ⟨d,0,none⟩=false:=by have:=PN.fD;simpa using this
    have hq2:∀q,v'.ownBlock=some q->q≠w.heap.size:=fun q hq=>by
     rcases hat with e | e
     . exact hqL q (e.symm.trans hq)
     . rw[hq] at e;have:=bx.lt;simp at e;omega
    obtain⟨a1,cap1,rfl,hkc1,hac1,hag1⟩:=jx hown'
    clear hgrow hnn hat sW PK bx ho b1 b2 fD hown' bx1 eL hC
    go_wp2
    go_roundg (n-(k+1))
    case measure=>have:=Hg.out;omega
    case rel=>exact⟨k+1,_,by omega,by omega,rfl,PN,bx2,hq2⟩
  . have e:k=n:=by omega
    subst e
    obtain⟨gm',cm',e',hcm,hbm,hgl,LY',FY'⟩:=bX PK.own (by intro h;cases h;omega)
    cases e'
    have H':=qW PK.own rfl
    have hne:¬((k:Int)<(k:Int)):=by omega
    have ap:=PK.ap gm' rfl
    have hqL':=hqL gm' rfl
    have ea:=hJ PK.LX (by omega)
    subst ea
    go_wp2
    go_region
    have PK:=PK.drew
    have bx:=bx.drew
    have LY':ag wr.drew (some ⟨gm',0,none⟩) gm' 0 k (cZ Y m):=LY'
    have FY':∀o,wr.drew.frozen? ⟨gm',o,none⟩=false:=FY'
    have H':Shape wr.drew gm' 129 cap/\cap<=maxLen:=H'
    have hgl:gm'<wr.drew.heap.size:=hgl
    clear b1 b2
    generalize wr.drew=wd at*
    have b1:=PK.bC
    have zc:c<wd.heap.size:=World.block_lt_of_cell? _ _ b1
    have zd:d<wd.heap.size:=World.block_lt_of_cell? _ _ PK.bD
    have zg:=PK.lg
    have zl:=bx.lt
    have zc1:c<wd.heap.size+1:=by omega
    go_wp2
    have sE:wd.Since wd.heap.size ((wd.alloc (.cells #[.int .u64 0,.int .u64 0,.int .u64 0] 248)).alloc (.cells #[.int .u64 0,.int .u64 0,.int .u64 0] 248)):=((World.Since.refl _ _).alloc (Nat.le_refl _) _).alloc (by simp) _
    have bE1:bj ((wd.alloc (.cells #[.int .u64 0,.int .u64 0,.int .u64 0] 248)).alloc (.cells #[.int .u64 0,.int .u64 0,.int .u64 0] 248)) wd.heap.size (.int .u64 0) (.int .u64 0) (.int .u64 0):=
     (bj.new wd (.int .u64 0) (.int .u64 0) (.int .u64 0) 248).aA ((World.Since.refl _ _).alloc (Nat.le_refl _) _)
    have bE2:bj ((wd.alloc (.cells #[.int .u64 0,.int .u64 0,.int .u64 0] 248)).alloc (.cells #[.int .u64 0,.int .u64 0,.int .u64 0] 248)) (wd.heap.size+1) (.int .u64 0) (.int .u64 0) (.int .u64 0):=by
     have:=bj.new (wd.alloc (.cells #[.int .u64 0,.int .u64 0,.int .u64 0] 248)) (.int .u64 0) (.int .u64 0) (.int .u64 0) 248
     simpa using this
    generalize ((wd.alloc (.cells #[.int .u64 0,.int .u64 0,.int .u64 0] 248)).alloc (.cells #[.int .u64 0,.int .u64 0,.int .u64 0] 248))=wE at*
    have bxE:=bx.aA sE
    have E0:Ge base w0 wE c d gn gm' k cn cap w.heap.size wd.heap.size (wd.heap.size+1) X (cZ Y m):=
     ⟨PK.S.trans (sM sE (by have:=PK.hc;omega)),(sE.cell (a:=⟨c,0,none⟩) zc).trans PK.bC,(sE.cell (a:=⟨d,0,none⟩) zd).trans PK.bD,(sE.frozen (a:=⟨c,0,none⟩) zc).trans PK.fC,(sE.frozen (a:=⟨d,0,none⟩) zd).trans PK.fD,
       PK.LX.aA sE,LY'.aA sE,fun x=>(sE.frozen (a:=⟨gn,x,none⟩) zg).trans (PK.FX x),fun x=>(sE.frozen (a:=⟨gm',x,none⟩) hgl).trans (FY' x),PK.uX.since sE (Nat.le_refl _),fun _ _ _ h _=>by cases h;exact⟨H'.1.since sE hgl,H'.2⟩,
       hNC,hcm,PK.hc,PK.hd,PK.hn,hbm,hL,by have:=PK.hc;omega,by have:=PK.hc;omega,PK.d1,Ne.symm ap.2.2,PK.d3,PK.d4,ap.1,ap.2.1,⟨by omega,by omega,by omega,by omega,by omega⟩,⟨by omega,by omega,by omega,by omega,by omega⟩,by omega,⟨by omega,by omega,by omega,by omega⟩⟩
    clear PK LY' FY' H' hgl b1 zc zd zg zl zc1 sE bx hcm hbm ap hqL' hac hag hkc hqL hL l1 l2 l3 l4 hmk hW
    have hmi:=hmn
    clear hmn
    obtain⟨l,el⟩:∃l,l=w.heap.size:=⟨_,rfl⟩
    obtain⟨p,ep⟩:∃p,p=wd.heap.size:=⟨_,rfl⟩
    obtain⟨q,eq⟩:∃q,q=wd.heap.size+1:=⟨_,rfl⟩
    rw[<-el,<-eq,<-ep] at E0
    rw[<-eq] at bE2
    rw[<-ep] at bE1
    rw[<-el] at bxE
    rw[<-eq,<-ep,<-el]
    clear el ep eq
    go_loopw [55] (fun t wr=>∃(i:Nat) (VX VY:Nat->Nat) (P1 Q1 o1 P2 Q2 o2:Nat),i<=k/\t=.int .i64 (i:Int)/\Ge base w0 wr c d gn gm' k cn cap l p q VX VY/\dc wr l (.int .u64 (u:Int)) (.int .u64 (v:Int)) (.int .u64 (x:Int)) (.int .u64 (y:Int)) (.bool true)/\
     bj wr p (.int .u64 (P1:Int)) (.int .u64 (Q1:Int)) (.int .u64 (o1:Int))/\bj wr q (.int .u64 (P2:Int)) (.int .u64 (Q2:Int)) (.int .u64 (o2:Int))/\Hid (∀j,i<=j->VX j=X j/\VY j=cZ Y m j)/\Hid (xk x (cZ Y m) u X VX i P1 Q1 o1)/\Hid (xk v X y (cZ Y m) VY i P2 Q2 o2)) (fun t _=>k-(intOf t).toNat)
    case atStart=>exact⟨0,X,cZ Y m,0,0,0,0,0,0,Nat.zero_le _,rfl,E0,bxE,bE1,bE2,fun _ _=>⟨rfl,rfl⟩,ou _ _ _ _ _,ou _ _ _ _ _⟩
    case round=>
     clear E0 bxE bE1 bE2
     obtain⟨i,VX,VY,P1,Q1,o1,P2,Q2,o2,hi,rfl,E1,bL,B1,B2,HV,HB1,HB2⟩:=hrel
     by_cases hlt:i<k
     . have g1:wr.cell? ⟨gn,i,none⟩=some (.int .u32 (VX i)):=by simpa using (E1.LX i hlt).2
       have g2:wr.cell? ⟨gm',i,none⟩=some (.int .u32 (VY i)):=by simpa using (E1.LY i hlt).2
       obtain⟨hvx,hvy⟩:=HV.out i (Nat.le_refl _)
       have lx:X i<4294967296:=XL.out i hlt
       have ly:cZ Y m i<4294967296:=oe YL.out i
       rw[hvx] at g1
       rw[hvy] at g2
       have ST1:=ae (fun (e o':Nat) (W:Nat->Nat)=>qB (d:=e) (o':=o') (E:=W) HB1.out)
       have ST2:=ae (fun (e o':Nat) (W:Nat->Nat)=>qB (d:=e) (o':=o') (E:=W) HB2.out)
       have hP1:=HB1.out.2.1
       have hQ1:=HB1.out.2.2.1
       have ho1:=HB1.out.2.2.2.1
       have hP2:=HB2.out.2.1
       have hQ2:=HB2.out.2.2.1
       have ho2:=HB2.out.2.2.2.1
       obtain⟨xi,exi⟩:∃r,r=X i:=⟨_,rfl⟩
       obtain⟨zi,ezi⟩:∃r,r=cZ Y m i:=⟨_,rfl⟩
       rw[<-exi] at g1 lx ST1 ST2
       rw[<-ezi] at g2 ly ST1 ST2
       clear exi ezi hvx hvy HB1 HB2
       obtain⟨F1,f1⟩:∃F,F=xi*u:=⟨_,rfl⟩
       obtain⟨F2,f2⟩:∃F,F=zi*x:=⟨_,rfl⟩
       obtain⟨F3,f3⟩:∃F,F=xi*v:=⟨_,rfl⟩
       obtain⟨F4,f4⟩:∃F,F=zi*y:=⟨_,rfl⟩
       have t1:F1+4294967295<18446744073709551616:=by rw[f1];exact gT hu lx (by omega)
       have t2:F2+4294967295<18446744073709551616:=by rw[f2];exact gT hx2 ly (by omega)
       have t3:F3+4294967295<18446744073709551616:=by rw[f3];exact gT hv lx (by omega)
       have t4:F4+4294967295<18446744073709551616:=by rw[f4];exact gT hy ly (by omega)
       have m1:=wrap_mul xi u F1 f1.symm (by omega)
       have m2:=wrap_mul zi x F2 f2.symm (by omega)
       have m3:=wrap_mul xi v F3 f3.symm (by omega)
       have m4:=wrap_mul zi y F4 f4.symm (by omega)
       have h1:=ae f1
       have h2:=ae f2
       have h3:=ae f3
       have h4:=ae f4
       clear f1 f2 f3 f4
       have c1:=E1.bC
       have c2:=E1.bD
       have q0:=bL.c0
       have q1:=bL.c1
       have q2:=bL.c2
       have q3:=bL.c3
       have q4:=bL.c4
       have hik:(i:Int)<(k:Int):=by omega
       go_wp2
       go_region
       have E1:=E1.drew
       have bL:=bL.drew
       have B1:bj wr.drew p _ _ _:=⟨B1.c0,B1.c1,B1.c2,B1.f⟩
       have B2:bj wr.drew q _ _ _:=⟨B2.c0,B2.c1,B2.c2,B2.f⟩
       have g1:wr.drew.cell? ⟨gn,i,none⟩=_:=g1
       have g2:wr.drew.cell? ⟨gm',i,none⟩=_:=g2
       clear c1 c2 q0 q1 q2 q3 q4
       generalize wr.drew=wr1 at*
       have c1:=E1.bC
       have c2:=E1.bD
       have q0:=bL.c0
       have q1:=bL.c1
       have q2:=bL.c2
       have q3:=bL.c3
       have q4:=bL.c4
       go_wp2
       go_region
       have E1:=E1.drew
       have bL:=bL.drew
       have B1:bj wr1.drew p _ _ _:=⟨B1.c0,B1.c1,B1.c2,B1.f⟩
       have B2:bj wr1.drew q _ _ _:=⟨B2.c0,B2.c1,B2.c2,B2.f⟩
       have g1:wr1.drew.cell? ⟨gn,i,none⟩=_:=g1
       have g2:wr1.drew.cell? ⟨gm',i,none⟩=_:=g2
       clear c1 c2 q0 q1 q2 q3 q4
       generalize wr1.drew=wr2 at*
       have c1:=E1.bC
       have c2:=E1.bD
       have q0:=bL.c0
       have q1:=bL.c1
       have q2:=bL.c2
       have q3:=bL.c3
       have q4:=bL.c4
       go_wp2
       have bb1:bj wr2.drew p _ _ _:=⟨B1.c0,B1.c1,B1.c2,B1.f⟩
       have bb2:bj wr2.drew q _ _ _:=⟨B2.c0,B2.c1,B2.c2,B2.f⟩
       have J1:=@ku p F2 F1 P1 Q1 o1 wr2.drew bb1 (by omega) (by omega) ho1
       have J2:=@ku q F3 F4 P2 Q2 o2 wr2.drew bb2 (by omega) (by omega) ho2
       have npq:=E1.pq
       have np:=E1.p1
       have nq:=E1.q1
       have nl:=E1.l1
       have ngm:=E1.d2
       have n1:=E1.d3
       have n2:=E1.d4
       have n3:=E1.d5
       have n4:=E1.d6
       have ED:=E1.drew
       have bD:=bL.drew
       clear B1 B2 g1 g2 q0 q1 q2 q3 q4 bL E1 hm1 hx hxn LLY LY0 bx m1 m2 m3 m4 c1 c2 hik hNC
       refine wp_region_held_drew (S:=fun w'=>w'.cell? ⟨c,0,none⟩=some (.slice (some ⟨gn,0,none⟩) k cn)/\w'.cell? ⟨d,0,none⟩=some (.slice (some ⟨gm',0,none⟩) k cap)) (by kernel_rfl) ⟨ED.bC,ED.bD⟩ (fun hHeld=> ?_)
       refine ci 0 (some 96) (.pointer (some ⟨c,0,none⟩)) rfl (by kernel_rfl) (by kernel_rfl) (by kernel_rfl) (by kernel_rfl) (fun _ _ _ h=>h) (by kernel_rfl) (by assumption) ?_ ?_
       . intro w' hSw
         clear hSw
         kernel_rfl
       simp only[Act.put,List.setIfInBounds_toArray,List.set_cons_zero,List.set_cons_succ]
       refine ci 1 (some 97) (.pointer (some ⟨c,0,none⟩)) rfl (by kernel_rfl) (by kernel_rfl) (by kernel_rfl) (by kernel_rfl) (fun _ _ _ h=>h) (by kernel_rfl) (by assumption) ?_ ?_
       . intro w' hSw
         clear hSw
         kernel_rfl
       simp only[Act.put,List.setIfInBounds_toArray,List.set_cons_zero,List.set_cons_succ]
       refine ci 2 (some 98) (.slice (some ⟨gn,0,none⟩) k cn) rfl (by kernel_rfl) (by kernel_rfl) (by kernel_rfl) (by kernel_rfl) (fun _ _ _ h=>h) (by kernel_rfl) (by assumption) ?_ ?_
       . intro w' hSw
         obtain⟨hs1,hs2⟩:=hSw
         go_simp
       simp only[Act.put,List.setIfInBounds_toArray,List.set_cons_zero,List.set_cons_succ]
       refine ci 3 (some 99) (.int .i64 (i:Int)) rfl (by kernel_rfl) (by kernel_rfl) (by kernel_rfl) (by kernel_rfl) (fun _ _ _ h=>h) (by kernel_rfl) (by assumption) ?_ ?_
       . intro w' hSw
         clear hSw
         kernel_rfl
       simp only[Act.put,List.setIfInBounds_toArray,List.set_cons_zero,List.set_cons_succ]
       refine ci 4 (some 100) (.pointer (some ⟨d,0,none⟩)) rfl (by kernel_rfl) (by kernel_rfl) (by kernel_rfl) (by kernel_rfl) (fun _ _ _ h=>h) (by kernel_rfl) (by assumption) ?_ ?_
       . intro w' hSw
         clear hSw
         kernel_rfl
       simp only[Act.put,List.setIfInBounds_toArray,List.set_cons_zero,List.set_cons_succ]
       refine ci 5 (some 101) (.pointer (some ⟨d,0,none⟩)) rfl (by kernel_rfl) (by kernel_rfl) (by kernel_rfl) (by kernel_rfl) (fun _ _ _ h=>h) (by kernel_rfl) (by assumption) ?_ ?_
       . intro w' hSw
         clear hSw
         kernel_rfl
       simp only[Act.put,List.setIfInBounds_toArray,List.set_cons_zero,List.set_cons_succ]
       refine ci 6 (some 102) (.slice (some ⟨gm',0,none⟩) k cap) rfl (by kernel_rfl) (by kernel_rfl) (by kernel_rfl) (by kernel_rfl) (fun _ _ _ h=>h) (by kernel_rfl) (by assumption) ?_ ?_
       . intro w' hSw
         obtain⟨hs1,hs2⟩:=hSw
         go_simp
       simp only[Act.put,List.setIfInBounds_toArray,List.set_cons_zero,List.set_cons_succ]
       refine ci 7 (some 103) (.int .i64 (i:Int)) rfl (by kernel_rfl) (by kernel_rfl) (by kernel_rfl) (by kernel_rfl) (fun _ _ _ h=>h) (by kernel_rfl) (by assumption) ?_ ?_
       . intro w' hSw
         clear hSw
         kernel_rfl
       simp only[Act.put,List.setIfInBounds_toArray,List.set_cons_zero,List.set_cons_succ]
       refine ci 8 (some 104) (.int .u64 (F2:Int)) rfl (by kernel_rfl) (by kernel_rfl) (by kernel_rfl) (by kernel_rfl) (fun _ _ _ h=>h) (by kernel_rfl) (by assumption) ?_ ?_
       . intro w' hSw
         clear hSw
         kernel_rfl
       simp only[Act.put,List.setIfInBounds_toArray,List.set_cons_zero,List.set_cons_succ]
       refine ci 9 (some 105) (.int .u64 (F1:Int)) rfl (by kernel_rfl) (by kernel_rfl) (by kernel_rfl) (by kernel_rfl) (fun _ _ _ h=>h) (by kernel_rfl) (by assumption) ?_ ?_
       . intro w' hSw
         clear hSw
         kernel_rfl
       simp only[Act.put,List.setIfInBounds_toArray,List.set_cons_zero,List.set_cons_succ]
       refine ci 11 (some 107) (.int .u64 (F3:Int)) rfl (by kernel_rfl) (by kernel_rfl) (by kernel_rfl) (by kernel_rfl) (fun _ _ _ h=>h) (by kernel_rfl) (by assumption) ?_ ?_
       . intro w' hSw
         clear hSw
         kernel_rfl
       simp only[Act.put,List.setIfInBounds_toArray,List.set_cons_zero,List.set_cons_succ]
       refine ci 12 (some 108) (.int .u64 (F4:Int)) rfl (by kernel_rfl) (by kernel_rfl) (by kernel_rfl) (by kernel_rfl) (fun _ _ _ h=>h) (by kernel_rfl) (by assumption) ?_ ?_
       . intro w' hSw
         clear hSw
         kernel_rfl
       simp only[Act.put,List.setIfInBounds_toArray,List.set_cons_zero,List.set_cons_succ]
       refine wpAnyH_ready (rs:=[10]) (by kernel_rfl) (by simp) ?_
       refine AllReadyH.cons rfl (fun K hK=> ?_) AllReadyH.nil
       go_simp
       go_wp2_with (go_at_call 223;with_reducible refine J1.mono ?_;rintro e w5 ⟨d1,r1,rfl,M1,C1,hd1,hr1,he1⟩)
       have D2:=bb2.marked M1 (Ne.symm npq)
       have E5:=ED.marked M1 (Or.inl rfl)
       have b5:=bD.marked M1 (Ne.symm np.2.2.2.2)
       have J4:=@ku q F3 F4 P2 Q2 o2 w5 D2 (by omega) (by omega) ho2
       refine hK.out _ _ ⟨E5.bC,E5.bD⟩ (fun h1=> ?_)
       clear hK K hHeld
       refine wpAnyH_ready (rs:=[13]) (by kernel_rfl) (by simp) ?_
       refine AllReadyH.cons rfl (fun K hK=> ?_) AllReadyH.nil
       go_simp
       go_wp2_with (go_at_call 223;with_reducible refine J4.mono ?_;rintro e w6 ⟨d2,r2,rfl,M2,C2,hd2,hr2,he2⟩)
       have BB1:=C1.marked M2 npq
       have BB2:=C2
       have E6:=E5.marked M2 (Or.inr rfl)
       have b6:=b5.marked M2 (Ne.symm nq.2.2.2.2)
       refine hK.out _ _ ⟨E6.bC,E6.bD⟩ (fun h2=> ?_)
       clear hK K h1
       refine ci 14 (some 110) (.pointer (some ⟨gn,i,none⟩)) rfl (by kernel_rfl) (by kernel_rfl) (by kernel_rfl) (by kernel_rfl) (fun _ _ _ h=>h) (by kernel_rfl) (by assumption) ?_ ?_
       . intro w' hSw
         clear hSw
         go_simp
         try (intro h;omega)
       simp only[Act.put,List.setIfInBounds_toArray,List.set_cons_zero,List.set_cons_succ]
       refine wpAnyH_ready (rs:=[15]) (by kernel_rfl) (by simp) ?_
       refine AllReadyH.cons rfl (fun K hK=> ?_) AllReadyH.nil
       have s1:w6.cell? ⟨gn,i,none⟩=some (.int .u32 (VX i)):=by simpa using (E6.LX i hlt).2
       have s3:=E6.FX i
       go_simp
       have q1:=iO (w:=w6) (a:=⟨gn,i,none⟩) (b:=⟨c,0,none⟩) (v:=.int .u32 (d1:Int)) n1
       have q2:=iO (w:=w6) (a:=⟨gn,i,none⟩) (b:=⟨d,0,none⟩) (v:=.int .u32 (d1:Int)) n2
       refine hK.out _ _ ⟨q1.trans E6.bC,q2.trans E6.bD⟩ (fun h3=> ?_)
       clear hK K h2
       refine ci 16 (some 111) (.pointer (some ⟨gm',i,none⟩)) rfl (by kernel_rfl) (by kernel_rfl) (by kernel_rfl) (by kernel_rfl) (fun _ _ _ h=>h) (by kernel_rfl) (by assumption) ?_ ?_
       . intro w' hSw
         clear hSw
         go_simp
         try (intro h;omega)
       simp only[Act.put,List.setIfInBounds_toArray,List.set_cons_zero,List.set_cons_succ]
       refine wpAnyH_ready (rs:=[17]) (by kernel_rfl) (by simp) ?_
       refine AllReadyH.cons rfl (fun K hK=> ?_) AllReadyH.nil
       have s2:(w6.setCell ⟨gn,i,none⟩ (.int .u32 (d1:Int))).cell? ⟨gm',i,none⟩=some (.int .u32 (VY i)):=(iO (show gn≠gm' from ngm)).trans (by simpa using (E6.LY i hlt).2)
       have s4:(w6.setCell ⟨gn,i,none⟩ (.int .u32 (d1:Int))).frozen? ⟨gm',i,none⟩=false:=by simp[E6.FY i]
       go_simp
       have EN:=E6.put i d1 d2
       refine hK.out _ _ ⟨EN.bC,EN.bD⟩ (fun h4=> ?_)
       clear hK K h3 h4 s1 s2 s3 s4 q1 q2
       refine wpAnyH_done (by kernel_rfl) ?_ _
       have bN:=(b6.marked ((af.refl w6 gn).setCell i (.int .u32 (d1:Int))) nl.2.2.1).marked ((af.refl _ gm').setCell i (.int .u32 (d2:Int))) nl.2.2.2
       have BN1:=(BB1.marked ((af.refl w6 gn).setCell i (.int .u32 (d1:Int))) np.2.2.1).marked ((af.refl _ gm').setCell i (.int .u32 (d2:Int))) np.2.2.2.1
       have BN2:=(BB2.marked ((af.refl w6 gn).setCell i (.int .u32 (d1:Int))) nq.2.2.1).marked ((af.refl _ gm').setCell i (.int .u32 (d2:Int))) nq.2.2.2.1
       have HN1:Hid (xk x (cZ Y m) u X (fX VX i d1) (i+1) ((F2+P1)/4294967296) ((F1+Q1)/4294967296) r1):=by
        rw[h1.out,h2.out] at he1⊢
        exact ST1.out d1 r1 (fX VX i d1) (by omega) (by omega) (by omega) (by omega) hd1 hr1 (fun j hj=>az _ _ _ _ (by omega)) (bK _ _ _) he1
       have HN2:Hid (xk v X y (cZ Y m) (fX VY i d2) (i+1) ((F3+P2)/4294967296) ((F4+Q2)/4294967296) r2):=by
        rw[h3.out,h4.out] at he2⊢
        exact ST2.out d2 r2 (fX VY i d2) (by omega) (by omega) (by omega) (by omega) hd2 hr2 (fun j hj=>az _ _ _ _ (by omega)) (bK _ _ _) he2
       have HVN:Hid (∀j,i+1<=j->fX VX i d1 j=X j/\fX VY i d2 j=cZ Y m j):=fun j hj=>by
        have:=HV.out j (by omega)
        rw[az _ _ _ _ (by omega),az _ _ _ _ (by omega)];exact this
       clear J1 J2 J4 he1 he2 ST1 ST2 E6 b6 BB1 BB2 E5 b5 ED bD C1 C2 M1 M2 D2 HV
       go_wp2
       go_roundw
       case rel=>go_light;exact⟨i+1,_,_,_,_,_,_,_,_,by omega,by go_num,EN,bN,BN1,BN2,HVN,HN1,HN2⟩
       case measure=>simp[intOf];omega
     . have e:i=k:=by omega
       subst e
       have lX:=ae HB1.out.2.2.2.2
       have lY:=ae HB2.out.2.2.2.2
       have HX:Hid (lv VX i=N):=tT HB1.out (by have h:=HE.out.1;rw[lf Y m i hmi];exact h) HN.out
       have HY:Hid (lv VY i=M):=tT HB2.out (by have h:=HE.out.2;rw[lf Y m i hmi];exact h) (Nat.lt_of_le_of_lt HMN.out HN.out)
       have c1:=E1.bC
       have c2:=E1.bD
       have hik:¬((i:Int)<(i:Int)):=by omega
       clear HB1 HB2 HV HE HN HMN bL B1 B2 XL YL
       go_wp2_with fail
       refine (@eK c 0 _ gn 0 i cn VX _ (by omega) E1.nX c1 E1.fC E1.LX).mono ?_
       rintro e w5 ⟨rfl,hw5⟩
       have k1:w5.cell? ⟨d,0,none⟩=some (.slice (some ⟨gm',0,none⟩) i cap):=by rw[hw5,iO (show c≠d from E1.d1)];exact c2
       have k2:w5.frozen? ⟨d,0,none⟩=false:=by rw[hw5];simp[E1.fD]
       have k3:ag w5 (some ⟨gm',0,none⟩) gm' 0 i VY:=by rw[hw5];exact E1.LY.setOther (Ne.symm E1.d5) _
       have k4:w5.cell? ⟨c,0,none⟩=some (.slice (some ⟨gn,0,none⟩) (ce (nz VX) i) cn):=by rw[hw5];exact World.cell?_setCell_same _ _ _ c1
       have k5:w5.frozen? ⟨c,0,none⟩=false:=by rw[hw5];simp[E1.fC]
       have k6:ag w5 (some ⟨gn,0,none⟩) gn 0 i VX:=by rw[hw5];exact E1.LX.setOther (Ne.symm E1.d3) _
       have k7:w0.Since base w5:=by rw[hw5];exact E1.S.setCell E1.hc _
       have k8:∀x,w5.frozen? ⟨gn,x,none⟩=false:=fun x=>by rw[hw5];simp[E1.FX x]
       have k9:∀x,w5.frozen? ⟨gm',x,none⟩=false:=fun x=>by rw[hw5];simp[E1.FY x]
       have u1:fg w5 (.slice (some ⟨gn,0,none⟩) i cn) gn:=by rw[hw5];exact E1.uX.setCell _ _ _
       have u2:fg w5 (.slice (some ⟨gm',0,none⟩) i cap) gm':=by rw[hw5];exact E1.uY.setCell _ _ _
       clear hw5 c1 c2
       go_wp2_with fail
       refine (@eK d 0 _ gm' 0 i cap VY _ (by omega) E1.nY k1 k2 k3).mono ?_
       rintro e w6 ⟨rfl,rfl⟩
       go_wp2
       go_end0
       have t1:=co (nz VX) i
       have t2:=co (nz VY) i
       have a1:=E1.nX
       have a2:=E1.nY
       refine⟨rfl,gn,gm',_,_,_,_,cn,cap,VX,VY,⟨k7.setCell E1.hd _,by rw[iO (show d≠c from Ne.symm E1.d1)];exact k4,World.cell?_setCell_same _ _ _ k1,by simp[k5],by simp[k2],(k6.take t1).setOther (Ne.symm E1.d4) _,(k3.take t2).setOther (Ne.symm E1.d6) _,fun _ x=>by simp[k8 x],fun _ x=>by simp[k9 x],
        by omega,by omega,fun h=>(by cases h),fun h=>(by cases h),fun j hj=>lX.out j (by omega),fun j hj=>lY.out j (by omega),fun h=>(by have:=cI _ _ h;simpa [nz] using this),fun h=>(by have:=cI _ _ h;simpa [nz] using this),E1.hc,E1.hd,E1.hn,E1.hm,E1.d1,E1.d2,E1.d3,E1.d4,E1.d5,E1.d6,(u1.setCell _ _ _).len,(u2.setCell _ _ _).len⟩,(dP _ _).trans HX.out,(dP _ _).trans HY.out⟩
end Go.Proofs.YtclgkofcooibfaaGreatDoor
