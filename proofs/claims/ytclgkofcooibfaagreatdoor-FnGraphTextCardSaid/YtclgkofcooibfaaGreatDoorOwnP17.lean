import Derived.Test.YtclgkofcooibfaaGreatDoorOwnP11
import Derived.Test.YtclgkofcooibfaaGreatDoorOwnP13
set_option maxHeartbeats 6400000
set_option maxRecDepth 100000
namespace Go.Proofs.YtclgkofcooibfaaGreatDoor
open Go.RowKit
section
variable{base:Nat}{w wr wr':World}{c d gn gm:Nat}{an am:Option Addr}{n m cn cm:Nat}{X Y:Nat->Nat}
theorem Gd.aZ(h:Gd base w wr c d gn gm an am n m cn cm X Y):base<=wr.heap.size:=by
 have h1:=h.hc;have h2:=gz _ _ h.bC;have:c<wr.heap.size:=h2;omega
theorem fg.since{v:Value}{g B:Nat}(h:fg wr v g)(s:wr.Since B wr')(hb:wr.heap.size<=B):fg wr' v g:=fun a k cap hv ha=>⟨(h a k cap hv ha).1.since s (Nat.lt_of_lt_of_le (h a k cap hv ha).1.lt hb),(h a k cap hv ha).2⟩
theorem Gd.grow(h:Gd base w wr c d gn gm an am n m cn cm X Y)(s:wr.S wr'):Gd base w wr' c d gn gm an am n m cn cm X Y:=by
 have zc:=gz _ _ h.bC;have zd:=gz _ _ h.bD
 exact⟨h.S.trans (sM s h.aZ),(s.cell (a:=jj c 0) zc).trans h.bC,(s.cell (a:=jj d 0) zd).trans h.bD,(s.frozen (a:=jj c 0) zc).trans h.fC,(s.frozen (a:=jj d 0) zd).trans h.fD,h.LX.aA s,h.LY.aA s,
  fun a x=>(s.frozen (a:=jj gn x) (h.LX.lt a)).trans (h.FX a x),fun a x=>(s.frozen (a:=jj gm x) (h.LY.lt a)).trans (h.FY a x),
  h.nX,h.nY,h.oX,h.oY,h.lX,h.lY,h.pX,h.pY,h.hc,h.hd,h.hn,h.hm,h.d1,h.d2,h.d3,h.d4,h.d5,h.d6,h.uX.since s (Nat.le_refl _),h.uY.since s (Nat.le_refl _)⟩
theorem Gd.ownY(h:Gd base w wr c d gn gm an am n m cn cm X Y)(hm:0<m):wr.ownsRow base 129 1 (.slice am m cm) m (ll Y m):=by
 have e:=hJ h.LY hm;subst e;obtain⟨⟨cur,h1,h2⟩,h3⟩:=h.uY _ _ _ rfl qz;refine⟨by rw[mC];omega,.inr ⟨gm,cm,cur,rfl,h.hm,h1,h.nY,h3,om, ?_⟩⟩
 apply List.ext_getElem?
 intro i;rw[Nat.mul_one]
 by_cases hi:i<m
 . rw[mD Y m i hi,List.getElem?_take,if_pos hi]
   have:=(h.LY i hi).2
   simp[World.cell?,h1] at this
   simpa using this
 . rw[List.getElem?_eq_none (by rw[List.length_take];omega),List.getElem?_eq_none (by rw[mC];omega)]
end
def vp(base:Nat)(w0:World)(c d N M:Nat)(w':World):Prop:=
 ∃(gn gm:Nat) (an am:Option Addr) (n m cn cm:Nat) (X Y:Nat->Nat),Gd base w0 w' c d gn gm an am n m cn cm X Y/\lv X n=N/\lv Y m=M
theorem uH{base c d gn gm:Nat}{an am:Option Addr}{n m cn cm:Nat}{X Y:Nat->Nat}{u v y:Int}{odd:Bool}{w0 w:World}(hn:n<=33554432)(hm:m<=33554432)(hm1:0<m)(hG:Gd base w0 w c d gn gm an am n m cn cm X Y):
 Cl 215 #[.p c 0,.p d 0,.agg #[.int .u64 u,.int .u64 v,.int .u64 0,.int .u64 y,.bool odd]] w fun e w'=>e=.returned (.tuple #[])/\vp base w0 c d (lv Y m) (lv X n % lv Y m) w':=by
 have sA:=bJ w (.cells #[.int .u64 u,.int .u64 v,.int .u64 0,.int .u64 y,.bool odd] 242);have hG4:=hG.grow sA;have bx:=dc.new w (.int .u64 u) (.int .u64 v) (.int .u64 0) (.int .u64 y) (.bool odd) 242;have x2:=bx.c2;go_enter Tryz.func215,Tryz.ntmps215;generalize hW:w.alloc _=w4 at*;have g1:=hG4.bC;have g2:=hG4.bD;have hG:=hG4;have zC:=gz _ _ hG.bC;have zD:=gz _ _ hG.bD;have zM:=hG.LY.lt hm1;go_wp2_with fail;refine (oS hn hG.nX hG.oX hm1 hm g1 hG.fC hG.LX hG.LY hG.lX hG.lY hG.FX (Ne.symm hG.d3) hG.LX.lt hG.pX (hG.pY hm1)).mono ?_;rintro e w5 ⟨vq,vr,gq,gr,rfl,k1,-,⟨ar,nr,cr,R,rfl,r1,r2,r3,r4,r5,r6,r7,r8⟩,-,k5,-,-,k8,fr,fu⟩;have hbw:=hG.aZ;have hgr:base<=gr:=by rcases k5 with h | h;(rw[h];exact hG.hn);omega
 have hgm:gr≠gm:=by rcases k5 with h | h;(rw[h];exact hG.d2);omega
 have hgd:gr≠d:=by rcases k5 with h | h;(rw[h];exact hG.d4);omega
 have S5:w0.Since base w5:=⟨fr.os.trans hG.S.os,fr.tape.trans hG.S.tape,fr.output.trans hG.S.output,Nat.le_trans hG.S.size fr.size,fun k hk=>(fr.block k om (by have:=hG.hc;omega) (by have:=hG.hn;omega)).trans (hG.S.block k hk)⟩;have eD:=fr.block d zD (Ne.symm hG.d1) (Ne.symm hG.d4);have eM:=fr.block gm zM hG.d5 (Ne.symm hG.d2)
 have G5:Gd base w0 w5 c d gr gm ar am nr m cr cm R Y:=⟨S5,k1,(fa (w:=w4) (a:=jj d 0) eD).trans hG.bD,by rw[fr.frozen];exact hG.fC,(wW (w:=w4) (a:=jj d 0) eD).trans hG.fD,
  r4,fun j hj=>⟨(hG.LY j hj).1,(fa (w:=w4) (a:=jj gm (0+j)) eM).trans (hG.LY j hj).2⟩,r5,fun h x=>(wW (w:=w4) (a:=jj gm x) eM).trans (hG.FY h x),r1,hG.nY,r3,hG.oY,r6,hG.lY,r7,hG.pY,
  hG.hc,hG.hd,hgr,hG.hm,hG.d1,hgm,k8,hgd,hG.d5,hG.d6,fu hG.uX,hG.uY.of_block eM⟩
 have HR:=ae r8;have g1:=G5.bC;have g2:=G5.bD;have f1:=G5.fC;have f2:=G5.fD;have d1:=G5.d1;have G6:=G5.swap.same (Same.refl _).drew;go_wp2
 go_region
 go_wp2;refine bodyPost_ret (results_none rfl _ _ _) rfl ?_;exact⟨rfl,_,_,_,_,_,_,_,_,_,_,G6,rfl,HR.out⟩
structure Gp(base:Nat)(w wr:World)(c d gn:Nat)(an:Option Addr)(n cn:Nat)(X:Nat->Nat)(v:Value)(k:Nat)(Z:Nat->Nat):Prop where
 S:w.Since base wr
 bC:wr.cell? ⟨c,0,none⟩=some (.slice an n cn)
 bD:wr.cell? ⟨d,0,none⟩=some v
 fC:wr.frozen? ⟨c,0,none⟩=false
 fD:wr.frozen? ⟨d,0,none⟩=false
 LX:ag wr an gn 0 n X
 FX:∀x,wr.frozen? ⟨gn,x,none⟩=false
 uX:fg wr (.slice an n cn) gn
 own:wr.ownsRow base 129 1 v k (ll Z k)
 ap:∀q,v.ownBlock=some q->q≠c/\q≠d/\q≠gn
 hc:base<=c
 hd:base<=d
 hn:base<=gn
 d1:c≠d
 d3:gn≠c
 d4:gn≠d
 lg:gn<wr.heap.size
section
variable{base:Nat}{w wr:World}{c d gn:Nat}{an:Option Addr}{n cn:Nat}{X:Nat->Nat}{v:Value}{k:Nat}{Z:Nat->Nat}
theorem Gp.drew(h:Gp base w wr c d gn an n cn X v k Z):Gp base w wr.drew c d gn an n cn X v k Z:=
 ⟨⟨h.S.os,h.S.tape,h.S.output,h.S.size,h.S.block⟩,h.bC,h.bD,h.fC,h.fD,h.LX,h.FX,h.uX,h.own,h.ap,h.hc,h.hd,h.hn,h.d1,h.d3,h.d4,h.lg⟩
theorem acZ{base:Nat}{t:TypeId}{v x:Value}{k d o:Nat}{xs:List Value}(h:w.ownsRow base t 1 v k xs)(hd:∀q,v.ownBlock=some q->q≠d):(w.setCell ⟨d,o,none⟩ x).ownsRow base t 1 v k xs:=by
 obtain⟨hl,h | ⟨g',cap',cur,rfl,hb,hh,hn,hm,hs,ht⟩⟩:=h
 . exact⟨hl,Or.inl h⟩
 . exact⟨hl,Or.inr ⟨g',cap',cur,rfl,hb,(Below.heap_setCell _ _ _ _ (hd g' rfl)).trans hh,hn,hm,hs,ht⟩⟩
theorem Gp.app{w1:World}{v':Value}{k':Nat}{b:Obj}(h:Gp base w wr c d gn an n cn X v k Z)(hown':w1.ownsRow base 129 1 v' k' (ll Z k'))(hg:(wr.alloc b).grownBy w1 v.ownBlock)
 (hat:v'.ownBlock=v.ownBlock∨v'.ownBlock=some (wr.heap.size+1)):Gp base w (w1.setCell ⟨d,0,none⟩ v') c d gn an n cn X v' k' Z:=by
 have zc:c<wr.heap.size:=gz _ _ h.bC;have zd:d<wr.heap.size:=gz _ _ h.bD;have zg:=h.lg;have sz:(wr.alloc b).heap.size=wr.heap.size+1:=by simp
 have sA:wr.S (wr.alloc b):=bJ _ _;have blk:∀q,q<wr.heap.size->(v.ownBlock≠some q)->w1.heap[q]?=wr.heap[q]?:=fun q hq hne=>(hg.block q om (fun e=>hne e.symm)).trans (sA.block q hq)
 have eC:=blk c zc (fun e=>(h.ap c e).1 rfl);have eD:=blk d zd (fun e=>(h.ap d e).2.1 rfl);have eG:=blk gn zg (fun e=>(h.ap gn e).2.2 rfl);have hsz:wr.heap.size+1<=w1.heap.size:=by rw[<-sz];exact hg.size
 have S1:w.Since base w1:=⟨(hg.os.trans sA.os).trans h.S.os,(hg.tape.trans sA.tape).trans h.S.tape,(hg.output.trans sA.output).trans h.S.output,by have:=h.S.size;omega,fun q hq=>(blk q (by have:=h.hc;omega) (fun e=>by have:=(h.own.lt q e).1;omega)).trans (h.S.block q hq)⟩
 have ap:∀q,v'.ownBlock=some q->q≠c/\q≠d/\q≠gn:=fun q hq=>by
  rcases hat with e | e
  . exact h.ap q (e.symm.trans hq)
  . rw[hq] at e;simp at e;omega
 refine⟨S1.setCell h.hd _, ?_,j6 _ _ _ ((fa (w:=wr) (a:=jj d 0) eD).trans h.bD), ?_, ?_, ?_,fun x=> ?_,(h.uX.of_block eG).setCell _ _ _,acZ hown' (fun q hq=>(ap q hq).2.1),ap,h.hc,h.hd,h.hn,h.d1,h.d3,h.d4, ?_⟩
 . rw[iO (by show d≠c;exact Ne.symm h.d1)];exact (fa (w:=wr) (a:=jj c 0) eC).trans h.bC
 . have:=(wW (w:=wr) (a:=jj c 0) eC).trans h.fC;simp[this]
 . have:=(wW (w:=wr) (a:=jj d 0) eD).trans h.fD;simp[this]
 . exact ag.setOther (fun j hj=>⟨(h.LX j hj).1,(fa (w:=wr) (a:=jj gn (0+j)) eG).trans (h.LX j hj).2⟩) (Ne.symm h.d4) _
 . have:=(wW (w:=wr) (a:=jj gn x) eG).trans (h.FX x);simp[this]
 . simp[World.setCell];omega
end
structure Ge(base:Nat)(w wr:World)(c d gn gm n cn cm l p q:Nat)(X Y:Nat->Nat):Prop where
 S:w.Since base wr
 bC:wr.cell? ⟨c,0,none⟩=some (.slice (some ⟨gn,0,none⟩) n cn)
 bD:wr.cell? ⟨d,0,none⟩=some (.slice (some ⟨gm,0,none⟩) n cm)
 fC:wr.frozen? ⟨c,0,none⟩=false
 fD:wr.frozen? ⟨d,0,none⟩=false
 LX:ag wr (some ⟨gn,0,none⟩) gn 0 n X
 LY:ag wr (some ⟨gm,0,none⟩) gm 0 n Y
 FX:∀x,wr.frozen? ⟨gn,x,none⟩=false
 FY:∀x,wr.frozen? ⟨gm,x,none⟩=false
 uX:fg wr (.slice (some ⟨gn,0,none⟩) n cn) gn
 uY:fg wr (.slice (some ⟨gm,0,none⟩) n cm) gm
 nX:n<=cn
 nY:n<=cm
 hc:base<=c
 hd:base<=d
 hn:base<=gn
 hm:base<=gm
 hl:base<=l
 hp:base<=p
 hq:base<=q
 d1:c≠d
 d2:gn≠gm
 d3:gn≠c
 d4:gn≠d
 d5:gm≠c
 d6:gm≠d
 p1:p≠c/\p≠d/\p≠gn/\p≠gm/\p≠l
 q1:q≠c/\q≠d/\q≠gn/\q≠gm/\q≠l
 pq:p≠q
 l1:l≠c/\l≠d/\l≠gn/\l≠gm
section
variable{base:Nat}{w wr wr':World}{c d gn gm n cn cm l p q:Nat}{X Y:Nat->Nat}
theorem Ge.drew(h:Ge base w wr c d gn gm n cn cm l p q X Y):Ge base w wr.drew c d gn gm n cn cm l p q X Y:=
 ⟨⟨h.S.os,h.S.tape,h.S.output,h.S.size,h.S.block⟩,h.bC,h.bD,h.fC,h.fD,h.LX,h.LY,h.FX,h.FY,h.uX,h.uY,h.nX,h.nY,h.hc,h.hd,h.hn,h.hm,h.hl,h.hp,h.hq,h.d1,h.d2,h.d3,h.d4,h.d5,h.d6,h.p1,h.q1,h.pq,h.l1⟩
theorem Ge.marked{b:Nat}(h:Ge base w wr c d gn gm n cn cm l p q X Y)(m:af wr wr' b)(hb:b=p∨b=q):Ge base w wr' c d gn gm n cn cm l p q X Y:=by
 have h1:=h.p1;have h2:=h.q1;have bb:base<=b:=by rcases hb with e | e;(rw[e];exact h.hp);(rw[e];exact h.hq)
 have e1:c≠b:=om
 have e2:d≠b:=om
 have e3:gn≠b:=om
 have e4:gm≠b:=om
 exact⟨h.S.trans (m.since bb),(m.cell (a:=jj c 0) e1).trans h.bC,(m.cell (a:=jj d 0) e2).trans h.bD,(m.aQ (a:=jj c 0) e1).trans h.fC,(m.aQ (a:=jj d 0) e2).trans h.fD,
  h.LX.marked m (fun _=>e3),h.LY.marked m (fun _=>e4),fun x=>(m.aQ (a:=jj gn x) e3).trans (h.FX x),fun x=>(m.aQ (a:=jj gm x) e4).trans (h.FY x),h.uX.marked m,h.uY.marked m,h.nX,h.nY,h.hc,h.hd,h.hn,h.hm,h.hl,h.hp,h.hq,h.d1,h.d2,h.d3,h.d4,h.d5,h.d6,h.p1,h.q1,h.pq,h.l1⟩
theorem Ge.put(h:Ge base w wr c d gn gm n cn cm l p q X Y)(i e f:Nat):Ge base w ((wr.setCell ⟨gn,i,none⟩ (.int .u32 (e:Int))).setCell ⟨gm,i,none⟩ (.int .u32 (f:Int))) c d gn gm n cn cm l p q (fX X i e) (fX Y i f):=by
 have k1:=h.d3;have k2:=h.d4;have k3:=h.d5;have k4:=h.d6;have k5:=h.d2;refine⟨(h.S.setCell h.hn _).setCell h.hm _, ?_, ?_,by simp[h.fC],by simp[h.fD],(h.LX.put e).setOther (Ne.symm k5) _,(h.LY.setOther k5 _).put f,fun x=>by simp[h.FX x],fun x=>by simp[h.FY x],(h.uX.setCell _ _ _).setCell _ _ _,(h.uY.setCell _ _ _).setCell _ _ _,h.nX,h.nY,h.hc,h.hd,h.hn,h.hm,h.hl,h.hp,h.hq,h.d1,h.d2,h.d3,h.d4,h.d5,h.d6,h.p1,h.q1,h.pq,h.l1⟩
 . rw[iO (by show gm≠c;exact k3),iO (by show gn≠c;exact k1)];exact h.bC
 . rw[iO (by show gm≠d;exact k4),iO (by show gn≠d;exact k2)];exact h.bD
end
end Go.Proofs.YtclgkofcooibfaaGreatDoor
