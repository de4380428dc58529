import Derived.Test.YtinihjgnnlemmaaGreatDoorOwnP10
import Derived.Test.YtinihjgnnlemmaaGreatDoorOwnP12
set_option maxHeartbeats 6400000
set_option maxRecDepth 100000
namespace Go.Proofs.YtinihjgnnlemmaaGreatDoor
open Go.RowKit
section
variable{base:Nat}{w wr wr':World}{c d gn gm:Nat}{an am:Option Addr}{n m cn cm:Nat}{X Y:Nat->Nat}
theorem Gd.dA(h:Gd base w wr c d gn gm an am n m cn cm X Y):base<=wr.heap.size:=by
 have b:=h.hc;have a:=aG _ _ h.bC;have:c<wr.heap.size:=a;omega
theorem kO.since{u:Value}{n B:Nat}(h:kO wr u n)(s:wr.Since B wr')(hb:wr.heap.size<=B):kO wr' u n:=fun a k b d c=>⟨(h a k b d c).1.since s (aS (h a k b d c).1.lt hb),(h a k b d c).2⟩
theorem Gd.grow(h:Gd base w wr c d gn gm an am n m cn cm X Y)(s:wr.S wr'):Gd base w wr' c d gn gm an am n m cn cm X Y:=by
 have b:=aG _ _ h.bC;have e:=aG _ _ h.bD
 exact⟨h.S.trans (sM s h.dA),(s.cell (a:=jj c 0) b).trans h.bC,(s.cell (a:=jj d 0) e).trans h.bD,(s.frozen (a:=jj c 0) b).trans h.fC,(s.frozen (a:=jj d 0) e).trans h.fD,h.LX.aA s,h.LY.aA s,
  fun a x=>(s.frozen (a:=jj gn x) (h.LX.lt a)).trans (h.FX a x),fun a x=>(s.frozen (a:=jj gm x) (h.LY.lt a)).trans (h.FY a x),
  h.nX,h.nY,h.oX,h.oY,h.lX,h.lY,h.pX,h.pY,h.hc,h.hd,h.hn,h.hm,h.d1,h.d2,h.d3,h.d4,h.d5,h.d6,h.uX.since s zR,h.uY.since s zR⟩
theorem Gd.ownY(h:Gd base w wr c d gn gm an am n m cn cm X Y)(j:0<m):wr.ownsRow base 133 1 (.slice am m cm) m (ll Y m):=by
 have e:=nM h.LY j;subst e;obtain⟨⟨f,b,k⟩,g⟩:=h.uY _ _ _ rfl qz;refine⟨by rw[vg];omega,.inr ⟨gm,cm,f,rfl,h.hm,b,h.nY,g,om, ?_⟩⟩;apply jF;intro i;rw[iF];by_cases a:i<m
 . rw[xK Y m i a,List.getElem?_take,aY a];have:=(h.LY i a).2;simp[World.cell?,b] at this;simpa using this
 . rw[dJ (by rw[jR];omega),dJ (by rw[vg];omega)]
end
def b8(base:Nat)(w0:World)(c d N M:Nat)(w':World):Prop:=
 ∃(gn gm:Nat) (an am:Option Addr) (n m cn cm:Nat) (X Y:Nat->Nat),Gd base w0 w' c d gn gm an am n m cn cm X Y/\lv X n=N/\lv Y m=M
theorem ach{n m c d k:Nat}{a A:Option Addr}{i j l o:Nat}{X Y:Nat->Nat}{z y D:Int}{f:Bool}{w v:World}(Z:i<=33554432)(W:j<=33554432)(u:0<j)(b:Gd n w v m c d k a A i j l o X Y):
 Cl 213 #[.p m 0,.p c 0,.agg #[.int .u64 z,.int .u64 y,.int .u64 0,.int .u64 D,.bool f]] v fun e w'=>e=.returned (.tuple #[])/\b8 n w m c (lv Y j) (lv X i % lv Y j) w':=by
 have sA:=fA v (.o #[.int .u64 z,.int .u64 y,.int .u64 0,.int .u64 D,.bool f] 238);have t:=b.grow sA;have bx:=kh.new v (.int .u64 z) (.int .u64 y) (.int .u64 0) (.int .u64 D) (.bool f) 238;have x2:=bx.c2;go_enter Tryz.func213,Tryz.ntmps213;generalize hW:v.alloc _=r at*;have F:=t.bC;have Q:=t.bD;have b:=t;have zC:=aG _ _ b.bC;have zD:=aG _ _ b.bD;have zM:=b.LY.lt u;go_wp2_with fail;refine (xf Z b.nX b.oX u W F b.fC b.LX b.LY b.lX b.lY b.FX (fL b.d3) b.LX.lt b.pX (b.pY u)).mono ?_;rintro e I ⟨vq,vr,gq,q,rfl,k1,-,⟨N,nr,O,R,rfl,r1,r2,r3,r4,r5,r6,r7,r8⟩,-,C,-,-,k8,g,P⟩;have aa:=b.dA;have U:n<=q:=by rcases C with h | h;(rw[h];exact b.hn);omega
 have T:q≠k:=by rcases C with h | h;(rw[h];exact b.d2);omega
 have S:q≠c:=by rcases C with h | h;(rw[h];exact b.d4);omega
 have M:w.Since n I:=⟨g.os.trans b.S.os,g.tape.trans b.S.tape,g.output.trans b.S.output,aU b.S.size g.size,fun H V=>(g.block H om (by have:=b.hc;omega) (by have:=b.hn;omega)).trans (b.S.block H V)⟩;have E:=g.block c zD (fL b.d1) (fL b.d4);have s:=g.block k zM b.d5 (fL b.d2)
 have p:Gd n w I m c q k N A nr j O o R Y:=⟨M,k1,(aO (w:=r) (a:=jj c 0) E).trans b.bD,by rw[g.frozen];exact b.fC,(dK (w:=r) (a:=jj c 0) E).trans b.fD,
  r4,fun B G=>⟨(b.LY B G).1,(aO (w:=r) (a:=jj k (0+B)) s).trans (b.LY B G).2⟩,r5,fun h x=>(dK (w:=r) (a:=jj k x) s).trans (b.FY h x),r1,b.nY,r3,b.oY,r6,b.lY,r7,b.pY,
  b.hc,b.hd,U,b.hm,b.d1,T,k8,S,b.d5,b.d6,P b.uX,b.uY.of_block s⟩
 have L:=eI r8;have F:=p.bC;have Q:=p.bD;have f1:=p.fC;have f2:=p.fD;have d1:=p.d1;have K:=p.swap.same (Same.refl _).drew;go_wp2;go_region;go_wp2;refine bO (results_none rfl _ _ _) rfl ?_;exact⟨rfl,_,_,_,_,_,_,_,_,_,_,K,rfl,L.out⟩
structure Gp(base:Nat)(w wr:World)(c d gn:Nat)(an:Option Addr)(n cn:Nat)(X:Nat->Nat)(v:Value)(k:Nat)(Z:Nat->Nat):Prop where
 S:w.Since base wr
 bC:wr.cell? ⟨c,0,none⟩=some (.slice an n cn)
 bD:wr.cell? ⟨d,0,none⟩=some v
 fC:wr.frozen? ⟨c,0,none⟩=false
 fD:wr.frozen? ⟨d,0,none⟩=false
 LX:eO wr an gn 0 n X
 FX:∀x,wr.frozen? ⟨gn,x,none⟩=false
 uX:kO wr (.slice an n cn) gn
 own:wr.ownsRow base 133 1 v k (ll Z k)
 ap:∀q,v.ownBlock=some q->q≠c/\q≠d/\q≠gn
 hc:base<=c
 hd:base<=d
 hn:base<=gn
 d1:c≠d
 d3:gn≠c
 d4:gn≠d
 lg:gn<wr.heap.size
section
variable{base:Nat}{w wr:World}{c d gn:Nat}{an:Option Addr}{n cn:Nat}{X:Nat->Nat}{v:Value}{k:Nat}{Z:Nat->Nat}
theorem Gp.drew(h:Gp base w wr c d gn an n cn X v k Z):Gp base w wr.drew c d gn an n cn X v k Z:=
 ⟨⟨h.S.os,h.S.tape,h.S.output,h.S.size,h.S.block⟩,h.bC,h.bD,h.fC,h.fD,h.LX,h.FX,h.uX,h.own,h.ap,h.hc,h.hd,h.hn,h.d1,h.d3,h.d4,h.lg⟩
theorem ajw{n:Nat}{t:TypeId}{u U:Value}{m c d:Nat}{k:List Value}(h:w.ownsRow n t 1 u m k)(e:∀q,u.ownBlock=some q->q≠c):(w.setCell ⟨c,d,none⟩ U).ownsRow n t 1 u m k:=by
 obtain⟨hl,h | ⟨a,b,o,rfl,hb,f,i,g,j,l⟩⟩:=h
 . exact⟨hl,Or.inl h⟩
 . exact⟨hl,Or.inr ⟨a,b,o,rfl,hb,(fN _ _ _ _ (e a rfl)).trans f,i,g,j,l⟩⟩
theorem Gp.app{W:World}{u:Value}{m:Nat}{b:Obj}(h:Gp base w wr c d gn an n cn X v k Z)(A:W.ownsRow base 133 1 u m (ll Z m))(i:(wr.alloc b).grownBy W v.ownBlock)
 (y:u.ownBlock=v.ownBlock∨u.ownBlock=some (wr.heap.size+1)):Gp base w (W.setCell ⟨d,0,none⟩ u) c d gn an n cn X u m Z:=by
 have C:c<wr.heap.size:=aG _ _ h.bC;have D:d<wr.heap.size:=aG _ _ h.bD;have E:=h.lg;have B:(wr.alloc b).heap.size=wr.heap.size+1:=by simp
 have a:wr.S (wr.alloc b):=fA _ _;have l:∀q,q<wr.heap.size->(v.ownBlock≠some q)->W.heap[q]?=wr.heap[q]?:=fun q f z=>(i.block q om (fun e=>z e.symm)).trans (a.block q f);have r:=l c C (fun e=>(h.ap c e).1 rfl);have s:=l d D (fun e=>(h.ap d e).2.1 rfl);have o:=l gn E (fun e=>(h.ap gn e).2.2 rfl);have F:wr.heap.size+1<=W.heap.size:=by rw[<-B];exact i.size
 have g:w.Since base W:=⟨(i.os.trans a.os).trans h.S.os,(i.tape.trans a.tape).trans h.S.tape,(i.output.trans a.output).trans h.S.output,by have:=h.S.size;omega,fun q f=>(l q (by have:=h.hc;omega) (fun e=>by have:=(h.own.lt q e).1;omega)).trans (h.S.block q f)⟩;have ap:∀q,u.ownBlock=some q->q≠c/\q≠d/\q≠gn:=fun q f=>by
  rcases y with e | e
  . exact h.ap q (e.symm.trans f)
  . rw[f] at e;simp at e;omega
 refine⟨g.setCell h.hd _, ?_,aQ _ _ _ ((aO (w:=wr) (a:=jj d 0) s).trans h.bD), ?_, ?_, ?_,fun x=> ?_,(h.uX.of_block o).setCell _ _ _,ajw A (fun q f=>(ap q f).2.1),ap,h.hc,h.hd,h.hn,h.d1,h.d3,h.d4, ?_⟩
 . rw[pQ (by show d≠c;exact fL h.d1)];exact (aO (w:=wr) (a:=jj c 0) r).trans h.bC
 . have:=(dK (w:=wr) (a:=jj c 0) r).trans h.fC;simp[this]
 . have:=(dK (w:=wr) (a:=jj d 0) s).trans h.fD;simp[this]
 . exact eO.setOther (fun j t=>⟨(h.LX j t).1,(aO (w:=wr) (a:=jj gn (0+j)) o).trans (h.LX j t).2⟩) (fL h.d4) _
 . have:=(dK (w:=wr) (a:=jj gn x) o).trans (h.FX x);simp[this]
 . simp[World.setCell];omega
end
structure Ge(base:Nat)(w wr:World)(c d gn gm n cn cm l p q:Nat)(X Y:Nat->Nat):Prop where
 S:w.Since base wr
 bC:wr.cell? ⟨c,0,none⟩=some (.slice (some ⟨gn,0,none⟩) n cn)
 bD:wr.cell? ⟨d,0,none⟩=some (.slice (some ⟨gm,0,none⟩) n cm)
 fC:wr.frozen? ⟨c,0,none⟩=false
 fD:wr.frozen? ⟨d,0,none⟩=false
 LX:eO wr (some ⟨gn,0,none⟩) gn 0 n X
 LY:eO wr (some ⟨gm,0,none⟩) gm 0 n Y
 FX:∀x,wr.frozen? ⟨gn,x,none⟩=false
 FY:∀x,wr.frozen? ⟨gm,x,none⟩=false
 uX:kO wr (.slice (some ⟨gn,0,none⟩) n cn) gn
 uY:kO wr (.slice (some ⟨gm,0,none⟩) n cm) gm
 nX:n<=cn
 nY:n<=cm
 hc:base<=c
 hd:base<=d
 hn:base<=gn
 hm:base<=gm
 hl:base<=l
 hp:base<=p
 hq:base<=q
 d1:c≠d
 d2:gn≠gm
 d3:gn≠c
 d4:gn≠d
 d5:gm≠c
 d6:gm≠d
 p1:p≠c/\p≠d/\p≠gn/\p≠gm/\p≠l
 q1:q≠c/\q≠d/\q≠gn/\q≠gm/\q≠l
 pq:p≠q
 l1:l≠c/\l≠d/\l≠gn/\l≠gm
section
variable{base:Nat}{w wr wr':World}{c d gn gm n cn cm l p q:Nat}{X Y:Nat->Nat}
theorem Ge.drew(h:Ge base w wr c d gn gm n cn cm l p q X Y):Ge base w wr.drew c d gn gm n cn cm l p q X Y:=
 ⟨⟨h.S.os,h.S.tape,h.S.output,h.S.size,h.S.block⟩,h.bC,h.bD,h.fC,h.fD,h.LX,h.LY,h.FX,h.FY,h.uX,h.uY,h.nX,h.nY,h.hc,h.hd,h.hn,h.hm,h.hl,h.hp,h.hq,h.d1,h.d2,h.d3,h.d4,h.d5,h.d6,h.p1,h.q1,h.pq,h.l1⟩
theorem Ge.marked{m:Nat}(h:Ge base w wr c d gn gm n cn cm l p q X Y)(a:eM wr wr' m)(hb:m=p∨m=q):Ge base w wr' c d gn gm n cn cm l p q X Y:=by
 have o:=h.p1;have r:=h.q1;have k:base<=m:=by rcases hb with e | e;(rw[e];exact h.hp);(rw[e];exact h.hq)
 have f:c≠m:=om;have g:d≠m:=om;have i:gn≠m:=om;have j:gm≠m:=om
 exact⟨h.S.trans (a.since k),(a.cell (a:=jj c 0) f).trans h.bC,(a.cell (a:=jj d 0) g).trans h.bD,(a.bU (a:=jj c 0) f).trans h.fC,(a.bU (a:=jj d 0) g).trans h.fD,
  h.LX.marked a (fun _=>i),h.LY.marked a (fun _=>j),fun x=>(a.bU (a:=jj gn x) i).trans (h.FX x),fun x=>(a.bU (a:=jj gm x) j).trans (h.FY x),h.uX.marked a,h.uY.marked a,h.nX,h.nY,h.hc,h.hd,h.hn,h.hm,h.hl,h.hp,h.hq,h.d1,h.d2,h.d3,h.d4,h.d5,h.d6,h.p1,h.q1,h.pq,h.l1⟩
theorem Ge.put(h:Ge base w wr c d gn gm n cn cm l p q X Y)(m k i:Nat):Ge base w ((wr.setCell ⟨gn,m,none⟩ (.int .u32 (k:Int))).setCell ⟨gm,m,none⟩ (.int .u32 (i:Int))) c d gn gm n cn cm l p q (mN X m k) (mN Y m i):=by
 have b:=h.d3;have g:=h.d4;have j:=h.d5;have e:=h.d6;have a:=h.d2;refine⟨(h.S.setCell h.hn _).setCell h.hm _, ?_, ?_,by simp[h.fC],by simp[h.fD],(h.LX.put k).setOther (fL a) _,(h.LY.setOther a _).put i,fun x=>by simp[h.FX x],fun x=>by simp[h.FY x],(h.uX.setCell _ _ _).setCell _ _ _,(h.uY.setCell _ _ _).setCell _ _ _,h.nX,h.nY,h.hc,h.hd,h.hn,h.hm,h.hl,h.hp,h.hq,h.d1,h.d2,h.d3,h.d4,h.d5,h.d6,h.p1,h.q1,h.pq,h.l1⟩
 . rw[pQ (by show gm≠c;exact j),pQ (by show gn≠c;exact b)];exact h.bC
 . rw[pQ (by show gm≠d;exact e),pQ (by show gn≠d;exact g)];exact h.bD
end
theorem lpA{p:Prop}(h:p:=by
 have da:(k:Int)<(n:Int):=om;go_wp2;go_region;have b:=b.drew;have bx:=bx.drew;clear b1 b2;generalize wr.drew=wd at*;have b1:=b.bC;have b2:=b.bD;have ho:=b.own;have fD:=b.fD;have c8:base<=wd.heap.size:=by have h1:=b.hn;have h2:=b.lg;omega
 go_wp2_with (at_builtin;refine wpList_append_own_at _ rfl _ _ 102 rfl base 133 i0 (.int .u32 0) 1 4 Tryz.underlying102 hi cs ct cu rfl qd _ _ _ rfl (ho.alloc _) ⟨wd.heap.size,0,none⟩ 1 1 [.int .u32 0] rfl rfl (iq _ _ _) (one_one _ rfl) (by unfold maxLen;omega) om (by simp;omega) ?_);intro v' w1 ak aj cg ay;rw[ans Y m k bp] at ak;have PN:=b.app ak aj ay;have sW:=fA wd (.cells #[.int .u32 0] 133);have hC:∀q,(Value.slice bb k C).ownBlock=some q->q≠c/\q≠d/\q≠f:=b.ap;have eL:=(aj.block w.heap.size (by have:=bx.lt;simp;omega) (fun e=>al _ e.symm rfl)).trans (sW.block _ bx.lt);have bd:kh w1 w.heap.size (.int .u64 (u:Int)) (.int .u64 (v:Int)) (.int .u64 (x:Int)) (.int .u64 (y:Int)) (.bool _):=
  ⟨(aO (w:=wd) (a:=⟨w.heap.size,0,none⟩) eL).trans bx.c0,(aO (w:=wd) (a:=⟨w.heap.size,1,none⟩) eL).trans bx.c1,(aO (w:=wd) (a:=⟨w.heap.size,2,none⟩) eL).trans bx.c2,(aO (w:=wd) (a:=⟨w.heap.size,3,none⟩) eL).trans bx.c3,(aO (w:=wd) (a:=⟨w.heap.size,4,none⟩) eL).trans bx.c4,fun k=>(dK (w:=wd) (a:=⟨w.heap.size,k,none⟩) eL).trans (bx.f k)⟩
 have b8:=bd.marked ((eM.refl w1 d).setCell 0 v') om;have Q:w1.cell? ⟨d,0,none⟩=some (.slice bb k C):=aj.cell ((sW.cell (a:=⟨d,0,none⟩) (aG _ _ b2)).trans b2) (fun e=>(hC d e.symm).2.1 rfl);have f1:w1.frozen? ⟨d,0,none⟩=false:=by have:=PN.fD;simpa using this
 have ci:∀q,v'.ownBlock=some q->q≠w.heap.size:=fun q P=>by
  rcases ay with e | e
  . exact al q (e.symm.trans P)
  . rw[P] at e;have:=bx.lt;simp at e;omega
 obtain⟨a1,cy,rfl,c9,c6,c7⟩:=sD ak;clear aj cg ay sW b bx ho b1 b2 fD ak bd eL hC;go_wp2;go_roundg (n-(k+1))
 case measure=>have:=Hg.out;omega
 case rel=>exact⟨k+1,_,om,om,rfl,PN,b8,ci⟩):p:=h
theorem lpB{p:Prop}(h:p:=by
 have e:i=k:=om;subst e;have lX:=eI S.out.2.2.2.2;have lY:=eI T.out.2.2.2.2;have HX:Hid (lv t i=N):=aiO S.out (by have h:=HE.out.1;rw[yu Y m i bo];exact h) HN.out;have HY:Hid (lv z i=M):=aiO T.out (by have h:=HE.out.2;rw[yu Y m i bo];exact h) (dD a8.out HN.out);have O:=a.bC;have U:=a.bD;have bn:¬((i:Int)<(i:Int)):=om;clear S T HV HE HN a8 l r s XL YL;go_wp2_with fail;refine (lZ om a.nX O a.fC a.LX).mono ?_;rintro e B ⟨rfl,E⟩;have k1:B.cell? ⟨d,0,none⟩=some (.slice (some ⟨g,0,none⟩) i C):=by rw[E,pQ (show c≠d from a.d1)];exact U
 have k2:B.frozen? ⟨d,0,none⟩=false:=by rw[E];simp[a.fD]
 have k3:eO B (some ⟨g,0,none⟩) g 0 i z:=by rw[E];exact a.LY.setOther (fL a.d5) _
 have k4:B.cell? ⟨c,0,none⟩=some (.slice (some ⟨f,0,none⟩) (iy (nz t) i) G):=by rw[E];exact aQ _ _ _ O
 have k5:B.frozen? ⟨c,0,none⟩=false:=by rw[E];simp[a.fC]
 have k6:eO B (some ⟨f,0,none⟩) f 0 i t:=by rw[E];exact a.LX.setOther (fL a.d3) _
 have k7:w0.Since base B:=by rw[E];exact a.S.setCell a.hc _
 have k8:∀x,B.frozen? ⟨f,x,none⟩=false:=fun x=>by rw[E];simp[a.FX x]
 have k9:∀x,B.frozen? ⟨g,x,none⟩=false:=fun x=>by rw[E];simp[a.FY x]
 have u1:kO B (.slice (some ⟨f,0,none⟩) i G) f:=by rw[E];exact a.uX.setCell _ _ _
 have u2:kO B (.slice (some ⟨g,0,none⟩) i C) g:=by rw[E];exact a.uY.setCell _ _ _
 clear E O U;go_wp2_with fail;refine (lZ om a.nY k1 k2 k3).mono ?_;rintro e R ⟨rfl,rfl⟩;go_wp2;go_end0;have t1:=jc (nz t) i;have t2:=jc (nz z) i;have a1:=a.nX;have a2:=a.nY
 refine⟨rfl,f,g,_,_,_,_,G,C,t,z,⟨k7.setCell a.hd _,by rw[pQ (show d≠c from fL a.d1)];exact k4,aQ _ _ _ k1,by simp[k5],by simp[k2],(k6.take t1).setOther (fL a.d4) _,(k3.take t2).setOther (fL a.d6) _,fun _ x=>by simp[k8 x],fun _ x=>by simp[k9 x],
  by omega,om,fun h=>(by cases h),fun h=>(by cases h),fun j hj=>lX.out j om,fun j hj=>lY.out j om,fun h=>(by have:=jh _ _ h;simpa [nz] using this),fun h=>(by have:=jh _ _ h;simpa [nz] using this),a.hc,a.hd,a.hn,a.hm,a.d1,a.d2,a.d3,a.d4,a.d5,a.d6,(u1.setCell _ _ _).len,(u2.setCell _ _ _).len⟩,(mC _ _).trans HX.out,(mC _ _).trans HY.out⟩):p:=h
end Go.Proofs.YtinihjgnnlemmaaGreatDoor
