import Derived.Test.YtclgkofcooibfaaGreatDoorOwnP46
import Derived.Test.YtclgkofcooibfaaGreatDoorOwnP44
set_option maxHeartbeats 6400000
set_option maxRecDepth 100000
namespace Go.Proofs.YtclgkofcooibfaaGreatDoor
open Go.RowKit
structure yE(r r':br):Prop where
 s:r.neg=r'.neg
 n:r.n=r'.n
 m:r.m=r'.m
 X:∀j,j<r'.n->r.X j=r'.X j
 Y:∀j,j<r'.m->r.Y j=r'.Y j
theorem aew{r:br}(ok:r.ok=true)(hl:r.aU)(h:dI (jv r.aX)):yE (xE (jv r.aX)) r:=by
 have ok':=ok;unfold br.ok bM at ok';simp only[Bool.and_eq_true,bne_iff_ne,ne_eq,beq_iff_eq,Bool.not_eq_true',Bool.and_eq_false_iff,dX] at ok';obtain⟨⟨⟨⟨p1,p2⟩,m0⟩,hn⟩,hg⟩:=ok'
 have hN:r.neg=true->lv r.X r.n≠0:=fun e h0=>by
  rcases hn with hn | hn
  . rw[e] at hn;cases hn
  . have:=(gU p1).2 h0
    simp[this] at hn
 have e:=acY (neg:=r.neg) hg hN h;obtain⟨x1,x2,-⟩:=qx (N:=lv r.X r.n) (p:=(r.n,r.X)) ⟨hl.1,p1,rfl⟩;obtain⟨y1,y2,-⟩:=qx (N:=lv r.Y r.m) (p:=(r.m,r.Y)) ⟨hl.2,p2,rfl⟩
 have e':xE (jv r.aX)=mx r.neg (lv r.X r.n) (lv r.Y r.m):=by
  unfold xE;rw[show ak (jv r.aX)=_ from e]
 rw[e'];exact⟨rfl,x1,y1,x2,y2⟩
theorem iW(u:Nat):Lib.decDigits u≠[]/\(32:UInt8)∉Lib.decDigits u/\(10:UInt8)∉Lib.decDigits u:=
 ⟨abC u,fun h=>by have:=(oj u _ h).1;revert this;decide,fun h=>by have:=(oj u _ h).1;revert this;decide⟩
theorem qL(r:br):r.aX≠[]/\(32:UInt8)∉r.aX/\(10:UInt8)∉r.aX:=by
 obtain⟨a1,a2,a3⟩:=iW (lv r.X r.n);obtain⟨b1,b2,b3⟩:=iW (lv r.Y r.m);unfold br.aX dV;refine⟨by simp[a1], ?_, ?_⟩
 . simp only[List.mem_append,not_or]
   refine⟨by split<;>decide,a2, ?_⟩
   split
   . simp
   . simp only[List.mem_cons,not_or]
     exact⟨by decide,b2⟩
 . simp only[List.mem_append,not_or]
   refine⟨by split<;>decide,a3, ?_⟩
   split
   . simp
   . simp only[List.mem_cons,not_or]
     exact⟨by decide,b3⟩
theorem aaC(z:Int):dJ z≠[]/\(32:UInt8)∉dJ z/\(10:UInt8)∉dJ z:=by
 unfold dJ
 repeat' split
 all_goals decide
theorem aaZ(d:ay):Plain (dJ d.op::(dR d++fx d.V d.nv)):=by
 intro l hl;rw[List.mem_cons,List.mem_append] at hl
 rcases hl with rfl | hl | hl
 . exact aaC _
 . unfold dR at hl
   simp only[List.mem_cons,List.mem_append] at hl
   rcases hl with rfl | hl | hl | hl
   . exact iW _
   all_goals (split at hl<;>first | (rw[List.mem_singleton] at hl;subst hl;exact iW _) | cases hl)
 . unfold fx at hl
   obtain⟨i,-,rfl⟩:=List.mem_map.1 hl;exact qL _
theorem aau(g:ax):∀ws∈uR g,Plain ws/\ws≠[]:=by
 intro ws h;unfold uR at h;simp only[List.mem_cons,List.mem_append,List.mem_nil_iff,or_false] at h
 rcases h with rfl | h | h | rfl
 . refine⟨fun l hl=> ?_,qz⟩
   simp only[List.mem_cons,List.mem_nil_iff,or_false] at hl
   rcases hl with rfl | rfl | rfl
   . decide
   . exact iW _
   . exact iW _
 . obtain⟨i,-,rfl⟩:=List.mem_map.1 h
   refine⟨fun l hl=> ?_,qz⟩;simp only[List.mem_cons,List.mem_nil_iff,or_false] at hl
   rcases hl with rfl | rfl | rfl
   . decide
   . exact qL _
   . exact qL _
 . obtain⟨i,-,rfl⟩:=List.mem_map.1 h
   exact⟨aaZ _,qz⟩
 . refine⟨fun l hl=> ?_,qz⟩
   simp only[List.mem_cons,List.mem_nil_iff,or_false] at hl
   rcases hl with rfl | rfl
   . decide
   . exact iW _
structure adJ(d d':ay):Prop where
 op:d.op=d'.op
 a:d.a=d'.a
 b:d.b=d'.b
 k:d.k=d'.k
 s:d.s=d'.s
 nv:d.nv=d'.nv
 V:∀i,i<d'.nv->yE (d.V i) (d'.V i)
structure aho(g g':ax):Prop where
 inn:g.inn=g'.inn
 rounds:g.rounds=g'.rounds
 out:g.out=g'.out
 nl:g.nl=g'.nl
 nh:g.nh=g'.nh
 nn:g.nn=g'.nn
 Lo:∀i,i<g'.nl->yE (g.Lo i) (g'.Lo i)
 Hi:∀i,i<g'.nh->yE (g.Hi i) (g'.Hi i)
 N:∀i,i<g'.nn->adJ (g.N i) (g'.N i)
theorem l8{z:Int}(h:0<=z):((dv (jv (bu z)) (jv (bu z)).size:Nat):Int)=z:=by
 unfold bu jv;rw[ac2];omega
theorem adT{l:List ByteArray}{i:Nat}{x:ByteArray}(h:l[i]?=some x):wd l i=x:=by
 unfold wd;rw[List.getD_eq_getElem?_getD,h];rfl
theorem abY(V:Nat->br){n i:Nat}(h:i<n):((fx V n).map jv)[i]?=some (jv (V i).aX):=by
 unfold fx;rw[List.getElem?_map,List.getElem?_map,List.getElem?_range h];rfl
theorem ae2{ws:List ByteArray}{kd:Kd}(h:mJ kd ws):∀x∈ws.drop (1+kd.fs.length),dI x:=by
 obtain⟨is,ns,e,hl,-,hn,-⟩:=iT.1 h;rw[e,Nat.add_comm,List.drop_succ_cons,<-hl,List.drop_left];exact hn
theorem aiA{d:ay}(F:d.Form)(a0:0<=d.a)(b0:0<=d.b)(hl:∀i,i<d.nv->(d.V i).aU)(h:eW ((dJ d.op::(dR d++fx d.V d.nv)).map jv)):adJ (nD ((dJ d.op::(dR d++fx d.V d.nv)).map jv)) d:=by
 obtain⟨hk,ho⟩:=xT h
 have hw:jv (dJ d.op)=(kF ((dJ d.op::(dR d++fx d.V d.nv)).map jv)).word:=by
  have:=ho.1
  simpa using this
 have hnum:=ae2 ho;unfold nD;generalize kF ((dJ d.op::(dR d++fx d.V d.nv)).map jv)=kd at*;obtain⟨op,a,b,k,s,nv,V⟩:=d;obtain⟨o1,o7,fk,fs,fb,fv,f3,f7,fo⟩:=F;simp only at*;have k0:0<=k:=by unfold iK at fk;split at fk<;>omega
 have s0:0<=s:=by unfold iK at fs;split at fs<;>omega
 have main:∀kd':Kd,iB kd'->kd'.op=op->jv (dJ op)=kd'.word->(kd'.fs.map fun f=>if f=1 then bu a else if f=2 then bu b else if f=3 then bu k else bu s)=dR ⟨op,a,b,k,s,nv,V⟩->
  (fV kd'.fs ((dJ op::(dR ⟨op,a,b,k,s,nv,V⟩++fx V nv)).map jv) kd'.fs.length 1=a/\fV kd'.fs ((dJ op::(dR ⟨op,a,b,k,s,nv,V⟩++fx V nv)).map jv) kd'.fs.length 2=b/\fV kd'.fs ((dJ op::(dR ⟨op,a,b,k,s,nv,V⟩++fx V nv)).map jv) kd'.fs.length 3=k/\fV kd'.fs ((dJ op::(dR ⟨op,a,b,k,s,nv,V⟩++fx V nv)).map jv) kd'.fs.length 4=s)->
  adJ (pK kd ((dJ op::(dR ⟨op,a,b,k,s,nv,V⟩++fx V nv)).map jv)) ⟨op,a,b,k,s,nv,V⟩:=by
  intro kd' hk' e1 e2 e3 e4;obtain rfl:kd=kd':=iB.one hk hk' (hw.symm.trans e2);have hlen:(dR ⟨op,a,b,k,s,nv,V⟩).length=kd.fs.length:=by rw[<-e3,List.length_map]
  have hd:((dJ op::(dR ⟨op,a,b,k,s,nv,V⟩++fx V nv)).map jv).drop (1+kd.fs.length)=(fx V nv).map jv:=by
   rw[<-List.map_drop,Nat.add_comm,List.drop_succ_cons,<-hlen,List.drop_left]
  refine⟨e1,e4.1,e4.2.1,e4.2.2.1,e4.2.2.2, ?_,fun i hi=> ?_⟩
  . show (List.drop _ _).length=nv
    rw[hd,List.length_map,uc]
  . show yE (sU (List.drop _ _) i) (V i)
    have hx:=adT (abY V hi);rw[hd];unfold sU;rw[hx];exact aew (fo i hi) (hl i hi) (hnum _ (by rw[hd];exact List.mem_of_getElem? (abY V hi)))
 have h7:op=1∨op=2∨op=3∨op=4∨op=5∨op=6∨op=7:=om
 have da:=l8 a0;have db:=l8 b0;have dk:=l8 k0;have ds:=l8 s0
 rcases h7 with rfl | rfl | rfl | rfl | rfl | rfl | rfl
 . refine main kd1 (by unfold iB;simp) rfl rfl rfl ⟨da, ?_,dk, ?_⟩
   . exact (fb rfl).symm
   . exact (show s=0 by simpa [iK,gF] using fs).symm
 . refine main kd2 (by unfold iB;simp) rfl rfl rfl ⟨da, ?_, ?_, ?_⟩
   . exact (fb rfl).symm
   . exact (show k=0 by simpa [iK,iz] using fk).symm
   . exact (show s=0 by simpa [iK,gF] using fs).symm
 . refine main kd3 (by unfold iB;simp) rfl rfl rfl ⟨da, ?_, ?_, ?_⟩
   . exact (fb rfl).symm
   . exact (show k=0 by simpa [iK,iz] using fk).symm
   . exact (show s=0 by simpa [iK,gF] using fs).symm
 . refine main kd4 (by unfold iB;simp) rfl rfl rfl ⟨da,db, ?_, ?_⟩
   . exact (show k=0 by simpa [iK,iz] using fk).symm
   . exact (show s=0 by simpa [iK,gF] using fs).symm
 . refine main kd5 (by unfold iB;simp) rfl rfl rfl ⟨da, ?_,dk, ?_⟩
   . exact (fb rfl).symm
   . exact (show s=0 by simpa [iK,gF] using fs).symm
 . refine main kd6 (by unfold iB;simp) rfl rfl rfl ⟨da, ?_,dk,ds⟩
   exact (fb rfl).symm
 . refine main kd7 (by unfold iB;simp) rfl rfl rfl ⟨da, ?_, ?_, ?_⟩
   . exact (fb rfl).symm
   . exact (show k=0 by simpa [iK,iz] using fk).symm
   . exact (show s=0 by simpa [iK,gF] using fs).symm
theorem ae8{α β:Type}{f:α->β}{l:List α}{r:List β}(h:l.map f=r){i:Nat}{x:α}(hx:l[i]?=some x):r[i]?=some (f x):=by
 rw[<-h,List.getElem?_map,hx];rfl
theorem aaT{g:ax}(E:jO g)(hL:∀i,i<g.nl->(g.Lo i).aU)(hH:∀i,i<g.nh->(g.Hi i).aU)(hV:∀k,k<g.nn->∀i,i<(g.N k).nv->((g.N k).V i).aU)
 {x1 x2 xo:ByteArray}{bs ns:List (Nat×List ByteArray)}(h:ke (cK 0 (fN 10 (jv (ei g)))) x1 x2 xo bs ns):aho (ab3 x1 x2 xo bs ns) g:=by
 have HP:=E.head;have e:=aeK (aau g) 0;rw[aav] at e;obtain⟨n0,no,ex⟩:=h.ex;have hlen:=h.len;have hbox:=h.box;have hnod:=h.nod;rw[ex] at e;unfold uR at e;simp only[List.map_cons,List.map_append,List.map_nil,List.cons.injEq,and_true,List.append_assoc] at e;obtain⟨⟨-,rfl,rfl⟩,e⟩:=e;have hi:=l8 (z:=g.inn) (by have:=HP.i1;omega);have hl:bs.length=g.inn.toNat:=om
 obtain⟨eb,e⟩:=List.append_inj e (by rw[List.length_map,List.length_map,adF,List.length_map,List.length_range,hl]);obtain⟨en,eo⟩:=List.append_inj' e rfl;simp only[List.cons.injEq,and_true] at eo;obtain⟨-,rfl⟩:=eo
 have hnl:ns.length=g.nn:=by
  have:=congrArg List.length en;rw[List.length_map,List.length_map,wJ,List.length_map,List.length_range] at this;exact this
 have hl1:bs.length=g.nl:=by have:=HP.l;omega
 have hl2:bs.length=g.nh:=by have:=HP.h;omega
 have bAt:∀i,(hb:i<bs.length)->bs[i].2=[ie,jv (g.Lo i).aX,jv (g.Hi i).aX]:=fun i hb=>by
  have h1:=ae8 eb (List.getElem?_eq_getElem hb);unfold adF at h1;rw[List.getElem?_map,List.getElem?_map,List.getElem?_range om] at h1;simp only[Option.map_some,Option.some.injEq] at h1;exact h1.symm
 have bNum:∀i,(hb:i<bs.length)->dI (jv (g.Lo i).aX)/\dI (jv (g.Hi i).aX):=fun i hb=>by
  obtain⟨y1,y2,e1,h1,h2⟩:=hbox _ (List.getElem_mem hb);rw[bAt i hb] at e1;simp only[List.cons.injEq,and_true,true_and] at e1;rw[e1.1,e1.2];exact⟨h1,h2⟩
 have lwAt:∀i,i<ns.length->lw ns i=(dJ (g.N i).op::(dR (g.N i)++fx (g.N i).V (g.N i).nv)).map jv/\eW (lw ns i):=fun i hb=>by
  have h1:=ae8 en (List.getElem?_eq_getElem hb)
  have h3:lw ns i=ns[i].2:=by
   unfold lw;rw[List.getD_eq_getElem?_getD,List.getElem?_eq_getElem hb];rfl
  unfold wJ at h1;rw[List.getElem?_map,List.getElem?_map,List.getElem?_range om] at h1;simp only[Option.map_some,Option.some.injEq] at h1;rw[h3];exact⟨h1.symm,hnod _ (List.getElem_mem hb)⟩
 refine⟨hi,l8 HP.r0,l8 E.o0,hl1,hl2,hnl,fun i hb=> ?_,fun i hb=> ?_,fun i hb=> ?_⟩
 . show yE (xE (wd (sL bs) i)) _
   have hb':i<bs.length:=om
   rw[adT (x:=jv (g.Lo i).aX) (by
    unfold sL;rw[List.getElem?_map,List.getElem?_eq_getElem hb',Option.map_some,bAt i hb'];rfl)]
   exact aew (HP.okL i hb) (hL i hb) (bNum i hb').1
 . show yE (xE (wd (sH bs) i)) _
   have hb':i<bs.length:=om
   rw[adT (x:=jv (g.Hi i).aX) (by
    unfold sH;rw[List.getElem?_map,List.getElem?_eq_getElem hb',Option.map_some,bAt i hb'];rfl)]
   exact aew (HP.okH i hb) (hH i hb) (bNum i hb').2
 . show adJ (nD (lw ns i)) _
   obtain⟨w1,w2⟩:=lwAt i om;obtain⟨F,a0,b0⟩:=E.at_ hb;rw[w1] at w2⊢;exact aiA F a0 b0 (hV i hb) w2
theorem aby{f:Bool}{a b a' b':Option Addr}{g oa h ob g' oa' h' ob' n c m d c' d':Nat}{X Y:Nat->Nat}{w:World}(hn:n<=1048576)(hm:m<=1048576)(hX:ag w a g oa n X)(hY:ag w b h ob m Y)(hX':ag w a' g' oa' n X)(hY':ag w b' h' ob' m Y):
 Cl 133 #[.agg #[.bool f,.slice a n c,.slice b m d],.agg #[.bool f,.slice a' n c',.slice b' m d']] w fun e w'=>e=.returned (.bool true)/\w.S w':=by
 have sA:w.S ((w.alloc (.cells #[.bool f,.slice a n c,.slice b m d] 44)).alloc (.cells #[.bool f,.slice a' n c',.slice b' m d'] 44)):=(bJ _ _).alloc qz _;have oA:bj ((w.alloc (.cells #[.bool f,.slice a n c,.slice b m d] 44)).alloc (.cells #[.bool f,.slice a' n c',.slice b' m d'] 44)) w.heap.size (.bool f) (.slice a n c) (.slice b m d):=(bj.new w _ _ _ _).aA (bJ _ _)
 have pA:bj ((w.alloc (.cells #[.bool f,.slice a n c,.slice b m d] 44)).alloc (.cells #[.bool f,.slice a' n c',.slice b' m d'] 44)) (w.heap.size+1) (.bool f) (.slice a' n c') (.slice b' m d'):=by
  have:=bj.new (w.alloc (.cells #[.bool f,.slice a n c,.slice b m d] 44)) (.bool f) (.slice a' n c') (.slice b' m d') 44
  simpa using this
 have kA:=And.intro oA.cells pA.cells;go_enter Tryz.func133,Tryz.ntmps133;go_wp2;generalize ((w.alloc _).alloc _)=w1 at*
 go_loopw [5] (fun t wr=>∃k:Nat,k<=n/\t=.i k/\Same w1 wr) (fun t _=>n-(intOf t).toNat)
 case atStart=>exact⟨0,Nat.zero_le _,rfl,Same.refl _⟩
 case round=>
  obtain⟨k,hk,rfl,sm⟩:=hrel;have q1:wr.cell? (jj w.heap.size 1)=some (.slice a n c):=by rw[sm.cell];exact oA.c1
  have q2:wr.cell? (jj (w.heap.size+1) 1)=some (.slice a' n c'):=by rw[sm.cell];exact pA.c1
  by_cases hlt:k<n
  . obtain⟨rfl,x1⟩:=hX k hlt
    obtain⟨rfl,x2⟩:=hX' k hlt;have y1:=(sA.cell (a:=jj _ _) (gz _ _ x1)).trans x1;have y2:=(sA.cell (a:=jj _ _) (gz _ _ x2)).trans x2;rw[<-sm.cell] at y1 y2;have hlt':(k:Int)<n:=om
    go_wp2
    go_quiet (fail)
    go_wp2;go_roundw
    case rel=>exact⟨k+1,om,by go_num,sm.drewN _⟩
    case measure=>simp[intOf];omega
  . have q0:=q1
    have k1:=And.intro oA.cells pA.cells;have q3:wr.cell? (jj w.heap.size 2)=some (.slice b m d):=by rw[sm.cell];exact oA.c2
    go_wp2
    go_loopw [6] (fun t wr=>∃k:Nat,k<=m/\t=.i k/\Same w1 wr) (fun t _=>m-(intOf t).toNat)
    case atStart=>exact⟨0,Nat.zero_le _,rfl,sm⟩
    case round=>
     obtain⟨k,hk,rfl,sm⟩:=hrel;have q1:wr.cell? (jj w.heap.size 2)=some (.slice b m d):=by rw[sm.cell];exact oA.c2
     have q2:wr.cell? (jj (w.heap.size+1) 2)=some (.slice b' m d'):=by rw[sm.cell];exact pA.c2
     by_cases hlt:k<m
     . obtain⟨rfl,x1⟩:=hY k hlt
       obtain⟨rfl,x2⟩:=hY' k hlt;have y1:=(sA.cell (a:=jj _ _) (gz _ _ x1)).trans x1;have y2:=(sA.cell (a:=jj _ _) (gz _ _ x2)).trans x2;rw[<-sm.cell] at y1 y2;have hlt':(k:Int)<m:=om
       go_wp2
       go_quiet (fail)
       go_wp2;go_roundw
       case rel=>exact⟨k+1,om,by go_num,sm.drewN _⟩
       case measure=>simp[intOf];omega
     . go_wp2
       go_ret;exact⟨rfl,sA.tr (sm.since w1.heap.size)⟩
theorem aeh{f:Bool}{a b a' b':Option Addr}{g oa h ob g' oa' h' ob' n c m d c' d':Nat}{X Y:Nat->Nat}{w:World}(hn:n<=1048576)(hm:m<=1048576)(hX:ag w a g oa n X)(hY:ag w b h ob m Y)(hX':ag w a' g' oa' n X)(hY':ag w b' h' ob' m Y):
 Cl 86 #[.agg #[.bool f,.slice a n c,.slice b m d],.agg #[.bool f,.slice a' n c',.slice b' m d']] w fun e w'=>e=.returned (.bool true)/\w.S w':=by
 have sA:w.S ((w.alloc (.cells #[.bool f,.slice a n c,.slice b m d] 44)).alloc (.cells #[.bool f,.slice a' n c',.slice b' m d'] 44)):=(bJ _ _).alloc qz _;have oA:bj ((w.alloc (.cells #[.bool f,.slice a n c,.slice b m d] 44)).alloc (.cells #[.bool f,.slice a' n c',.slice b' m d'] 44)) w.heap.size (.bool f) (.slice a n c) (.slice b m d):=(bj.new w _ _ _ _).aA (bJ _ _)
 have pA:bj ((w.alloc (.cells #[.bool f,.slice a n c,.slice b m d] 44)).alloc (.cells #[.bool f,.slice a' n c',.slice b' m d'] 44)) (w.heap.size+1) (.bool f) (.slice a' n c') (.slice b' m d'):=by
  have:=bj.new (w.alloc (.cells #[.bool f,.slice a n c,.slice b m d] 44)) (.bool f) (.slice a' n c') (.slice b' m d') 44
  simpa using this
 have kA:=And.intro oA.cells pA.cells;go_enter Tryz.func86,Tryz.ntmps86;go_wp2_with fail;generalize ((w.alloc _).alloc _)=w1 at*;refine (aby hn hm (hX.aA sA) (hY.aA sA) (hX'.aA sA) (hY'.aA sA)).mono ?_;rintro e w2 ⟨rfl,s2⟩;go_wp2;go_ret;exact⟨rfl,sA.tr s2⟩
section
variable{w:World}{lo b o n:Nat}{r r':br}{a a1 a2:Option Addr}{k1 k2:Nat}{R R':Nat->br}{d d':ay}{A A':Nat->ay}
theorem jM.e(h:jM w lo b o r a1 a2 k1 k2)(E:yE r r'):jM w lo b o r' a1 a2 k1 k2:=by
 obtain⟨c0,c1,c2,nc,mc,ac,bc,⟨x1,x2,x3,LX⟩,⟨y1,y2,y3,LY⟩,lX,lY,n63,m63⟩:=h;rw[E.n] at c1 nc x3 LX lX n63;rw[E.m] at c2 mc y3 LY lY m63;rw[E.s] at c0;exact⟨c0,c1,c2,nc,mc,ac,bc,⟨x1,x2,x3,fun j hj=>by rw[<-E.X j hj];exact LX j hj⟩,⟨y1,y2,y3,fun j hj=>by rw[<-E.Y j hj];exact LY j hj⟩,fun j hj=>by rw[<-E.X j hj];exact lX j hj,fun j hj=>by rw[<-E.Y j hj];exact lY j hj,n63,m63⟩
theorem fw.e(h:fw w lo a b o n R)(E:∀i,i<n->yE (R i) (R' i)):fw w lo a b o n R':=fun i hi=>by
 obtain⟨e,a1,a2,k1,k2,M⟩:=h i hi;exact⟨e,a1,a2,k1,k2,M.e (E i hi)⟩
theorem mb.e(h:mb w lo b o d a1 k1)(E:adJ d d'):mb w lo b o d' a1 k1:=by
 obtain⟨c0,c1,c2,c3,c4,c5,nc,⟨x1,x2,x3,LV⟩,i1,i2,i3,i4,i5,n63⟩:=h;rw[E.nv] at c5 nc x3 LV n63;rw[E.op] at c0 i1;rw[E.a] at c1 i2;rw[E.b] at c2 i3;rw[E.k] at c3 i4;rw[E.s] at c4 i5;exact⟨c0,c1,c2,c3,c4,c5,nc,⟨x1,x2,x3,LV.e E.V⟩,i1,i2,i3,i4,i5,n63⟩
theorem qG.e(h:qG w lo a b o n A)(E:∀i,i<n->adJ (A i) (A' i)):qG w lo a b o n A':=fun i hi=>by
 obtain⟨e,a1,k1,M⟩:=h i hi;exact⟨e,a1,k1,M.e (E i hi)⟩
theorem gj.e{g g':ax}{aL aH aN:Option Addr}{kL kH kN:Nat}(h:gj w lo g aL aH aN kL kH kN)(E:aho g g'):gj w lo g' aL aH aN kL kH kN:=by
 obtain⟨lc,hc,nc,⟨b1,o1,l1,L⟩,⟨b2,o2,l2,H⟩,⟨b3,o3,l3,N⟩,i1,i2,i3,l63,h63,n63⟩:=h;rw[E.nl] at lc l1 L l63;rw[E.nh] at hc l2 H h63;rw[E.nn] at nc l3 N n63;rw[E.inn] at i1;rw[E.rounds] at i2;rw[E.out] at i3;exact⟨lc,hc,nc,⟨b1,o1,l1,L.e E.Lo⟩,⟨b2,o2,l2,H.e E.Hi⟩,⟨b3,o3,l3,N.e E.N⟩,i1,i2,i3,l63,h63,n63⟩
end
theorem pd{a a':Option Addr}{lo b off cap lo' b' off' cap' n:Nat}{R:Nat->br}{w:World}(hn:n<=1048576)(hs:mj R n<=1048576)(H:fw w lo a b off n R)(H':fw w lo' a' b' off' n R):
 Cl 40 #[.slice a n cap,.slice a' n cap'] w fun e w'=>e=.returned (.bool true)/\w.S w':=by
 go_enter Tryz.func40,Tryz.ntmps40;go_wp2
 go_loopw [5] (fun i wr=>∃k:Nat,k<=n/\i=.i k/\w.S wr) (fun i _=>n-(intOf i).toNat)
 case atStart=>exact⟨0,Nat.zero_le _,rfl,eg _ _⟩
 case round=>
  obtain⟨k,hk,rfl,s⟩:=hrel
  by_cases hlt:k<n
  . obtain⟨rfl,a1,a2,k1,k2,M⟩:=H k hlt
    obtain⟨rfl,a1',a2',k1',k2',M'⟩:=H' k hlt;have sd:w.S wr.drew:=⟨s.os,s.tape,s.output,s.size,s.block⟩;have N:=M.aA s;have N':=M'.aA s;obtain⟨g0,g1,g2⟩:=N.g;obtain⟨g0',g1',g2'⟩:=N'.g;have hsz:=gY (R:=R) hlt;have hz:(k:Int)<n:=om
    obtain⟨ba,oa,-,LX⟩:=(M.L.aA sd).LX;obtain⟨bb,ob,-,LY⟩:=(M.L.aA sd).LY;obtain⟨ba',oa',-,LX'⟩:=(M'.L.aA sd).LX;obtain⟨bb',ob',-,LY'⟩:=(M'.L.aA sd).LY;have J1:=@aeh (R k).neg a1 a2 a1' a2' ba oa bb ob ba' oa' bb' ob' (R k).n k1 (R k).m k2 k1' k2' (R k).X (R k).Y wr.drew om om LX LY LX' LY';go_wp2_with fail
    go_region_held3 (fun w'=>w'.cell? (jj b (off+k*3))=some (.bool (R k).neg)/\w'.cell? (jj b (off+k*3+1))=some (.slice a1 (R k).n k1)/\w'.cell? (jj b (off+k*3+2))=some (.slice a2 (R k).m k2)/\w'.cell? (jj b' (off'+k*3))=some (.bool (R k).neg)/\w'.cell? (jj b' (off'+k*3+1))=some (.slice a1' (R k).n k1')/\w'.cell? (jj b' (off'+k*3+2))=some (.slice a2' (R k).m k2')) (go_keep)
     (first
       | (go_at_call 86
          with_reducible refine J1.mono ?_
          rintro e w1 ⟨rfl,s1⟩;have S1:=sd.tr s1;obtain⟨i0,i1,i2⟩:=(M.aA S1).g;obtain⟨i0',i1',i2'⟩:=(M'.aA S1).g))
    all_goals go_wp2
    all_goals go_roundw
    case rel=>exact⟨k+1,om,by go_num,S1⟩
    case measure=>simp[intOf];omega
  . go_wp2
    go_ret;exact⟨rfl,s⟩
theorem zj{g:ax}{aL aH aN aL' aH' aN':Option Addr}{lo kL kH kN lo' kL' kH' kN':Nat}{w:World}(hd:g.size<=1048576)(H:gj w lo g aL aH aN kL kH kN)(H':gj w lo' g aL' aH' aN' kL' kH' kN'):
 Cl 10 #[.agg #[.i g.inn,.i g.rounds,.slice aL g.nl kL,.slice aH g.nh kH,.slice aN g.nn kN,.i g.out],.agg #[.i g.inn,.i g.rounds,.slice aL' g.nl kL',.slice aH' g.nh kH',.slice aN' g.nn kN',.i g.out]] w fun e w'=>e=.returned (.bool true)/\w.S w':=by
 have ts:=hd;unfold ax.size at ts;obtain⟨wA,eA⟩:∃wA:World,wA=(w.alloc (.cells #[.i g.inn,.i g.rounds,.slice aL g.nl kL,.slice aH g.nh kH,.slice aN g.nn kN,.i g.out] 26)).alloc (.cells #[.i g.inn,.i g.rounds,.slice aL' g.nl kL',.slice aH' g.nh kH',.slice aN' g.nn kN',.i g.out] 26):=⟨_,rfl⟩;have sA:w.S wA:=by rw[eA];exact (bJ _ _).alloc qz _
 have bA:au wA w.heap.size (.i g.inn) (.i g.rounds) (.slice aL g.nl kL) (.slice aH g.nh kH) (.slice aN g.nn kN) (.i g.out):=by rw[eA];exact (au.new w _ _ _ _ _ _ _).aA (bJ _ _)
 have cA:au wA (w.heap.size+1) (.i g.inn) (.i g.rounds) (.slice aL' g.nl kL') (.slice aH' g.nh kH') (.slice aN' g.nn kN') (.i g.out):=by
  rw[eA];have:=au.new (w.alloc (.cells #[.i g.inn,.i g.rounds,.slice aL g.nl kL,.slice aH g.nh kH,.slice aN g.nn kN,.i g.out] 26)) (.i g.inn) (.i g.rounds) (.slice aL' g.nl kL') (.slice aH' g.nh kH') (.slice aN' g.nn kN') (.i g.out) 26
  simpa using this
 obtain⟨b1,o1,-,W1⟩:=(H.aA sA).LL;obtain⟨b2,o2,-,W2⟩:=(H'.aA sA).LL;obtain⟨b3,o3,-,B1⟩:=(H.aA sA).LH;obtain⟨b4,o4,-,B2⟩:=(H'.aA sA).LH;obtain⟨b5,o5,-,N1⟩:=(H.aA sA).LN;obtain⟨b6,o6,-,N2⟩:=(H'.aA sA).LN;have J1:=@pd aL aL' lo b1 o1 kL lo' b2 o2 kL' g.nl g.Lo wA om om W1 W2;have EA:=ae eA;go_enter Tryz.func10,Tryz.ntmps10;go_wp2_with fail;rw[<-EA.out];refine J1.mono ?_;rintro e w1 ⟨rfl,s1⟩;have J2:=@pd aH aH' lo b3 o3 kH lo' b4 o4 kH' g.nh g.Hi w1 om om (B1.aA s1) (B2.aA s1);have X1:=bA.aA s1;have X2:=cA.aA s1;have q1:=X1.c3;have q2:=X2.c3;go_wp2_with fail;refine J2.mono ?_;rintro e w2 ⟨rfl,s2⟩;have u2:=s1.tr s2;have Y1:=X1.aA s2;have Y2:=X2.aA s2;have q1:=Y1.c4;have q2:=Y2.c4;go_wp2_with fail
 go_loopw [5] (fun i wr=>∃k:Nat,k<=g.nn/\i=.i k/\w2.S wr) (fun i _=>g.nn-(intOf i).toNat)
 case atStart=>exact⟨0,Nat.zero_le _,rfl,eg _ _⟩
 case round=>
  obtain⟨k,hk,rfl,s⟩:=hrel;have z2:=u2.size
  by_cases hlt:k<g.nn
  . have r1:=(Y1.aA s).c4
    have r2:=(Y2.aA s).c4;obtain⟨rfl,a1,k1,M⟩:=N1 k hlt;obtain⟨rfl,a1',k1',M'⟩:=N2 k hlt;have S:=u2.tr s;have N:=M.aA S;have N':=M'.aA S;obtain⟨g0,g1,g2,g3,g4,g5⟩:=N.g;have hsz:=qQ (A:=g.N) hlt;have hz:(k:Int)<(g.nn:Int):=om
    have sP:=bJ wr (.cells #[.i (g.N k).op,.i (g.N k).a,.i (g.N k).b,.i (g.N k).k,.i (g.N k).s,.slice a1 (g.N k).nv k1] 48);have BP:=au.new wr (.i (g.N k).op) (.i (g.N k).a) (.i (g.N k).b) (.i (g.N k).k) (.i (g.N k).s) (.slice a1 (g.N k).nv k1) 48;have zP:(wr.alloc (.cells #[.i (g.N k).op,.i (g.N k).a,.i (g.N k).b,.i (g.N k).k,.i (g.N k).s,.slice a1 (g.N k).nv k1] 48)).heap.size=wr.heap.size+1:=by simp
    have h4:=((Y2.aA s).aA sP).c4;have NP:=N'.aA sP;obtain⟨g0',g1',g2',g3',g4',g5'⟩:=NP.g;go_wp2_with fail;generalize wr.alloc _=wP at*;have sQ:=bJ wP (.cells #[.i (g.N k).op,.i (g.N k).a,.i (g.N k).b,.i (g.N k).k,.i (g.N k).s,.slice a1' (g.N k).nv k1'] 48);have SQ:=sP.tr sQ;have S1:=S.tr SQ;have S2:=s.tr SQ;obtain⟨ba,oa,-,V1⟩:=(M.L.aA S1).LV;obtain⟨bb,ob,-,V2⟩:=(M'.L.aA S1).LV;unfold ay.size at hsz;refine (pd om om V1 V2).mono ?_;rintro e w3 ⟨rfl,s3⟩;go_wp2;go_roundw
    case rel=>exact⟨k+1,om,by go_num,S2.tr s3⟩
    case measure=>simp[intOf];omega
  . have r1:=(Y1.aA s).c4
    go_wp2;go_ret;exact⟨rfl,sA.tr (u2.trans (sM s u2.size))⟩
def Fit(s:ByteArray):Prop:=s.size<=20000/\∃x1 x2 xo bs ns,ke (cK 0 (fN 10 s)) x1 x2 xo bs ns
theorem acG{s:ByteArray}{p:Nat}(h:kP (cK 0 (fN 10 s)) p):¬Fit s:=fun⟨_,_,_,_,_,_,G⟩=>h.not G.may
theorem ac1{s:ByteArray}(h:kn (cK 0 (fN 10 s))):¬Fit s:=fun⟨_,_,_,_,_,_,G⟩=>by
 obtain⟨no,e⟩:=G.last;exact h.2 _ e rfl
theorem yX{s:ByteArray}{w:World}(hs:s.size<=9223372036854775807):
 Cl 7 #[.string s] w fun e w'=>∃i r aL nl cL aH nh cH aN nn cN o c n,e=.returned (.tuple #[.agg #[.i i,.i r,.slice aL nl cL,.slice aH nh cH,.slice aN nn cN,.i o],.i c,.i n])/\(c=0↔Fit s)/\w.S w':=by
 refine (pa hs).mono ?_;rintro e w' ⟨S,⟨h,he⟩ | ⟨-,p,h,he⟩ | ⟨-,h,he⟩ | ⟨hl,x1,x2,xo,bs,ns,aL,cL,aH,cH,aN,cN,xL,xH,xN,zs,lo,D,h,he,-⟩⟩
 . exact⟨_,_,_,_,_,_,_,_,_,_,_,_,_,_,he,⟨fun h=>absurd h om,fun F=>absurd F.1 om⟩,S⟩
 . exact⟨_,_,_,_,_,_,_,_,_,_,_,_,_,_,he,⟨fun h=>absurd h om,fun F=>absurd F (acG h)⟩,S⟩
 . exact⟨_,_,_,_,_,_,_,_,_,_,_,_,_,_,he,⟨fun h=>absurd h om,fun F=>absurd F (ac1 h)⟩,S⟩
 . exact⟨_,_,_,_,_,_,_,_,_,_,_,_,_,_,he,⟨fun _=>⟨hl,_,_,_,_,_,h⟩,fun _=>rfl⟩,S⟩
theorem aao{g:ax}{w:World}(hs:(jv (ei g)).size<=9223372036854775807)(E:jO g)(hL:∀i,i<g.nl->(g.Lo i).aU)(hH:∀i,i<g.nh->(g.Hi i).aU)(hV:∀k,k<g.nn->∀i,i<(g.N k).nv->((g.N k).V i).aU):
 Cl 9 #[.string (jv (ei g))] w fun e w'=>w.S w'/\((¬Fit (jv (ei g))/\∃i r aL nl cL aH nh cH aN nn cN o c n,e=.returned (.tuple #[.agg #[.i i,.i r,.slice aL nl cL,.slice aH nh cH,.slice aN nn cN,.i o],.i c,.i n])/\c≠0)∨
  (Fit (jv (ei g))/\∃aL aH aN kL kH kN,e=.returned (.tuple #[.agg #[.i g.inn,.i g.rounds,.slice aL g.nl kL,.slice aH g.nh kH,.slice aN g.nn kN,.i g.out],.i 0,.i 0])/\gj w' 0 g aL aH aN kL kH kN)):=by
 refine (pj hs).mono ?_;rintro e w' ⟨S,⟨h,he⟩ | ⟨-,p,h,he⟩ | ⟨-,h,he⟩ | ⟨hl,x1,x2,xo,bs,ns,aL,cL,aH,cH,aN,cN,xL,xH,xN,zs,lo,hi,d,h,he,R⟩⟩
 . exact⟨S,Or.inl ⟨fun F=>absurd F.1 om,_,_,_,_,_,_,_,_,_,_,_,_,_,_,he,om⟩⟩
 . exact⟨S,Or.inl ⟨acG h,_,_,_,_,_,_,_,_,_,_,_,_,_,_,he,om⟩⟩
 . exact⟨S,Or.inl ⟨ac1 h,_,_,_,_,_,_,_,_,_,_,_,_,_,_,he,om⟩⟩
 . have T:=aaT E hL hH hV h
   have G:=ag5 hl h R.S.L R.S.H R.N;refine⟨S,Or.inr ⟨⟨hl,_,_,_,_,_,h⟩,aL,aH,aN,cL,cH,cN, ?_,G.e T⟩⟩;rw[he,<-T.inn,<-T.rounds,<-T.out,<-T.nl,<-T.nh,<-T.nn]
   rfl
end Go.Proofs.YtclgkofcooibfaaGreatDoor
