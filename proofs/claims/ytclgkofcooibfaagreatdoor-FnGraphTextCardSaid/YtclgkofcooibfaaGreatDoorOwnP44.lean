import Derived.Test.YtclgkofcooibfaaGreatDoorOwnP27
import Derived.Test.YtclgkofcooibfaaGreatDoorOwnP43
import Derived.Test.YtclgkofcooibfaaGreatDoorOwnP10
set_option maxHeartbeats 6400000
set_option maxRecDepth 100000
namespace Go.Proofs.YtclgkofcooibfaaGreatDoor
open Go.RowKit
section
variable{w w':World}{p:Nat->Prop}{c i K K' b off:Nat}{v0 v1:Value}{aW aB:Option Addr}{gW nW cW gB nB cB:Nat}{pW pB:Nat->Nat->Prop}{kW kB:Nat->Nat}{f:Bool}{g h:Nat}{a1:Option Addr}{n1 k1:Nat}{a2:Option Addr}{n2 k2:Nat}{X Y:Nat->Nat}
end
section
variable{w w':World}{S p:Nat->Prop}{c i K K':Nat}{v0 v1 v2 v3 v4:Value}{aV:Option Addr}{gV nV cV:Nat}{pV:Nat->Nat->Prop}{kV:Nat->Nat}
end
section
variable{w w':World}{S:Nat->Prop}{a:Option Addr}{c n:Nat}{p:Nat->Nat->Prop}{z K:Nat->Nat}
end
end Go.Proofs.YtclgkofcooibfaaGreatDoor
namespace Go.Proofs.YtclgkofcooibfaaGreatDoor
open Go.RowKit
def bS:ByteArray:=⟨#[103,114,97,112,104]⟩
def ie:ByteArray:=⟨#[98,111,120]⟩
def cj:ByteArray:=⟨#[111,117,116,112,117,116]⟩
structure Kd where
 op:Int
 word:ByteArray
 ub:Bool
 uk:Bool
 us:Bool
 nums:Int
 fs:List Nat
def kd1:Kd:=⟨1,⟨#[100,101,110,115,101]⟩,false,true,false,-1,[1,3]⟩
def kd2:Kd:=⟨2,⟨#[114,101,108,117]⟩,false,false,false,0,[1]⟩
def kd3:Kd:=⟨3,⟨#[108,101,97,107,121]⟩,false,false,false,1,[1]⟩
def kd4:Kd:=⟨4,⟨#[97,100,100]⟩,true,false,false,0,[1,2]⟩
def kd5:Kd:=⟨5,⟨#[109,97,120,112,111,111,108]⟩,false,true,false,0,[1,3]⟩
def kd6:Kd:=⟨6,⟨#[99,111,110,118]⟩,false,true,true,-1,[1,3,4]⟩
def kd7:Kd:=⟨7,⟨#[110,111,114,109]⟩,false,false,false,4,[1]⟩
def mJ(kd:Kd)(ws:List ByteArray):Prop:=cE ws kd.word kd.fs.length kd.nums.toNat kd.nums
def iB(kd:Kd):Prop:=kd=kd1∨kd=kd2∨kd=kd3∨kd=kd4∨kd=kd5∨kd=kd6∨kd=kd7
def eW(ws:List ByteArray):Prop:=∃kd,iB kd/\mJ kd ws
theorem iT{ws:List ByteArray}{nm:ByteArray}{ints least:Nat}{most:Int}:cE ws nm ints least most↔∃is ns:List ByteArray,ws=nm::(is++ns)/\is.length=ints/\(∀x∈is,isInt x)/\(∀x∈ns,dI x)/\least<=ns.length/\(0<=most->(ns.length:Int)<=most):=by
 constructor
 . rintro⟨h1,h2,h3,h4⟩
   match ws,h1,h2,h3,h4 with
   | [],h1,_,_,_=>simp at h1
   | a::r,h1,h2,h3,h4=>
     simp only[List.head?_cons,Option.some.injEq] at h1;subst h1;simp only[List.length_cons] at h2 h3;refine⟨r.take ints,r.drop ints,by rw[List.take_append_drop],by rw[List.length_take];omega,fun x hx=> ?_,fun x hx=> ?_,by rw[List.length_drop];omega,fun h=>by rw[List.length_drop];have:=h3 h;omega⟩
     . obtain⟨j,hj,e⟩:=List.getElem_of_mem hx
       rw[List.length_take] at hj;have h5:=(h4 (j+1) om (by simp;omega)).1 om
       have e2:wd (a::r) (j+1)=x:=by
        unfold wd;rw[List.getD_eq_getElem?_getD,List.getElem?_cons_succ,List.getElem?_eq_getElem om];simp only[List.getElem_take] at e;exact e
       rw[e2] at h5;exact h5
     . obtain⟨j,hj,e⟩:=List.getElem_of_mem hx
       rw[List.length_drop] at hj;have h5:=(h4 (ints+j+1) om (by simp;omega)).2 om
       have e2:wd (a::r) (ints+j+1)=x:=by
        unfold wd;rw[List.getD_eq_getElem?_getD,List.getElem?_cons_succ,List.getElem?_eq_getElem om];simp only[List.getElem_drop] at e;exact e
       rw[e2] at h5;exact h5
 . rintro⟨is,ns,rfl,rfl,h1,h2,h3,h4⟩
   refine⟨rfl,by simp;omega,fun h=>by simp;have:=h4 h;omega,fun i hi hi2=>⟨fun h=> ?_,fun h=> ?_⟩⟩
   . obtain⟨j,rfl⟩:∃j,i=j+1:=⟨i-1,om⟩
     have e2:wd (nm::(is++ns)) (j+1)=is[j]:=by
      unfold wd;rw[List.getD_eq_getElem?_getD,List.getElem?_cons_succ,List.getElem?_append_left om,List.getElem?_eq_getElem om]
      rfl
     rw[e2];exact h1 _ (List.getElem_mem _)
   . obtain⟨j,rfl⟩:∃j,i=j+1:=⟨i-1,om⟩
     simp at hi2
     have e2:wd (nm::(is++ns)) (j+1)=ns[j-is.length]:=by
      unfold wd;rw[List.getD_eq_getElem?_getD,List.getElem?_cons_succ,List.getElem?_append_right om,List.getElem?_eq_getElem om]
      rfl
     rw[e2];exact h2 _ (List.getElem_mem _)
theorem fR{ws:List ByteArray}:cE ws bS 2 0 0↔∃x1 x2,ws=[bS,x1,x2]/\isInt x1/\isInt x2:=by
 rw[iT]
 constructor
 . rintro⟨is,ns,rfl,h1,h2,h3,h4,h5⟩
   have h5:=h5 (Int.le_refl _);have hn:ns=[]:=List.length_eq_zero_iff.1 om;subst hn
   match is,h1,h2 with
   | [a,b],_,h2=>exact⟨a,b,qz,h2 a qz,h2 b qz⟩
 . rintro⟨x1,x2,rfl,i1,i2⟩
   exact⟨[x1,x2],[],rfl,rfl,by simp[i1,i2],qz,qz,qz⟩
theorem iU{ws:List ByteArray}:cE ws ie 0 2 2↔∃x1 x2,ws=[ie,x1,x2]/\dI x1/\dI x2:=by
 rw[iT]
 constructor
 . rintro⟨is,ns,rfl,h1,h2,h3,h4,h5⟩
   have h5:=h5 om;have hn:=List.length_eq_zero_iff.1 h1;subst hn;have hl:ns.length=2:=om
   match ns,hl,h3 with
   | [a,b],_,h2=>exact⟨a,b,qz,h2 a qz,h2 b qz⟩
 . rintro⟨x1,x2,rfl,i1,i2⟩
   exact⟨[],[x1,x2],rfl,rfl,qz,by simp[i1,i2],qz,qz⟩
theorem iS{ws:List ByteArray}:cE ws cj 1 0 0↔∃x1,ws=[cj,x1]/\isInt x1:=by
 rw[iT]
 constructor
 . rintro⟨is,ns,rfl,h1,h2,h3,h4,h5⟩
   have h5:=h5 (Int.le_refl _);have hn:ns=[]:=List.length_eq_zero_iff.1 om;subst hn
   match is,h1,h2 with
   | [a],_,h2=>exact⟨a,qz,h2 a qz⟩
 . rintro⟨x1,rfl,i1⟩
   exact⟨[x1],[],rfl,rfl,by simp[i1],qz,qz,qz⟩
def fV(fs:List Nat)(ws:List ByteArray):Nat->Nat->Int
 | 0,_=>0
 | k+1,g=>if fs[k]?=some g then ((dv (wd ws (1+k)) (wd ws (1+k)).size:Nat):Int) else fV fs ws k g
def pK(kd:Kd)(ws:List ByteArray):ay:=⟨kd.op,fV kd.fs ws kd.fs.length 1,fV kd.fs ws kd.fs.length 2,fV kd.fs ws kd.fs.length 3,fV kd.fs ws kd.fs.length 4,(ws.drop (1+kd.fs.length)).length,sU (ws.drop (1+kd.fs.length))⟩
theorem iB.nums{kd:Kd}(h:iB kd):kd.nums=-1∨0<=kd.nums/\kd.nums<=4:=by
 rcases h with rfl | rfl | rfl | rfl | rfl | rfl | rfl<;>decide
theorem iB.one{kd kd':Kd}(h:iB kd)(h':iB kd')(e:kd.word=kd'.word):kd=kd':=by
 rcases h with rfl | rfl | rfl | rfl | rfl | rfl | rfl<;>rcases h' with rfl | rfl | rfl | rfl | rfl | rfl | rfl<;>first | rfl | (exact absurd e qd)
theorem iB.nout{kd:Kd}(h:iB kd):kd.word≠cj:=by
 rcases h with rfl | rfl | rfl | rfl | rfl | rfl | rfl<;>decide
theorem aib{x y:ByteArray}(h:x≠y):(x==y)=false:=by
 cases hb:(x==y) with
 | false=>rfl
 | true=>
   refine absurd ?_ h;cases x with | mk a=>
   cases y with | mk b=>
   have hb:(a==b)=true:=hb;rw[eq_of_beq hb]
theorem ag7{x:ByteArray}(h:∀kd,iB kd->kd.word≠x):Instr.findNow .string (.string x) uN.toList 0=some none:=by
 have key:∀kd,iB kd->(x==kd.word)=false:=fun kd hk=>by
  exact aib (fun e=>h kd hk e.symm)
 have k1:=key kd1 (Or.inl rfl);have k2:=key kd2 (Or.inr (Or.inl rfl));have k3:=key kd3 (Or.inr (Or.inr (Or.inl rfl)));have k4:=key kd4 (Or.inr (Or.inr (Or.inr (Or.inl rfl))));have k5:=key kd5 (Or.inr (Or.inr (Or.inr (Or.inr (Or.inl rfl)))));have k6:=key kd6 (Or.inr (Or.inr (Or.inr (Or.inr (Or.inr (Or.inl rfl))))));have k7:=key kd7 (Or.inr (Or.inr (Or.inr (Or.inr (Or.inr (Or.inr rfl))))));simp only[kd1,kd2,kd3,kd4,kd5,kd6,kd7] at k1 k2 k3 k4 k5 k6 k7;simp only[uN,Instr.findNow,Instr.sameNow,k1,k2,k3,k4,k5,k6,k7]
theorem au.aM{w w':World}{c d:Nat}{x y z u v t:Value}(h:au w d x y z u v t)(s:cF c w w')(hn:d≠c):au w' d x y z u v t:=by
 have kd:=s.block d h.lt (by simpa using hn);refine⟨(fa (a:=jj d 0) kd).trans h.c0,(fa (a:=jj d 1) kd).trans h.c1,(fa (a:=jj d 2) kd).trans h.c2,(fa (a:=jj d 3) kd).trans h.c3,(fa (a:=jj d 4) kd).trans h.c4,(fa (a:=jj d 5) kd).trans h.c5,fun j=> ?_⟩;have:=h.f j;unfold World.frozen? at this⊢;rw[kd];exact this
theorem dg.aM{w w':World}{c m:Nat}(h:dg w m)(s:cF c w w')(hn:m≠c):dg w' m:=by
 unfold dg;rw[s.block m h.lt (by simpa using hn)];exact h
def aiW(w':World)(c bl t d:Nat)(L:List ByteArray)(y z u v:Value)(w:World)(e:Ending):Prop:=
 (cK t (L.drop t)=[]/\e=cg ((L.length:Int)+1))∨
 ∃n ws rest,cK t (L.drop t)=(n,ws)::rest/\((¬cE ws bS 2 0 0/\e=cg n)∨
  ∃x1 x2 wb,ws=[bS,x1,x2]/\isInt x1/\isInt x2/\e=.returned (.tuple #[])/\iy w' c bl wb L n []/\w.heap.size<=wb/\cK n (L.drop n)=rest/\au w' d (.int .i64 (dv x1 x1.size:Nat)) (.int .i64 (dv x2 x2.size:Nat)) y z u v)
def tu(c d:Nat)(w w':World):Prop:=jP (fun q=>q=c∨q=d) w w'
theorem tu.refl(c d:Nat)(w:World):tu c d w w:=⟨rfl,rfl,rfl,Nat.le_refl _,fun _ _ _=>rfl⟩
theorem tu.l{c d:Nat}{w w1 w2:World}(h:tu c d w w1)(b:cF c w1 w2):tu c d w w2:=
 ⟨b.os.trans h.os,b.tape.trans h.tape,b.output.trans h.output,Nat.le_trans h.size b.size,fun q hq hn=>(b.block q (Nat.lt_of_lt_of_le hq h.size) (by simp;exact fun e=>hn (Or.inl e))).trans (h.block q hq hn)⟩
theorem tu.r{c d:Nat}{w w1 w2:World}(h:tu c d w w1)(b:cF d w1 w2):tu c d w w2:=
 ⟨b.os.trans h.os,b.tape.trans h.tape,b.output.trans h.output,Nat.le_trans h.size b.size,fun q hq hn=>(b.block q (Nat.lt_of_lt_of_le hq h.size) (by simp;exact fun e=>hn (Or.inr e))).trans (h.block q hq hn)⟩
theorem aaN{c bl wb t d:Nat}{L ws0:List ByteArray}{z0 z1:Int}{y z u v:Value}{w:World}(h:iy w c bl wb L t ws0)(B:au w d (.i z0) (.i z1) y z u v)(hdc:d≠c)(hdb:d≠bl):
 Cl 78 #[.p c 0,.p d 0] w fun e w'=>tu c d w w'/\aiW w' c bl t d L y z u v w e:=by
 have hdl:=B.lt;go_enter Tryz.func78,Tryz.ntmps78;go_wp2_with fail;refine (kZ h).mono ?_;rintro e w1 ⟨B1,⟨e1,rfl⟩ | ⟨n0,l,rest1,wb1,e1,rfl,R1,hw1,e2,hl0⟩⟩
 . have E1:=ae e1
   unfold cg;go_wp2;exact⟨rfl,(tu.refl c d w).l B1,Or.inl ⟨E1.out,rfl⟩⟩
 have E1:=ae e1;have E2:=ae e2;have C1:=(tu.refl c d w).l B1;have b1:=B.aM B1 hdc;have hwd:wb1≠d:=om
 go_wp2_with fail;refine (qO R1).mono ?_;rintro e w2 ⟨B2,⟨h2,rfl⟩ | ⟨l1,h2,rfl,R2⟩⟩
 . have HNO:Hid (¬cE l bS 2 0 0):=ae (fun hs=>by
    obtain⟨x1,x2,e,-⟩:=fR.1 hs;exact h2 _ e)
   unfold cg;go_wp2;exact⟨rfl,C1.l B2,Or.inr ⟨n0,l,rest1,E1.out,Or.inl ⟨HNO.out,rfl⟩⟩⟩
 subst h2;have b2:=b1.aM B2 hdc;go_wp2_with fail;refine (nG R2).mono ?_;rintro e w3 ⟨B3,⟨h3,rfl⟩ | ⟨x1,l2,h3,i1,rfl,R3⟩⟩
 . have HNO:Hid (¬cE (bS::l1) bS 2 0 0):=ae (fun hs=>by
    obtain⟨x1,x2,e,j1,-⟩:=fR.1 hs;simp only[List.cons.injEq,true_and] at e;exact h3 _ _ e j1)
   unfold cg;go_wp2;exact⟨rfl,(C1.l B2).l B3,Or.inr ⟨n0,_,rest1,E1.out,Or.inl ⟨HNO.out,rfl⟩⟩⟩
 subst h3;have b3:=b2.aM B3 hdc;obtain⟨V1,hV1⟩:∃V,dv x1 x1.size=V:=⟨_,rfl⟩;rw[hV1];have HV1:=ae hV1;have p0:=b3.c0;have f0:=b3.f 0;have BS1:cF d w3 (w3.setCell (jj d 0) (.i (V1:Int))):=(cF.refl d w3).set 0 _;have b4:=b3.aE (.i V1);have R4:=R3.aI BS1 om om om;have C4:=((C1.l B2).l B3).r BS1;have I1:=ae i1;go_wp2_with fail;generalize w3.setCell (jj d 0) (.i V1)=w4 at*;refine (nG R4).mono ?_;rintro e w5 ⟨B5,⟨h5,rfl⟩ | ⟨x2,l3,h5,i2,rfl,R5⟩⟩
 . have HNO:Hid (¬cE (bS::x1::l2) bS 2 0 0):=ae (fun hs=>by
    obtain⟨y1,y2,e,_,j2⟩:=fR.1 hs;simp only[List.cons.injEq,true_and] at e;exact h5 _ _ e.2 j2)
   unfold cg;go_wp2;exact⟨rfl,C4.l B5,Or.inr ⟨n0,_,rest1,E1.out,Or.inl ⟨HNO.out,rfl⟩⟩⟩
 subst h5;have b5:=b4.aM B5 hdc;obtain⟨V2,hV2⟩:∃V,dv x2 x2.size=V:=⟨_,rfl⟩;rw[hV2];have HV2:=ae hV2;have p0:=b5.c1;have f0:=b5.f 1;have BS1:cF d w5 (w5.setCell (jj d 1) (.i (V2:Int))):=(cF.refl d w5).set 1 _;have b6:=b5.aG (.i V2);have R6:=R5.aI BS1 om om om;have C6:=(C4.l B5).r BS1;have I2:=ae i2;go_wp2_with fail;generalize w5.setCell (jj d 1) (.i V2)=w6 at*;refine (oh R6).mono ?_;rintro e w7 ⟨rfl,⟨h7,rfl⟩ | ⟨h7,rfl⟩⟩
 . subst h7
   go_wp2
   go_end0
   exact⟨C6,Or.inr ⟨n0,_,rest1,E1.out,Or.inr ⟨x1,x2,wb1,rfl,I1.out,I2.out,rfl,R6,hw1,E2.out,by rw[HV1.out,HV2.out];exact b6⟩⟩⟩
 . have HNO:Hid (¬cE (bS::x1::x2::l3) bS 2 0 0):=ae (fun hs=>by
    obtain⟨y1,y2,e,_⟩:=fR.1 hs;simp only[List.cons.injEq,true_and] at e;exact h7 e.2.2)
   unfold cg;go_wp2;exact⟨rfl,C6,Or.inr ⟨n0,_,rest1,E1.out,Or.inl ⟨HNO.out,rfl⟩⟩⟩
structure vl(w:World)(lo d:Nat)(vL vH:Value)(lL lH:List ByteArray)(xL xH:List Value):Prop where
 T:xf w lo d vL vH lL lH xL xH
 A:oz lo w.heap.size (xL++xH)
def aiQ(w w':World)(c bl t lo d:Nat)(L:List ByteArray)(x y:Value)(lL lH:List ByteArray)(u v:Value)(e:Ending):Prop:=
 (cK t (L.drop t)=[]/\e=cg ((L.length:Int)+1))∨
 ∃n ws rest,cK t (L.drop t)=(n,ws)::rest/\((¬cE ws ie 0 2 2/\e=cg n)∨
  ∃x1 x2 wb aL cL aH cH xL' xH',ws=[ie,x1,x2]/\dI x1/\dI x2/\e=.returned (.tuple #[])/\iy w' c bl wb L n []/\w.heap.size<=wb/\cK n (L.drop n)=rest/\au w' d x y (.slice aL (lL.length+1) cL) (.slice aH (lH.length+1) cH) u v/\vl w' lo d (.slice aL (lL.length+1) cL) (.slice aH (lH.length+1) cH) (lL++[x1]) (lH++[x2]) xL' xH')
theorem xf.aM{w w':World}{lo d c:Nat}{vW vB:Value}{lW lB:List ByteArray}{xW xB:List Value}(h:xf w lo d vW vB lW lB xW xB)(s:cF c w w')(hc:c<lo):xf w' lo d vW vB lW lB xW xB:=
 ⟨h.W.aM s hc (fun _ _ hq=>hq.1),h.B.aM s hc (fun _ _ hq=>hq.1),h.sep,h.dW,h.dB⟩
theorem xf.push{w1 w':World}{lo d B:Nat}{vW vB vW':Value}{lW lB:List ByteArray}{xW xB:List Value}{b:Bool}{u1 u2:Value}{x:ByteArray}(h:xf w1 lo d vW vB lW lB xW xB)(R:iG w1 (fun q=>B<=q) (.agg #[.bool b,u1,u2]) x)(hb:(ak x).1=b)(hW:∀g,vW.ownBlock=some g->g<B)(hB:∀g,vB.ownBlock=some g->g<B)(hd:d<B)(hlo:lo<=B)(hB':B<=w1.heap.size)
 (g:(w1.alloc (.cells #[.bool b,u1,u2] 44)).grownBy w' vW.ownBlock)(own:w'.ownsRow lo 44 3 vW' (lW.length+1) (xW++[.bool b,u1,u2]))(hat:vW'.ownBlock=vW.ownBlock∨vW'.ownBlock=some (w1.heap.size+1)):
 xf w' lo d vW' vB (lW++[x]) lB (xW++[.bool b,u1,u2]) xB:=by
 have sW:=bJ w1 (.cells #[.bool b,u1,u2] 44);have zW:(w1.alloc (.cells #[.bool b,u1,u2] 44)).heap.size=w1.heap.size+1:=by simp
 exact (h.aA sW).add (cU.one R hb) (Nat.le_refl _) om hW hB hd hlo om g own (by rw[zW];exact hat)
theorem au.bI{w w':World}{c:Nat}{x y z u v t:Value}(h:au w c x y z u v t)(e:w'.heap[c]?=w.heap[c]?):au w' c x y z u v t:=
 ⟨(fa (a:=jj c 0) e).trans h.c0,(fa (a:=jj c 1) e).trans h.c1,(fa (a:=jj c 2) e).trans h.c2,(fa (a:=jj c 3) e).trans h.c3,(fa (a:=jj c 4) e).trans h.c4,(fa (a:=jj c 5) e).trans h.c5,fun o=>by
   have:=h.f o;unfold World.frozen? at this⊢;rw[e];exact this⟩
theorem gc{R:Nat->Prop}{c:Nat}{w w1 w2:World}(h:jP R w w1)(b:cF c w1 w2)(hc:R c):jP R w w2:=
 ⟨b.os.trans h.os,b.tape.trans h.tape,b.output.trans h.output,Nat.le_trans h.size b.size,fun q hq hn=>(b.block q (Nat.lt_of_lt_of_le hq h.size) (by simp;exact fun e=>hn (e▸hc))).trans (h.block q hq hn)⟩
theorem rE{R:Nat->Prop}{w w1 w2:World}(h:jP R w w1)(s:w1.S w2):jP R w w2:=
 ⟨s.os.trans h.os,s.tape.trans h.tape,s.output.trans h.output,Nat.le_trans h.size s.size,fun q hq hn=>(s.block q (Nat.lt_of_lt_of_le hq h.size)).trans (h.block q hq hn)⟩
theorem xb{R:Nat->Prop}{r:Option Nat}{w w1 w2:World}(h:jP R w w1)(g:w1.grownBy w2 r)(hr:∀q,r=some q->q<w.heap.size->R q):jP R w w2:=
 ⟨g.os.trans h.os,g.tape.trans h.tape,g.output.trans h.output,Nat.le_trans h.size g.size,fun q hq hn=>(g.block q (Nat.lt_of_lt_of_le hq h.size) (fun e=>hn (hr q e.symm hq))).trans (h.block q hq hn)⟩
theorem aaK{c bl wb t d lo nL nH cL cH:Nat}{aL aH:Option Addr}{L ws0:List ByteArray}{x y:Value}{lL lH:List ByteArray}{xL xH:List Value}{u v:Value}{w:World}(h:iy w c bl wb L t ws0)(B:au w d x y (.slice aL nL cL) (.slice aH nH cH) u v)(O:vl w lo d (.slice aL nL cL) (.slice aH nH cH) lL lH xL xH)(hnL:lL.length=nL)(hnH:lH.length=nH)(hdc:d≠c)(hdb:d≠bl)(hcl:c<lo)(hbl:bl<lo)(hdl:d<lo)(hlo:lo<=w.heap.size)(hll:nL<=1000000)(hhl:nH<=1000000):
 Cl 79 #[.p c 0,.p d 0] w fun e w'=>jP (fun q=>q=c∨q=d∨lo<=q) w w'/\aiQ w w' c bl t lo d L x y lL lH u v e:=by
 obtain⟨i0,hi,hz0,hz1,hz2⟩:=jY;have HNL:=ae hnL;have HNH:=ae hnH;have HA:=ae O.A;have HT:=ae O.T;have HT0:=ae O.T;have C0:jP (fun q=>q=c∨q=d∨lo<=q) w w:=⟨rfl,rfl,rfl,Nat.le_refl _,fun _ _ _=>rfl⟩;clear hnL hnH O;go_enter Tryz.func79,Tryz.ntmps79;go_wp2_with fail;refine (kZ h).mono ?_;rintro e w1 ⟨B1,⟨e1,rfl⟩ | ⟨n0,l,rest1,wb1,e1,rfl,R1,hw1,e2,hl0⟩⟩
 . have E1:=ae e1
   clear e1;unfold cg;go_wp2;exact⟨rfl,gc C0 B1 (Or.inl rfl),Or.inl ⟨E1.out,rfl⟩⟩
 have E1:=ae e1;have E2:=ae e2;have C1:=gc C0 B1 (Or.inl rfl);have b1:=B.aM B1 hdc;have z1:=B1.size;clear e1 e2;go_wp2_with fail;refine (qO R1).mono ?_;rintro e w2 ⟨B2,⟨h2,rfl⟩ | ⟨l1,h2,rfl,R2⟩⟩
 . have HNO:Hid (¬cE l ie 0 2 2):=ae (fun hs=>by
    obtain⟨x1,x2,e,-⟩:=iU.1 hs;exact h2 _ e)
   clear h2;unfold cg;go_wp2;exact⟨rfl,gc C1 B2 (Or.inl rfl),Or.inr ⟨n0,l,rest1,E1.out,Or.inl ⟨HNO.out,rfl⟩⟩⟩
 subst h2;have b2:=b1.aM B2 hdc;have C2:=gc C1 B2 (Or.inl rfl);have z2:=B2.size;have T2:=ae ((HT.out.aM B1 hcl).aM B2 hcl);have A2:Hid (oz lo w2.heap.size (xL++xH)):=ae (HA.out.wide (Nat.le_refl _) om);clear b1 R1 B1 B2 HT HA
 by_cases hnum0:∃x r,l1=x::r/\(ak x).2.2.2=0
 rotate_left
 . have HNO:Hid (¬cE (ie::l1) ie 0 2 2):=ae (fun hs=>by
    obtain⟨y1,y2,e,j1,j2⟩:=iU.1 hs;simp only[List.cons.injEq,true_and] at e;exact hnum0 ⟨y1,[y2],e,j1⟩)
   have JP:Cl 127 #[.p c 0] w2.drew fun e w'=>cF c w2 w'/\e=cg n0:=by
    have dr:=sT w2;refine (kv (R2.aA dr)).mono ?_;rintro e w' ⟨Bq,⟨-,he⟩ | ⟨x,r,v,hx,hk,-⟩⟩
    . exact⟨(cF.of dr).trans Bq,he⟩
    . exact absurd ⟨x,r,hx,hk⟩ hnum0
   have p0:=b2.c2;clear hnum0;go_wp2_with fail;refine wp_region_held_drew (S:=fun w'=>w'.cell? (jj d 2)=some (.slice aL nL cL)) kr ?_ (fun hHeld=> ?_)
   . simpa using p0
   refine ta 0 8 (.p d 0) ?_ ?_
   . intro w' hSw
     try dsimp only at hSw
     go_simp
   simp only[ap,la,lz,ls];refine ta 1 9 (.p d 0) ?_ ?_
   . intro w' hSw
     try dsimp only at hSw
     go_simp
   simp only[ap,la,lz,ls];refine ta 2 10 (.p d 0) ?_ ?_
   . intro w' hSw
     try dsimp only at hSw
     go_simp
   simp only[ap,la,lz,ls];refine ta 3 11 (.p d 2) ?_ ?_
   . intro w' hSw
     try dsimp only at hSw
     go_simp
   simp only[ap,la,lz,ls];refine ta 4 12 (.slice aL nL cL) ?_ ?_
   . intro w' hSw
     try dsimp only at hSw
     go_simp
   simp only[ap,la,lz,ls];refine ta 5 13 (.p c 0) ?_ ?_
   . intro w' hSw
     try dsimp only at hSw
     go_simp
   simp only[ap,la,lz,ls];refine wpAnyH_ready (rs:=[6]) kr qz ?_;refine AllReadyH.cons rfl (fun K hK=> ?_) AllReadyH.nil;go_simp;refine JP.mono ?_;rintro e w3 ⟨B3,rfl⟩;unfold cg;have C3:=gc C2 B3 (Or.inl rfl);clear JP;go_wp2;exact⟨rfl,C3,Or.inr ⟨n0,_,rest1,E1.out,Or.inl ⟨HNO.out,rfl⟩⟩⟩
 obtain⟨x1,l2,rfl,hk0⟩:=hnum0;have HK0:=ae hk0;have dr2:=sT w2
 have JO0:Cl 127 #[.p c 0] w2.drew fun e w'=>cF c w2 w'/\∃v,e=.returned v/\dM w' v (ak x1).1 (ak x1).2.1 (ak x1).2.2.1 w2.heap.size 67108864/\iy w' c bl wb1 L n0 l2:=by
  refine (kv (R2.aA dr2)).mono ?_;rintro e w' ⟨Bq,⟨hno,-⟩ | ⟨y,r,v,hy,-,he,hv,hr⟩⟩
  . exact absurd HK0.out (hno _ _ rfl)
  . simp only[List.cons.injEq] at hy
    obtain⟨rfl,rfl⟩:=hy;exact⟨(cF.of dr2).trans Bq,v,he,hv,hr⟩
 have own0:∀g,(Value.slice aL nL cL).ownBlock=some g->lo<=g/\g<w2.heap.size:=fun g e=>(T2.out.W.own.lt g e)
 have oth0:∀g,(Value.slice aH nH cH).ownBlock=some g->lo<=g/\g<w2.heap.size:=fun g e=>(T2.out.B.own.lt g e)
 have nod0:(Value.slice aL nL cL).ownBlock≠some d:=fun e=>by have:=own0 d e;omega
 have p0:=b2.c2;have q0:w2.drew.cell? (jj d 2)=some (.slice aL nL cL):=p0;have f0:=b2.f 2;clear hk0
 have hwb0:∀e:(Value.slice aL nL cL).ownBlock=some wb1,False:=fun e=>by
  have h9:=HT0.out.W.own.lt wb1 e;omega
 go_upto_region 2 with fail
 go_cut [] (fun wx=>∃(g5 c5:Nat) (x5:List Value),Hid (au wx d x y (.s g5 (nL+1) c5) (.slice aH nH cH) u v)/\Hid (xf wx lo d (.s g5 (nL+1) c5) (.slice aH nH cH) (lL++[x1]) lH x5 xH)/\Hid (oz lo wx.heap.size (x5++xH))/\Hid (iy wx c bl wb1 L n0 l2)/\jP (fun q=>q=c∨q=d∨lo<=q) w wx)
 case first=>
  go_region_law
   (first
     | (refine step_append_lies _ rfl _ _ 23 rfl lo 44 i0 _ 3 56 Tryz.underlying23 hi hz0 hz1 hz2 rfl qd _ nL xL rfl (O3.out.alloc _) (jj w3.heap.size 0) 1 1 [.bool nb,.slice a1 q1 c1,.slice a2 q2 c2] rfl rfl (rb _ _ _ _ _) (qY _ _ _ _ _ _ _) qd (by unfold maxLen;omega) om (by simp;omega) (w3.heap.size+1) qz ?_
        intro g5 c5 w4 hown hgrow hat hlt4;have BX4:=(BX3.aA sW).bI (hgrow.block d (by simp;omega) (fun e=>nod0 e.symm));have r4:=BX4.c2;have rf4:=BX4.f 2)
     | (go_simp
        go_at_call 127;with_reducible refine JO0.mono ?_
        rintro e w3 ⟨B3,vv,rfl,RV,R3⟩;have W3:=RV.w;obtain⟨v1,v2,g1,g2,rfl,N1,N2,-,-,-⟩:=RV;obtain⟨a1,q1,c1,Y1,rfl,-⟩:=N1;obtain⟨a2,q2,c2,Y2,rfl,-⟩:=N2;obtain⟨nb,hnb⟩:∃b,(ak x1).1=b:=⟨_,rfl⟩;have W3:Hid (iG w3 (fun q=>w2.heap.size<=q) (.agg #[.bool nb,.slice a1 q1 c1,.slice a2 q2 c2]) x1):=ae (by rw[<-hnb];exact W3);rw[hnb];have HNB:=ae hnb;have sW:=bJ w3 (.cells #[.bool nb,.slice a1 q1 c1,.slice a2 q2 c2] 44);have BX3:=b2.aM B3 hdc;have p3:=BX3.c2;have p3':=(BX3.aA sW).c2;have O3:Hid (w3.ownsRow lo 44 3 (.slice aL nL cL) nL xL):=ae (by have:=(T2.out.aM B3 hcl).W.own;rw[HNL.out] at this;exact this);have z3:=B3.size;have T3:=ae (T2.out.aM B3 hcl);clear hnb))
  all_goals
   have T4:=T3.out.push W3.out HNB.out (vW':=(.s g5 (nL+1) c5)) (fun g e=>(own0 g e).2) (fun g e=>(oth0 g e).2) om om z3 hgrow (by rw[HNL.out];exact hown) (by
    rcases hat with h9 | h9
    . exact Or.inl h9.symm
    . right;rw[h9];rfl)
   have AP4:oz lo w4.heap.size ((xL++[.bool nb,.slice a1 q1 c1,.slice a2 q2 c2])++xH):=by
    have h9:=A2.out.append (gi.apt (lo:=w2.heap.size) (hi:=w3.heap.size) W3.out (fun g hg hp=>⟨hp,hg⟩)) (Nat.le_refl _) om z3;refine (h9.wide (Nat.le_refl _) (by have:=hgrow.size;simp at this;omega)).perm ?_;rw[List.append_assoc,List.append_assoc];exact List.Perm.append_left _ List.perm_append_comm
   have BS:cF d w4 (w4.setCell (jj d 2) (.s g5 (nL+1) c5)):=(cF.refl d w4).set 2 _;have T5:=ae (T4.put BS);have BX5:=ae (BX4.aF (.s g5 (nL+1) c5));have z4:=hgrow.size;have z5:=BS.size;have AP5:Hid (oz lo (w4.setCell (jj d 2) (.s g5 (nL+1) c5)).heap.size ((xL++[.bool nb,.slice a1 q1 c1,.slice a2 q2 c2])++xH)):=ae (AP4.wide (Nat.le_refl _) z5);have R5:=ae (((R3.aA sW).aR (jP.aJ hgrow) (fun e=>by have:=own0 c e;omega) (fun e=>by have:=own0 bl e;omega) (fun e=>hwb0 e)).aI BS om om om);have C5:jP (fun q=>q=c∨q=d∨lo<=q) w (w4.setCell (jj d 2) (.s g5 (nL+1) c5)):=gc (xb (rE (gc C2 B3 (Or.inl rfl)) sW) hgrow (fun q e _=>Or.inr (Or.inr (own0 q e).1))) BS (Or.inr (Or.inl rfl));have hz5:w.heap.size<=(w4.setCell (jj d 2) (.s g5 (nL+1) c5)).heap.size:=C5.size;clear T4 BS hown hgrow hat W3 O3 AP4 JO0;go_wp2_with fail
   go_meet
   case rel=>exact⟨g5,c5,_,BX5,T5,AP5,R5,C5⟩
 case rest=>
 obtain⟨g5,c5,x5,BX6,T6,A6,R6',C6⟩:=hcut;clear JO0 p0 q0 f0 T2 A2 R2 b2 C2 own0 oth0 nod0 dr2;rename World=>w6
 have b6:=BX6.out;have R6:=R6'.out;have z6:=C6.size
 by_cases hnum1:∃x r,l2=x::r/\(ak x).2.2.2=0
 rotate_left
 . have HNO:Hid (¬cE (ie::x1::l2) ie 0 2 2):=ae (fun hs=>by
    obtain⟨y1,y2,e,j1,j2⟩:=iU.1 hs;simp only[List.cons.injEq,true_and] at e;exact hnum1 ⟨y2,[],e.2,j2⟩)
   have JP:Cl 127 #[.p c 0] w6.drew fun e w'=>cF c w6 w'/\e=cg n0:=by
    have dr:=sT w6;refine (kv (R6.aA dr)).mono ?_;rintro e w' ⟨Bq,⟨-,he⟩ | ⟨x,r,v,hx,hk,-⟩⟩
    . exact⟨(cF.of dr).trans Bq,he⟩
    . exact absurd ⟨x,r,hx,hk⟩ hnum1
   have p0:=b6.c3;clear hnum1;go_wp2_with fail;refine wp_region_held_drew (S:=fun w'=>w'.cell? (jj d 3)=some (.slice aH nH cH)) kr ?_ (fun hHeld=> ?_)
   . simpa using p0
   refine ta 0 19 (.p d 0) ?_ ?_
   . intro w' hSw
     try dsimp only at hSw
     go_simp
   simp only[ap,la,lz,ls];refine ta 1 20 (.p d 0) ?_ ?_
   . intro w' hSw
     try dsimp only at hSw
     go_simp
   simp only[ap,la,lz,ls];refine ta 2 21 (.p d 0) ?_ ?_
   . intro w' hSw
     try dsimp only at hSw
     go_simp
   simp only[ap,la,lz,ls];refine ta 3 22 (.p d 3) ?_ ?_
   . intro w' hSw
     try dsimp only at hSw
     go_simp
   simp only[ap,la,lz,ls];refine ta 4 23 (.slice aH nH cH) ?_ ?_
   . intro w' hSw
     try dsimp only at hSw
     go_simp
   simp only[ap,la,lz,ls];refine ta 5 24 (.p c 0) ?_ ?_
   . intro w' hSw
     try dsimp only at hSw
     go_simp
   simp only[ap,la,lz,ls];refine wpAnyH_ready (rs:=[6]) kr qz ?_;refine AllReadyH.cons rfl (fun K hK=> ?_) AllReadyH.nil;go_simp;refine JP.mono ?_;rintro e w3 ⟨B3,rfl⟩;unfold cg;have C3:=gc C6 B3 (Or.inl rfl);clear JP;go_wp2;exact⟨rfl,C3,Or.inr ⟨n0,_,rest1,E1.out,Or.inl ⟨HNO.out,rfl⟩⟩⟩
 obtain⟨x2,l3,rfl,hk1⟩:=hnum1;have HK1:=ae hk1;have dr6:=sT w6
 have JO1:Cl 127 #[.p c 0] w6.drew fun e w'=>cF c w6 w'/\∃v,e=.returned v/\dM w' v (ak x2).1 (ak x2).2.1 (ak x2).2.2.1 w6.heap.size 67108864/\iy w' c bl wb1 L n0 l3:=by
  refine (kv (R6.aA dr6)).mono ?_;rintro e w' ⟨Bq,⟨hno,-⟩ | ⟨y,r,v,hy,-,he,hv,hr⟩⟩
  . exact absurd HK1.out (hno _ _ rfl)
  . simp only[List.cons.injEq] at hy
    obtain⟨rfl,rfl⟩:=hy;exact⟨(cF.of dr6).trans Bq,v,he,hv,hr⟩
 have own1:∀g,(Value.slice aH nH cH).ownBlock=some g->lo<=g/\g<w6.heap.size:=fun g e=>(T6.out.B.own.lt g e)
 have oth1:∀g,(Value.s g5 (nL+1) c5).ownBlock=some g->lo<=g/\g<w6.heap.size:=fun g e=>(T6.out.W.own.lt g e)
 have nod1:(Value.slice aH nH cH).ownBlock≠some d:=fun e=>by have:=own1 d e;omega
 have p1:=b6.c3;have q1:w6.drew.cell? (jj d 3)=some (.slice aH nH cH):=p1;have f1:=b6.f 3;clear hk1
 have hwb1:∀e:(Value.slice aH nH cH).ownBlock=some wb1,False:=fun e=>by
  have h9:=HT0.out.B.own.lt wb1 e;omega
 go_wp2_with fail
 go_region_law
  (first
    | (refine step_append_lies _ rfl _ _ 23 rfl lo 44 i0 _ 3 56 Tryz.underlying23 hi hz0 hz1 hz2 rfl qd _ nH xH rfl (O3.out.alloc _) (jj w3.heap.size 0) 1 1 [.bool nb,.slice a1 q1 c1,.slice a2 q2 c2] rfl rfl (rb _ _ _ _ _) (qY _ _ _ _ _ _ _) qd (by unfold maxLen;omega) om (by simp;omega) (w3.heap.size+1) qz ?_
       intro g9 c9 w4 hown hgrow hat hlt4;have BX4:=(BX3.aA sW).bI (hgrow.block d (by simp;omega) (fun e=>nod1 e.symm));have r4:=BX4.c3;have rf4:=BX4.f 3)
    | (go_simp
       go_at_call 127;with_reducible refine JO1.mono ?_
       rintro e w3 ⟨B3,vv,rfl,RV,R3⟩;have W3:=RV.w;obtain⟨v1,v2,g1,g2,rfl,N1,N2,-,-,-⟩:=RV;obtain⟨a1,q1,c1,Y1,rfl,-⟩:=N1;obtain⟨a2,q2,c2,Y2,rfl,-⟩:=N2;obtain⟨nb,hnb⟩:∃b,(ak x2).1=b:=⟨_,rfl⟩;have W3:Hid (iG w3 (fun q=>w6.heap.size<=q) (.agg #[.bool nb,.slice a1 q1 c1,.slice a2 q2 c2]) x2):=ae (by rw[<-hnb];exact W3);rw[hnb];have HNB:=ae hnb;have sW:=bJ w3 (.cells #[.bool nb,.slice a1 q1 c1,.slice a2 q2 c2] 44);have BX3:=b6.aM B3 hdc;have p3:=BX3.c3;have p3':=(BX3.aA sW).c3;have O3:Hid (w3.ownsRow lo 44 3 (.slice aH nH cH) nH xH):=ae (by have:=(T6.out.aM B3 hcl).B.own;rw[HNH.out] at this;exact this);have z3:=B3.size;have T3:=ae (T6.out.aM B3 hcl);clear hnb))
 all_goals
  have T4:=(T3.out.swap.push W3.out HNB.out (vW':=(.s g9 (nH+1) c9)) (fun g e=>(own1 g e).2) (fun g e=>(oth1 g e).2) om om z3 hgrow (by rw[HNH.out];exact hown) (by
   rcases hat with h9 | h9
   . exact Or.inl h9.symm
   . right;rw[h9];rfl)).swap
  have AP4:oz lo w4.heap.size (x5++(xH++[.bool nb,.slice a1 q1 c1,.slice a2 q2 c2])):=by
   have h9:=A6.out.append (gi.apt (lo:=w6.heap.size) (hi:=w3.heap.size) W3.out (fun g hg hp=>⟨hp,hg⟩)) (Nat.le_refl _) om z3;rw[List.append_assoc] at h9;exact h9.wide (Nat.le_refl _) (by have:=hgrow.size;simp at this;omega)
  have BS:cF d w4 (w4.setCell (jj d 3) (.s g9 (nH+1) c9)):=(cF.refl d w4).set 3 _;have T5:=ae (T4.put BS);have BX5:=ae (BX4.aK (.s g9 (nH+1) c9));have z4:=hgrow.size;have z5:=BS.size;have AP5:Hid (oz lo (w4.setCell (jj d 3) (.s g9 (nH+1) c9)).heap.size (x5++(xH++[.bool nb,.slice a1 q1 c1,.slice a2 q2 c2]))):=ae (AP4.wide (Nat.le_refl _) z5);have R5:=ae (((R3.aA sW).aR (jP.aJ hgrow) (fun e=>by have:=own1 c e;omega) (fun e=>by have:=own1 bl e;omega) (fun e=>hwb1 e)).aI BS om om om);have C5:jP (fun q=>q=c∨q=d∨lo<=q) w (w4.setCell (jj d 3) (.s g9 (nH+1) c9)):=gc (xb (rE (gc C6 B3 (Or.inl rfl)) sW) hgrow (fun q e _=>Or.inr (Or.inr (own1 q e).1))) BS (Or.inr (Or.inl rfl));have hz5:w.heap.size<=(w4.setCell (jj d 3) (.s g9 (nH+1) c9)).heap.size:=C5.size;clear T4 BS hown hgrow hat W3 O3 AP4 JO1;go_wp2_with fail;refine (oh R5.out).mono ?_;rintro e w7 ⟨rfl,⟨h7,rfl⟩ | ⟨h7,rfl⟩⟩
  . subst h7
    go_wp2
    go_end0
    refine⟨C5,Or.inr ⟨n0,_,rest1,E1.out,Or.inr ⟨x1,x2,wb1,jp g5 0,c5,jp g9 0,c9,x5,xH++[.bool nb,.slice a1 q1 c1,.slice a2 q2 c2],rfl,HK0.out,HK1.out,rfl,R5.out,hw1,E2.out, ?_,⟨?_,AP5.out⟩⟩⟩⟩
    . rw[HNL.out,HNH.out];exact BX5.out
    . rw[HNL.out,HNH.out];exact T5.out
  . have HNO:Hid (¬cE (ie::x1::x2::l3) ie 0 2 2):=ae (fun hs=>by
     obtain⟨y1,y2,e,_⟩:=iU.1 hs;simp only[List.cons.injEq,true_and] at e;exact h7 e.2.2)
    clear h7;unfold cg;go_wp2;exact⟨rfl,C5,Or.inr ⟨n0,_,rest1,E1.out,Or.inl ⟨HNO.out,rfl⟩⟩⟩
structure KdP(kd:Kd)(T F G i:Nat):Prop where
 find:Instr.findNow .string (.string kd.word) uN.toList 0=some (some (i,.func (.func F) #[] #[]))
 enF:∀(args:Array Value) (w:World),(callFunc F args).run Tryz.prog w=.ok (.enter F args) w
 be:∀w,Calls Tryz.prog F #[.agg #[.int .i64 0,.int .i64 0,.int .i64 0,.int .i64 0,.int .i64 0,.slice none 0 0]] w fun e w'=>e=.returned (.iface T (.agg #[.int .i64 0,.int .i64 0,.int .i64 0,.int .i64 0,.int .i64 0,.slice none 0 0]))/\w.Since w.heap.size w'
 me:∀w:World,(method 368 T (.agg #[.int .i64 0,.int .i64 0,.int .i64 0,.int .i64 0,.int .i64 0,.slice none 0 0]) "loop.example/s0015/impl.form").run Tryz.prog w=.ok (G,.agg #[.int .i64 0,.int .i64 0,.int .i64 0,.int .i64 0,.int .i64 0,.slice none 0 0]) w
 enG:∀(args:Array Value) (w:World),(callFunc G args).run Tryz.prog w=.ok (.enter G args) w
 fo:∀w,Calls Tryz.prog G #[.agg #[.int .i64 0,.int .i64 0,.int .i64 0,.int .i64 0,.int .i64 0,.slice none 0 0]] w fun e w'=>e=.returned (.agg #[.int .i64 kd.op,.bool kd.ub,.bool kd.uk,.bool kd.us,.int .i64 kd.nums])/\w.Since w.heap.size w'
 ins:∀(c:Nat) (w:World),Calls Tryz.prog 65 #[.agg #[.int .i64 kd.op,.bool kd.ub,.bool kd.uk,.bool kd.us,.int .i64 kd.nums],.pointer (some ⟨c,0,none⟩)] w fun e w'=>∃g cap,e=.returned (.slice (some ⟨g,0,none⟩) kd.fs.length cap)/\w'.ownsRow (w.heap.size+1) 115 1 (.slice (some ⟨g,0,none⟩) kd.fs.length cap) kd.fs.length (aaW c kd.fs)/\w.Since w.heap.size w'
theorem iB.p{kd:Kd}(h:iB kd):∃T F G i,KdP kd T F G i:=by
 rcases h with rfl | rfl | rfl | rfl | rfl | rfl | rfl
 . exact⟨103,57,244,0,by kernel_rfl,fun _ _=>by kernel_rfl,@acF 0 0 0 0 0 none 0 0,fun _=>by kernel_rfl,fun _ _=>by kernel_rfl,afl 0 0 0 0 0 none 0 0,@jD _ false true false _⟩
 . exact⟨105,58,247,1,by kernel_rfl,fun _ _=>by kernel_rfl,@acE 0 0 0 0 0 none 0 0,fun _=>by kernel_rfl,fun _ _=>by kernel_rfl,afk 0 0 0 0 0 none 0 0,@jD _ false false false _⟩
 . exact⟨106,59,250,2,by kernel_rfl,fun _ _=>by kernel_rfl,@acD 0 0 0 0 0 none 0 0,fun _=>by kernel_rfl,fun _ _=>by kernel_rfl,afj 0 0 0 0 0 none 0 0,@jD _ false false false _⟩
 . exact⟨107,60,253,3,by kernel_rfl,fun _ _=>by kernel_rfl,@acC 0 0 0 0 0 none 0 0,fun _=>by kernel_rfl,fun _ _=>by kernel_rfl,afi 0 0 0 0 0 none 0 0,@jD _ true false false _⟩
 . exact⟨108,61,256,4,by kernel_rfl,fun _ _=>by kernel_rfl,@acB 0 0 0 0 0 none 0 0,fun _=>by kernel_rfl,fun _ _=>by kernel_rfl,afh 0 0 0 0 0 none 0 0,@jD _ false true false _⟩
 . exact⟨109,62,259,5,by kernel_rfl,fun _ _=>by kernel_rfl,@acA 0 0 0 0 0 none 0 0,fun _=>by kernel_rfl,fun _ _=>by kernel_rfl,afg 0 0 0 0 0 none 0 0,@jD _ false true true _⟩
 . exact⟨110,63,262,6,by kernel_rfl,fun _ _=>by kernel_rfl,@ac9 0 0 0 0 0 none 0 0,fun _=>by kernel_rfl,fun _ _=>by kernel_rfl,aff 0 0 0 0 0 none 0 0,@jD _ false false false _⟩
theorem iB.fs{kd:Kd}(h:iB kd):kd.fs.length<=3/\∀(j f:Nat),kd.fs[j]?=some f->1<=f/\f<=4:=by
 have key:∀fs:List Nat,(fs.all fun f=>decide (1<=f/\f<=4))=true->∀(j f:Nat),fs[j]?=some f->1<=f/\f<=4:=fun fs h j f hj=>by
  have:=List.all_eq_true.1 h f (List.mem_of_getElem? hj)
  simpa using this
 rcases h with rfl | rfl | rfl | rfl | rfl | rfl | rfl
 all_goals exact⟨by decide,key _ qd⟩
theorem agG{w:World}{c f:Nat}{z y:Int}{v v':Nat->Int}{x:Value}(B:au w c (.i z) (.i (v 1)) (.i (v 2)) (.i (v 3)) (.i (v 4)) x)(h1:1<=f)(h4:f<=4)(hv:∀g,v' g=if f=g then y else v g):au (w.setCell ⟨c,f,none⟩ (.i y)) c (.i z) (.i (v' 1)) (.i (v' 2)) (.i (v' 3)) (.i (v' 4)) x:=by
 have:f=1∨f=2∨f=3∨f=4:=om
 rcases this with rfl | rfl | rfl | rfl
 . simp only[hv];exact B.aG _
 . simp only[hv];exact B.aF _
 . simp only[hv];exact B.aK _
 . simp only[hv];exact B.aS _
theorem af9{w:World}{c f:Nat}{z:Int}{v:Nat->Int}{x:Value}(B:au w c (.i z) (.i (v 1)) (.i (v 2)) (.i (v 3)) (.i (v 4)) x)(h1:1<=f)(h4:f<=4):w.cell? (jj c f)=some (.i (v f)):=by
 have:f=1∨f=2∨f=3∨f=4:=om
 rcases this with rfl | rfl | rfl | rfl
 . exact B.c1
 . exact B.c2
 . exact B.c3
 . exact B.c4
theorem qT:(Tryz.prog.info? 48).map (·.size)=some 6:=by kernel_rfl
theorem yQ{c bl wb t m:Nat}{L:List ByteArray}{x:ByteArray}{r:List ByteArray}{w:World}(h:iy w c bl wb L t (x::r))(K:dg w m)(hmc:m≠c)(hx:∀kd,iB kd->kd.word≠x):
 Cl 81 #[.p c 0,.map (some m)] w fun e w'=>cF c w w'/\e=cg t:=by
 have sA:=bJ w (.cells #[.i 0,.i 0,.i 0,.i 0,.i 0,.n] 48);have HF:=ae (ag7 hx);go_enter Tryz.func81,Tryz.ntmps81;go_wp2_with fail;generalize w.alloc _=wA at*;refine (j7 (h.aA sA)).mono ?_;rintro e w1 ⟨B1,⟨h1,-⟩ | ⟨y,r',h1,rfl,R1⟩⟩
 . simp at h1
 simp only[List.cons.injEq] at h1;obtain⟨rfl,rfl⟩:=h1;have K1:=(K.aA sA).aM B1 hmc;have hz:(zeroValue 104).run Tryz.prog w1=.ok .nilFunc w1:=by kernel_rfl
 have hl:=rV (s:=x) jX js K1 HF.out hz;have C1:=(cF.of sA).trans B1;go_wp2_with fail;refine (mt R1).mono ?_;rintro e w2 ⟨rfl,rfl⟩;unfold cg;go_wp2;exact⟨rfl,C1,rfl⟩
theorem afJ(x:ByteArray)(r:List ByteArray)(k:Nat):wd (x::r) (1+k)=wd r k:=by
 unfold wd;rw[Nat.add_comm 1 k,List.getD_eq_getElem?_getD,List.getD_eq_getElem?_getD,List.getElem?_cons_succ]
theorem aeT{kd:Kd}{r:List ByteArray}:mJ kd (kd.word::r)↔kd.fs.length<=r.length/\(∀j,j<kd.fs.length->isInt (wd r j))/\(∀x∈r.drop kd.fs.length,dI x)/\kd.nums.toNat<=(r.drop kd.fs.length).length/\(0<=kd.nums->((r.drop kd.fs.length).length:Int)<=kd.nums):=by
 unfold mJ;rw[iT]
 constructor
 . rintro⟨is,ns,e,h1,h2,h3,h4,h5⟩
   simp only[List.cons.injEq,true_and] at e;subst e;rw[<-h1];have ed:(is++ns).drop is.length=ns:=by simp
   rw[ed];refine⟨qz,fun j hj=> ?_,h3,h4,h5⟩
   have e2:wd (is++ns) j=is[j]:=by
    unfold wd;rw[List.getD_eq_getElem?_getD,List.getElem?_append_left hj,List.getElem?_eq_getElem hj];rfl
   rw[e2];exact h2 _ (List.getElem_mem _)
 . rintro⟨h1,h2,h3,h4,h5⟩
   refine⟨r.take kd.fs.length,r.drop kd.fs.length,by rw[List.take_append_drop],by rw[List.length_take];omega,fun x hx=> ?_,h3,h4,h5⟩;obtain⟨j,hj,e⟩:=List.getElem_of_mem hx;rw[List.length_take] at hj;have h6:=h2 j om
   have e2:wd r j=x:=by
    unfold wd;rw[List.getD_eq_getElem?_getD,List.getElem?_eq_getElem om];simp only[List.getElem_take] at e;exact e
   rw[e2] at h6;exact h6
theorem abM{ws:List ByteArray}{n:Nat}(h:vk ws n)(hn:ws.length<=n):∀x∈ws,dI x:=fun x hx=>by
 obtain⟨j,hj,e⟩:=List.getElem_of_mem hx;have:=h.2 j om;unfold wd at this;rw[List.getD_eq_getElem?_getD,List.getElem?_eq_getElem hj] at this;rw[<-e];exact this
theorem adH{ws:List ByteArray}{n:Nat}(h:∀x∈ws,dI x)(hn:n<=ws.length):vk ws n:=⟨hn,fun i hi=>h _ (oW om)⟩
theorem dc.aM{w w':World}{c d:Nat}{x y z u v:Value}(h:dc w d x y z u v)(s:cF c w w')(hn:d≠c):dc w' d x y z u v:=by
 have kd:=s.block d h.lt (by simpa using hn);refine⟨(fa (a:=jj d 0) kd).trans h.c0,(fa (a:=jj d 1) kd).trans h.c1,(fa (a:=jj d 2) kd).trans h.c2,(fa (a:=jj d 3) kd).trans h.c3,(fa (a:=jj d 4) kd).trans h.c4,fun j=> ?_⟩;have:=h.f j;unfold World.frozen? at this⊢;rw[kd];exact this
theorem afT{c j f:Nat}{fs:List Nat}(h:fs[j]?=some f):(aaW c fs)[j]?=some (.p c f):=by
 unfold aaW;rw[List.getElem?_map,h];rfl
theorem ah5{w:World}{base:Nat}{e:TypeId}{size:Nat}{v:Value}{n:Nat}{xs:List Value}(h:w.ownsRow base e size v n xs):∃a cc,v=.slice a n cc:=by
 obtain⟨-,⟨e,e0⟩ | ⟨g',cap',cur,e,-⟩⟩:=h
 . exact⟨none,0,by rw[e,e0]⟩
 . exact⟨_,_,e⟩
theorem qF.aM{w w':World}{lo k c:Nat}{v:Value}{x:Nat->ByteArray}{F:Nat->Nat}{xs:List Value}(h:qF w lo v k x F xs)(s:cF c w w')(hc:c<lo):qF w' lo v k x F xs:=
 ⟨h.out.aM s hc (fun i _ hp=>Nat.le_trans h.lo (Nat.le_trans (pM h.mono (Nat.zero_le i)) hp.1)),h.mono,h.lo,Nat.le_trans h.hi s.size⟩
theorem qF.lower{w:World}{lo lo' k:Nat}{v:Value}{x:Nat->ByteArray}{F:Nat->Nat}{xs:List Value}(h:qF w lo v k x F xs)(hl:lo'<=lo):qF w lo' v k x F xs:=⟨h.out.lower hl,h.mono,Nat.le_trans hl h.lo,h.hi⟩
theorem aaM{kd:Kd}(hk:iB kd){c bl wb t m:Nat}{L:List ByteArray}{r:List ByteArray}{w:World}(h:iy w c bl wb L t (kd.word::r))(K:dg w m)(hmc:m≠c):
 Cl 81 #[.p c 0,.map (some m)] w fun e w'=>cF c w w'/\((¬mJ kd (kd.word::r)/\e=cg t)∨
  (mJ kd (kd.word::r)/\∃a cap F xs,e=.returned (.agg #[.i (pK kd (kd.word::r)).op,.i (pK kd (kd.word::r)).a,.i (pK kd (kd.word::r)).b,.i (pK kd (kd.word::r)).k,.i (pK kd (kd.word::r)).s,.slice a (r.drop kd.fs.length).length cap])/\qF w' w.heap.size (.slice a (r.drop kd.fs.length).length cap) (r.drop kd.fs.length).length (wd (r.drop kd.fs.length)) F xs/\iy w' c bl wb L t [])):=by
 obtain⟨T,F,G,i,kp⟩:=hk.p;obtain⟨hf3,hff⟩:=hk.fs;have hnu:=hk.nums;have HIFF:=ae (@aeT kd r);obtain⟨OK,hOK⟩:∃OK:Prop,OK=mJ kd (kd.word::r):=⟨_,rfl⟩;rw[<-hOK] at HIFF⊢;have hcl:=h.lt;have hbl:=h.lb;have hwl:=h.lw;have hfind:=ae kp.find;have henF:=kp.enF;have hbe:=kp.be;have hme:=kp.me;have henG:=kp.enG;have hfo:=kp.fo;have hin:=kp.ins;have sA:=bJ w (.cells #[.i 0,.i 0,.i 0,.i 0,.i 0,.n] 48);have bA:=au.new w (.i 0) (.i 0) (.i 0) (.i 0) (.i 0) (.n) 48;have ZA:=ae (show (w.alloc (.cells #[.i 0,.i 0,.i 0,.i 0,.i 0,.n] 48)).heap.size=w.heap.size+1 by simp);unfold pK;simp only;obtain⟨op,word,ub,uk,us,nums,fs⟩:=kd;simp only at*;clear kp hk hOK;go_enter Tryz.func81,Tryz.ntmps81;go_wp2_with fail;generalize w.alloc _=wA at*;refine (j7 (h.aA sA)).mono ?_;rintro e w1 ⟨B1,⟨h1,-⟩ | ⟨y,r',h1,rfl,R1⟩⟩
 . simp at h1
 simp only[List.cons.injEq] at h1;obtain⟨rfl,rfl⟩:=h1;have K1:=(K.aA sA).aM B1 hmc;have hl:=pI (s:=word) jX js K1 (i:=i) (val:=.func (.func F) #[] #[]) hfind.out;have C1:=(cF.of sA).trans B1;have hd0:w.heap.size≠c:=om
 have b1:=bA.aM B1 hd0;have z1:=B1.size;clear K1 K h;go_wp2_with fail;refine (hbe w1).mono ?_;rintro e w2 ⟨rfl,s2⟩;go_wp2_with fail;refine (hfo w2).mono ?_;rintro e w3 ⟨rfl,s3⟩;have b3:=(b1.aA s2).aA s3;have R3:=(R1.aA s2).aA s3;have C3:=(C1.aY s2).aY s3;have z3:=s3.size;have z2:=s2.size;have sB:w3.S ((w3.alloc (.cells #[.i op,.bool ub,.bool uk,.bool us,.i nums] 70)).alloc (.cells #[.i op,.i 0,.i 0,.i 0,.i 0,.n] 48)):=(bJ _ _).alloc qz _;have sB1:(w3.alloc (.cells #[.i op,.bool ub,.bool uk,.bool us,.i nums] 70)).Since (w3.alloc (.cells #[.i op,.bool ub,.bool uk,.bool us,.i nums] 70)).heap.size ((w3.alloc (.cells #[.i op,.bool ub,.bool uk,.bool us,.i nums] 70)).alloc (.cells #[.i op,.i 0,.i 0,.i 0,.i 0,.n] 48)):=bJ _ _;have fB:=(dc.new w3 (.i op) (.bool ub) (.bool uk) (.bool us) (.i nums) 70).aA sB1;have nB:=au.new (w3.alloc (.cells #[.i op,.bool ub,.bool uk,.bool us,.i nums] 70)) (.i op) (.i 0) (.i 0) (.i 0) (.i 0) (.n) 48;rw[show (w3.alloc (.cells #[.i op,.bool ub,.bool uk,.bool us,.i nums] 70)).heap.size=w3.heap.size+1 by simp] at nB;have ZB:=ae (show ((w3.alloc (.cells #[.i op,.bool ub,.bool uk,.bool us,.i nums] 70)).alloc (.cells #[.i op,.i 0,.i 0,.i 0,.i 0,.n] 48)).heap.size=w3.heap.size+1+1 by simp);have b4:=b3.aA sB;have R4:=R3.aA sB;have C4:=C3.aY sB;obtain⟨p0,p1,p2,p3,p4⟩:=fB.g;clear sB1 hl;go_wp2_with fail;generalize (w3.alloc _).alloc _=w4 at*;generalize w3.heap.size=df at*;refine (hin (df+1) w4).mono ?_;rintro e w5 ⟨gp,capp,rfl,OP,s5⟩;have hgp:=OP.lt gp rfl
 have PC:Hid (∀(j f:Nat),fs[j]?=some f->w5.cell? (jj gp j)=some (.p (df+1) f)):=ae (fun j f h=>by
  have e1:=(@World.ownsRow.cells _ _ _ _ _ _ _ OP) (g:=gp) rfl _ _ (afT h);rw[Go.WideShapes.add_plain,Nat.zero_add] at e1;exact e1)
 have b5:=ae (b4.aA s5);have f5:=ae (fB.aA s5);have n5:=ae (nB.aA s5);have R5:=ae (R4.aA s5);have C5:=C4.aY s5;have hfsz:(fs.length:Int)<=3:=om
 have HW4:Hid (w4.heap.size=df+1+1):=ZB;have HDF:Hid (w.heap.size<df):=ae (by have:=ZA.out;omega);have HGP:Hid (df+1<gp):=ae (by have:=ZB.out;omega);clear p0 p1 p2 p3 p4 OP hbe hfo hin hme henF henG b4 fB nB R4 ZB;go_wp2_with fail
 go_loopw [32] (fun i wr=>∃k:Nat,k<=fs.length/\k<=r.length/\i=.i (k:Int)/\cF c w wr/\gp<wr.heap.size/\Hid (au wr w.heap.size (.i 0) (.i 0) (.i 0) (.i 0) (.i 0) (.n))/\Hid (dc wr df (.i op) (.bool ub) (.bool uk) (.bool us) (.i nums))/\Hid (au wr (df+1) (.i op) (.i (fV fs (word::r) k 1)) (.i (fV fs (word::r) k 2)) (.i (fV fs (word::r) k 3)) (.i (fV fs (word::r) k 4)) (.n))/\Hid (∀(j f:Nat),fs[j]?=some f->wr.cell? (jj gp j)=some (.p (df+1) f))/\Hid (iy wr c bl wb L t (r.drop k))/\Hid (∀j,j<k->isInt (wd r j))) (fun i _=>fs.length-(intOf i).toNat)
 case atStart=>exact⟨0,Nat.zero_le _,Nat.zero_le _,rfl,C5,hgp.2,b5,f5,n5,PC,R5,ae (fun j hj=>absurd hj om)⟩
 case round=>
  clear C5 b5 f5 n5 PC R5;obtain⟨k,hk,hkr,rfl,C,hgl,b6,f6,n6,pc,R6,HI⟩:=hrel;have hdf:=HDF.out;have hgpd:=HGP.out
  by_cases hlt:k<fs.length
  . have hz:(k:Int)<(fs.length:Int):=om
    obtain⟨f,hf⟩:∃f,fs[k]?=some f:=⟨_,List.getElem?_eq_getElem hlt⟩;have r1:=pc.out k f hf;obtain⟨h1f,h4f⟩:=hff k f hf;have HF:=ae hf;clear hf;go_wp2_with fail;refine (nG R6.out).mono ?_;rintro e w7 ⟨B7,⟨h7,rfl⟩ | ⟨x,r7,h7,i7,rfl,R7⟩⟩
    . have HNO:Hid (¬OK):=ae (fun ho=>by
       obtain⟨hl,hi,-⟩:=HIFF.out.1 ho;refine h7 (wd r k) (r.drop (k+1)) ?_ (hi k hlt);rw[List.drop_eq_getElem_cons om];unfold wd;rw[List.getD_eq_getElem?_getD,List.getElem?_eq_getElem om]
       rfl)
      clear h7;unfold cg;go_wp2;exact⟨rfl,C.trans B7,Or.inl ⟨HNO.out,rfl⟩⟩
    obtain⟨hkl,hxw,hr7⟩:=ac3 h7;have n7:=n6.out.aM B7 om;have cf:=af9 n7 h1f h4f;have ff:=n7.f f;obtain⟨V,hV⟩:∃V,dv x x.size=V:=⟨_,rfl⟩;rw[hV];have BS:cF (df+1) w7 (w7.setCell (jj (df+1) f) (.i (V:Int))):=(cF.refl _ w7).set f _
    have n8:=ae (agG (v':=fV fs (word::r) (k+1)) n7 h1f h4f (y:=(V:Int)) (fun g=>by
     rw[fV,HF.out,afJ,hxw,hV];simp only[Option.some.injEq]))
    have z7:=B7.size;have z8:=BS.size;have R8:=ae (R7.aI BS om om om);have R8':Hid (iy (w7.setCell (jj (df+1) f) (.i (V:Int))) c bl wb L t (r.drop (k+1))):=ae (by rw[hr7];exact R8.out);have b8:=ae ((b6.out.aM B7 om).aM BS om);have f8:=ae ((f6.out.aM B7 om).aM BS om);have C8:cF c w (w7.setCell (jj (df+1) f) (.i (V:Int))):=((C.trans B7).aR BS.c (fun q e=>by omega))
    have PC8:Hid (∀(j f':Nat),fs[j]?=some f'->(w7.setCell (jj (df+1) f) (.i (V:Int))).cell? (jj gp j)=some (.p (df+1) f')):=ae (fun j f' h=>by
     have e1:=pc.out j f' h;have e2:(w7.setCell (jj (df+1) f) (.i (V:Int))).heap[gp]?=wr.heap[gp]?:=(BS.block gp om (by simp;omega)).trans (B7.block gp hgl (by simp;omega));exact (fa (a:=jj gp j) e2).trans e1)
    have HI8:Hid (∀j,j<k+1->isInt (wd r j)):=ae (fun j hj=>by
     by_cases e:j=k
     . subst e;rw[hxw];exact i7
     . exact HI.out j om)
    have hgl8:gp<(w7.setCell (jj (df+1) f) (.i (V:Int))).heap.size:=om
    clear hV i7 h7 hxw hr7 R7 BS R8;go_wp2;go_roundw
    case rel=>exact⟨k+1,om,om,by go_num,C8,hgl8,b8,f8,n8,PC8,R8',HI8⟩
    case measure=>simp[intOf];omega
  . have e:k=fs.length:=om
    subst e;have hz:¬((fs.length:Int)<(fs.length:Int)):=om
    have q4:=f6.out.c4;obtain⟨D,hD⟩:∃D,r.drop fs.length=D:=⟨_,rfl⟩
    have HIFF2:Hid (OK↔((∀x∈D,dI x)/\nums.toNat<=D.length/\(0<=nums->(D.length:Int)<=nums))):=ae ⟨fun ho=>by
     have:=HIFF.out.1 ho;rw[hD] at this;exact this.2.2,fun ho=>HIFF.out.2 (by rw[hD];exact⟨hkr,HI.out,ho⟩)⟩
    rw[hD] at R6;have HDD:=ae hD;have hDl:=R6.out.wl;obtain⟨cn,hcn⟩:∃cn,cn=if nums=-1 then D.length else nums.toNat:=⟨_,rfl⟩
    have hcnt:nums=(cn:Int)∨(nums=-1/\cn=D.length):=by
     rcases hnu with h9 | h9
     . right;exact⟨h9,by rw[hcn,if_pos h9]⟩
     . left;rw[hcn,if_neg om];omega
    have hcnl:cn<=100001:=by
     rcases hcnt with h9 | h9<;>omega
    have JN:=aaL R6.out hcnt om;have HCN:=ae hcnt;clear hcn hcnt hD;go_wp2_with fail;refine JN.mono ?_;rintro e w7 ⟨B7,⟨h7,rfl⟩ | ⟨h7,v7,F7,x7,rfl,O7,hv7,R7⟩⟩
    . have HNO:Hid (¬OK):=ae (fun ho=>by
       obtain⟨h8,h9,h10⟩:=HIFF2.out.1 ho;refine h7 (adH h8 ?_)
       rcases HCN.out with e | ⟨-,e⟩<;>omega)
      clear h7 JN;unfold cg;go_wp2;exact⟨rfl,C.trans B7,Or.inl ⟨HNO.out,rfl⟩⟩
    have n7:=n6.out.aM B7 om;have c5:=n7.c5;have ff:=n7.f 5;have hv:=O7.out.own;obtain⟨a7,cap7,rfl⟩:=ah5 hv;have BS:cF (df+1) w7 (w7.setCell (jj (df+1) 5) (.slice a7 cn cap7)):=(cF.refl _ w7).set 5 _;have n8:=n7.aO (.slice a7 cn cap7);have z7:=B7.size;have z8:=BS.size;have R8:=R7.aI BS om om om;have b8:=(b6.out.aM B7 om).aM BS om;have C8:cF c w (w7.setCell (jj (df+1) 5) (.slice a7 cn cap7)):=((C.trans B7).aR BS.c (fun q e=>by omega));have H7:=ae h7;have O7':=ae O7;have BS8:=ae BS;clear JN h7 hv hv7 O7;go_wp2_with fail;generalize hw8:w7.setCell (jj (df+1) 5) (.slice a7 cn cap7)=w8 at*;refine (oh R8).mono ?_;rintro e w9 ⟨rfl,⟨h9,rfl⟩ | ⟨h9,rfl⟩⟩
    rotate_left
    . have HNO:Hid (¬OK):=ae (fun ho=>by
       obtain⟨h8,h10,h11⟩:=HIFF2.out.1 ho;refine h9 (List.drop_of_length_le ?_)
       rcases HCN.out with e | ⟨-,e⟩
       . have:=h11 om;omega
       . omega)
      clear h9;unfold cg;go_wp2;exact⟨rfl,C8,Or.inl ⟨HNO.out,rfl⟩⟩
    have hDle:D.length<=cn:=by
     have:=congrArg List.length h9;rw[List.length_drop] at this
     simp at this
     omega
    have hcD:cn=D.length:=by have:=H7.out.1;omega
    have HOK:Hid OK:=ae (HIFF2.out.2 ⟨abM H7.out hDle,by rcases HCN.out with e | ⟨e,-⟩<;>omega,fun h0=>by rcases HCN.out with e | ⟨e,-⟩<;>omega⟩);obtain⟨m0,m1,m2,m3,m4,m5⟩:=n8.g;obtain⟨k0,k1,k2,k3,k4,k5⟩:=b8.g;obtain⟨l0,l1,l2,l3,l4,l5⟩:=b8.k;have R9:=ae R8;rw[h9] at R9;subst hcD;clear h9 hDle R8 R7 BS;go_wp2;have rC:=(((((b8.aE (.i op)).aG (.i (fV fs (word::r) fs.length 1))).aF (.i (fV fs (word::r) fs.length 2))).aK (.i (fV fs (word::r) fs.length 3))).aS (.i (fV fs (word::r) fs.length 4))).aO (.slice a7 D.length cap7);refine bodyPost_ret (dn rfl Tryz.underlying48 rfl qT _ _ _ _ _ _ _ _ _ rfl rC) rfl ?_;have M:af w9 _ w.heap.size:=((((((af.refl w9 _).setCell 0 (.i op)).setCell 1 (.i (fV fs (word::r) fs.length 1))).setCell 2 (.i (fV fs (word::r) fs.length 2))).setCell 3 (.i (fV fs (word::r) fs.length 3))).setCell 4 (.i (fV fs (word::r) fs.length 4))).setCell 5 (.slice a7 D.length cap7);have BT:=((((((cF.refl w.heap.size w9).set 0 (.i op)).set 1 (.i (fV fs (word::r) fs.length 1))).set 2 (.i (fV fs (word::r) fs.length 2))).set 3 (.i (fV fs (word::r) fs.length 3))).set 4 (.i (fV fs (word::r) fs.length 4))).set 5 (.slice a7 D.length cap7);refine⟨C8.marked M (Nat.le_refl _),Or.inr ⟨HOK.out,a7,cap7,F7,x7, ?_, ?_, ?_⟩⟩
    . rw[HDD.out]
    . rw[HDD.out]
      exact (((O7'.out.aM BS8.out om).aM BT om).lower om)
    . exact R9.out.aI BT om om om
def mA(prev:List (Nat×List ByteArray))(ws:List ByteArray):Prop:=
 (prev=[]/\cE ws bS 2 0 0)∨
 ∃h t,prev=h::t/\((t.length<dv (wd h.2 1) (wd h.2 1).size/\cE ws ie 0 2 2)∨
  (¬t.length<dv (wd h.2 1) (wd h.2 1).size/\(∀x,prev.getLast?=some x->x.2.head?≠some cj)/\(eW ws∨cE ws cj 1 0 0)))
def dQ(ls:List (Nat×List ByteArray)):Prop:=∀(pre:List (Nat×List ByteArray)) x rest,ls=pre++x::rest->mA pre x.2
theorem dQ.nil:dQ []:=fun pre x rest e=>by simp at e
theorem dQ.snoc{ls:List (Nat×List ByteArray)}{x:Nat×List ByteArray}(h:dQ ls)(hx:mA ls x.2):dQ (ls++[x]):=fun pre y rest e=>by
 rcases List.eq_nil_or_concat rest with rfl | ⟨r',z,rfl⟩
 . have e2:=e
   obtain⟨rfl,e3⟩:=List.append_inj' e2 rfl;simp only[List.cons.injEq,and_true] at e3;subst e3;exact hx
 . have e2:ls++[x]=(pre++y::r')++[z]:=by rw[e];simp
   obtain⟨rfl,-⟩:=List.append_inj' e2 rfl;exact h pre y r' rfl
def kP(ls:List (Nat×List ByteArray))(p:Nat):Prop:=∃pre ws rest,ls=pre++(p,ws)::rest/\dQ pre/\¬mA pre ws
def kn(ls:List (Nat×List ByteArray)):Prop:=dQ ls/\∀x,ls.getLast?=some x->x.2.head?≠some cj
theorem kP.not{ls:List (Nat×List ByteArray)}{p:Nat}(h:kP ls p)(k:dQ ls):False:=by
 obtain⟨pre,ws,rest,e,-,hn⟩:=h;exact hn (k pre _ rest e)
theorem acd{α:Type}{P:List α->Prop}(h0:P [])(hs:∀l x,P l->P (l++[x]))(l:List α):P l:=by
 have key:∀r:List α,P r.reverse:=by
  intro r
  induction r with
  | nil=>exact h0
  | cons x xs ih=>rw[List.reverse_cons];exact hs _ _ ih
 have:=key l.reverse;rw[List.reverse_reverse] at this;exact this
theorem nU{α:Type}(x y:α)(l:List α):(x::(l++[y])).getLast?=some y:=by
 rw[show x::(l++[y])=(x::l)++[y] from rfl,List.getLast?_concat]
def vs(bs:List (Nat×List ByteArray)):Prop:=∀b∈bs,∃x1 x2,b.2=[ie,x1,x2]/\dI x1/\dI x2
def vn(ns:List (Nat×List ByteArray)):Prop:=∀x∈ns,eW x.2
structure ke(ls:List (Nat×List ByteArray))(x1 x2 xo:ByteArray)(bs ns:List (Nat×List ByteArray)):Prop where
 ex:∃n0 no,ls=(n0,[bS,x1,x2])::(bs++ns++[(no,[cj,xo])])
 i1:isInt x1
 i2:isInt x2
 io:isInt xo
 len:bs.length=dv x1 x1.size
 box:vs bs
 nod:vn ns
theorem eW.head{ws:List ByteArray}(h:eW ws):∃kd,iB kd/\ws.head?=some kd.word/\mJ kd ws:=by
 obtain⟨kd,hk,ho⟩:=h;exact⟨kd,hk,ho.1,ho⟩
theorem eW.nout{ws:List ByteArray}(h:eW ws):ws.head?≠some cj:=by
 obtain⟨kd,hk,e,-⟩:=h.head;rw[e];simp;exact hk.nout
theorem mz{ws:List ByteArray}:mA [] ws↔cE ws bS 2 0 0:=by
 constructor
 . rintro (⟨-,h⟩ | ⟨h,t,e,-⟩)
   . exact h
   . simp at e
 . exact fun h=>Or.inl ⟨rfl,h⟩
theorem xK{n0:Nat}{x1 x2:ByteArray}{t:List (Nat×List ByteArray)}{ws:List ByteArray}(h:t.length<dv x1 x1.size):mA ((n0,[bS,x1,x2])::t) ws↔cE ws ie 0 2 2:=by
 have e1:wd [bS,x1,x2] 1=x1:=rfl
 constructor
 . rintro (⟨e,-⟩ | ⟨h',t',e,h2⟩)
   . simp at e
   . simp only[List.cons.injEq] at e
     obtain⟨rfl,rfl⟩:=e;simp only[e1] at h2
     rcases h2 with ⟨-,h2⟩ | ⟨h2,-⟩
     . exact h2
     . exact absurd h h2
 . exact fun hs=>Or.inr ⟨_,_,rfl,Or.inl ⟨by simp only[e1];exact h,hs⟩⟩
theorem kE{n0:Nat}{x1 x2:ByteArray}{t:List (Nat×List ByteArray)}{ws:List ByteArray}(h:¬t.length<dv x1 x1.size)(hl:∀x,((n0,[bS,x1,x2])::t).getLast?=some x->x.2.head?≠some cj):mA ((n0,[bS,x1,x2])::t) ws↔(eW ws∨cE ws cj 1 0 0):=by
 have e1:wd [bS,x1,x2] 1=x1:=rfl
 constructor
 . rintro (⟨e,-⟩ | ⟨h',t',e,h2⟩)
   . simp at e
   . simp only[List.cons.injEq] at e
     obtain⟨rfl,rfl⟩:=e;simp only[e1] at h2
     rcases h2 with ⟨h2,-⟩ | ⟨-,-,h2⟩
     . exact absurd h2 h
     . exact h2
 . exact fun hs=>Or.inr ⟨_,_,rfl,Or.inr ⟨by simp only[e1];exact h,hl,hs⟩⟩
theorem acl{n0:Nat}{x1 x2:ByteArray}{t:List (Nat×List ByteArray)}{y:Nat×List ByteArray}{ws:List ByteArray}(h:¬(t++[y]).length<dv x1 x1.size)(hy:y.2.head?=some cj):¬mA ((n0,[bS,x1,x2])::(t++[y])) ws:=by
 have e1:wd [bS,x1,x2] 1=x1:=rfl;rintro (⟨e,-⟩ | ⟨h',t',e,h2⟩)
 . simp at e
 . simp only[List.cons.injEq] at e
   obtain⟨rfl,rfl⟩:=e;simp only[e1] at h2
   rcases h2 with ⟨h2,-⟩ | ⟨-,h2,-⟩
   . exact h h2
   . exact h2 y (nU _ _ _) hy
theorem mE{n0:Nat}{x1 x2:ByteArray}{bs ns:List (Nat×List ByteArray)}(hb:vs bs)(hn:vn ns):∀x,((n0,[bS,x1,x2])::(bs++ns)).getLast?=some x->x.2.head?≠some cj:=fun x hx=>by
 have hm:=List.mem_of_getLast? hx
 rcases List.mem_cons.1 hm with rfl | hm
 . simp[bS,cj]
 . rcases List.mem_append.1 hm with hm | hm
   . obtain⟨y1,y2,e,-⟩:=hb x hm
     rw[e];simp[ie,cj]
   . exact (hn x hm).nout
theorem tI{n0:Nat}{x1 x2:ByteArray}{bs ns:List (Nat×List ByteArray)}(i1:isInt x1)(i2:isInt x2)(hb:vs bs)(hn:vn ns)(hl:bs.length<=dv x1 x1.size)(hl2:ns≠[]->bs.length=dv x1 x1.size):dQ ((n0,[bS,x1,x2])::(bs++ns)):=by
 have k0:∀bs:List (Nat×List ByteArray),vs bs->bs.length<=dv x1 x1.size->dQ ((n0,[bS,x1,x2])::bs):=by
  refine acd ?_ ?_
  . intro _ _
    exact (dQ.nil).snoc (x:=(n0,[bS,x1,x2])) (mz.2 (fR.2 ⟨x1,x2,rfl,i1,i2⟩))
  . intro bs b ih hb hl
    have hb':vs bs:=fun y hy=>hb y (by simp[hy])
    have hlen:bs.length<dv x1 x1.size:=by simp at hl;omega
    exact (ih hb' om).snoc (x:=b) ((xK hlen).2 (iU.2 (hb b qz)))
 have key:∀ns:List (Nat×List ByteArray),vn ns->(ns≠[]->bs.length=dv x1 x1.size)->dQ ((n0,[bS,x1,x2])::(bs++ns)):=by
  refine acd ?_ ?_
  . intro _ _
    rw[List.append_nil];exact k0 bs hb hl
  . intro ns y ih hn hl2
    have hn':vn ns:=fun z hz=>hn z (by simp[hz])
    have hlen:=hl2 qz;have h1:=(ih hn' (fun _=>hlen)).snoc (x:=y) ((kE (by rw[List.length_append];omega) (mE hb hn')).2 (Or.inl (hn y qz)));rw[List.cons_append,List.append_assoc] at h1;exact h1
 exact key ns hn hl2
theorem ke.may{ls:List (Nat×List ByteArray)}{x1 x2 xo:ByteArray}{bs ns:List (Nat×List ByteArray)}(h:ke ls x1 x2 xo bs ns):dQ ls:=by
 obtain⟨n0,no,e⟩:=h.ex;have h1:=(tI (n0:=n0) h.i1 h.i2 h.box h.nod (Nat.le_of_eq h.len) (fun _=>h.len)).snoc (x:=(no,[cj,xo])) ((kE (by rw[List.length_append,h.len];omega) (mE h.box h.nod)).2 (Or.inr (iS.2 ⟨xo,rfl,h.io⟩)));rw[e];exact h1
theorem ke.last{ls:List (Nat×List ByteArray)}{x1 x2 xo:ByteArray}{bs ns:List (Nat×List ByteArray)}(h:ke ls x1 x2 xo bs ns):∃no,ls.getLast?=some (no,[cj,xo]):=by
 obtain⟨n0,no,e⟩:=h.ex;exact⟨no,by rw[e];exact nU _ _ _⟩
def aiF(x:ByteArray):Kd:=([kd1,kd2,kd3,kd4,kd5,kd6,kd7].find? fun k=>decide (x=k.word)).getD kd1
def kF:List ByteArray->Kd
 | []=>kd1
 | x::_=>aiF x
theorem act{ws:List ByteArray}{kd:Kd}(h:iB kd)(k:mJ kd ws):kF ws=kd:=by
 match ws,k.1 with
 | x::_,e=>
   obtain rfl:x=kd.word:=Option.some.inj e
   show aiF kd.word=kd
   rcases h with rfl | rfl | rfl | rfl | rfl | rfl | rfl<;>kernel_rfl
theorem xT{ws:List ByteArray}(h:eW ws):iB (kF ws)/\mJ (kF ws) ws:=by
 obtain⟨kd,a,b⟩:=h;rw[act a b];exact⟨a,b⟩
def nD(ws:List ByteArray):ay:=pK (kF ws) ws
def vw(ws:List ByteArray):List ByteArray:=ws.drop (1+(kF ws).fs.length)
structure kM(w:World)(lo:Nat)(v:Value)(k:Nat)(N:Nat->List ByteArray)(xs:List Value)(zs:List (List Value)):Prop where
 zl:zs.length=k
 own:w.ownsRow lo 48 6 v k xs
 at_:∀i,i<k->∃a cap xV,xs[i*6]?=some (.int .i64 (nD (N i)).op)/\xs[i*6+1]?=some (.int .i64 (nD (N i)).a)/\xs[i*6+2]?=some (.int .i64 (nD (N i)).b)/\xs[i*6+3]?=some (.int .i64 (nD (N i)).k)/\xs[i*6+4]?=some (.int .i64 (nD (N i)).s)/\xs[i*6+5]?=some (.slice a (vw (N i)).length cap)/\
  cU w 0 (.slice a (vw (N i)).length cap) (vw (N i)).length (wd (vw (N i))) (fun _ q=>lo<=q/\v.ownBlock≠some q) xV/\(∀g,(Value.slice a (vw (N i)).length cap).ownBlock=some g->lo<=g/\v.ownBlock≠some g)/\zs[i]?=some (.slice a (vw (N i)).length cap::xV)
section
variable{w w' w1:World}{lo k:Nat}{v v':Value}{N:Nat->List ByteArray}{xs:List Value}{zs:List (List Value)}
theorem kM.aR{R:Nat->Prop}(h:kM w lo v k N xs zs)(s:jP R w w')(hR:∀q,R q->q<lo):kM w' lo v k N xs zs:=by
 refine⟨h.zl, ?_,fun i hi=> ?_⟩
 . obtain⟨hl,h1 | ⟨g,cap,cur,rfl,hb',hh,hr⟩⟩:=h.own
   . exact⟨hl,Or.inl h1⟩
   . exact⟨hl,Or.inr ⟨g,cap,cur,rfl,hb',(s.block g (Array.getElem?_eq_some_iff.1 hh).1 (fun e=>by have:=hR g e;omega)).trans hh,hr⟩⟩
 . obtain⟨a,cap,xV,h1,h2,h3,h4,h5,h6,O,ho,hz⟩:=h.at_ i hi
   exact⟨a,cap,xV,h1,h2,h3,h4,h5,h6,O.aR s (fun g e e'=>by have:=hR g e';have:=(ho g e).1;omega) (fun _ g hp e'=>by have:=hR g e';have:=hp.1;omega),ho,hz⟩
theorem kM.congr{N':Nat->List ByteArray}(h:kM w lo v k N xs zs)(hN:∀i,i<k->N i=N' i):kM w lo v k N' xs zs:=
 ⟨h.zl,h.own,fun i hi=>by rw[<-hN i hi];exact h.at_ i hi⟩
theorem kM.snoc(h:kM w lo v k N xs zs)(s1:w.S w1)(hs:w.heap.size<w1.heap.size)(g:w1.grownBy w' v.ownBlock){a:Option Addr}{cap:Nat}{xV:List Value}
 (own:w'.ownsRow lo 48 6 v' (k+1) (xs++[.i (nD (N k)).op,.i (nD (N k)).a,.i (nD (N k)).b,.i (nD (N k)).k,.i (nD (N k)).s,.slice a (vw (N k)).length cap]))
 (hat:v'.ownBlock=v.ownBlock∨v'.ownBlock=some w1.heap.size)(A:cU w 0 (.slice a (vw (N k)).length cap) (vw (N k)).length (wd (vw (N k))) (fun _ q=>lo<=q/\v.ownBlock≠some q) xV)(ho:∀g,(Value.slice a (vw (N k)).length cap).ownBlock=some g->lo<=g/\v.ownBlock≠some g):
 kM w' lo v' (k+1) N (xs++[.i (nD (N k)).op,.i (nD (N k)).a,.i (nD (N k)).b,.i (nD (N k)).k,.i (nD (N k)).s,.slice a (vw (N k)).length cap]) (zs++[.slice a (vw (N k)).length cap::xV]):=by
 have hzl:=h.zl;have hl:=h.own.1
 have nv':∀q,q<w.heap.size->v.ownBlock≠some q->v'.ownBlock≠some q:=fun q hq hn e=>by
  rcases hat with h | h
  . exact hn (h.symm.trans e)
  . rw[e] at h;simp at h;omega
 have kb:∀q,q<w.heap.size->v.ownBlock≠some q->w'.heap[q]?=w.heap[q]?:=fun q hq hn=>(g.block q om (fun e=>hn e.symm)).trans (s1.block q hq)
 have mv:∀ {a:Option Addr} {n cap:Nat} {x:Nat->ByteArray} {xV:List Value},cU w 0 (.slice a n cap) n x (fun _ q=>lo<=q/\v.ownBlock≠some q) xV->(∀g,(Value.slice a n cap).ownBlock=some g->lo<=g/\v.ownBlock≠some g)->cU w' 0 (.slice a n cap) n x (fun _ q=>lo<=q/\v'.ownBlock≠some q) xV/\(∀g,(Value.slice a n cap).ownBlock=some g->lo<=g/\v'.ownBlock≠some g):=fun {a n cap x xV} O ho=>by
  refine⟨?_,fun q e=>⟨(ho q e).1,nv' q (O.own.lt q e).2 (ho q e).2⟩⟩;have r2:=O.imp' (p':=fun _ q=>(lo<=q/\v.ownBlock≠some q)/\v'.ownBlock≠some q) (fun _ q _ hq hp=>⟨hp,nv' q hq hp.2⟩);have r3:=r2.blocks (w':=w') (by have:=g.size;omega) (fun q e=>kb q (O.own.lt q e).2 (ho q e).2) (fun _ q _ hq hp=>kb q hq hp.1.2);exact r3.imp' (fun _ q _ _ hp=>⟨hp.1.1,hp.2⟩)
 refine⟨by simp[hzl],own,fun i hi=> ?_⟩
 by_cases e:i=k
 . subst e
   obtain⟨m1,m2⟩:=mv A ho;refine⟨a,cap,xV, ?_, ?_, ?_, ?_, ?_, ?_,m1,m2,by rw[List.getElem?_append_right om,hzl];simp⟩
   all_goals (rw[List.getElem?_append_right om,hl];simp)
 . obtain⟨a',cap',xV',h1,h2,h3,h4,h5,h6,O,ho',hz⟩:=h.at_ i om
   obtain⟨m1,m2⟩:=mv O ho';exact⟨a',cap',xV',by rw[List.getElem?_append_left om];exact h1,by rw[List.getElem?_append_left om];exact h2,by rw[List.getElem?_append_left om];exact h3,by rw[List.getElem?_append_left om];exact h4,by rw[List.getElem?_append_left om];exact h5,by rw[List.getElem?_append_left om];exact h6,m1,m2,by rw[List.getElem?_append_left om];exact hz⟩
end
structure ma(w:World)(lo hi d:Nat)(vL vH:Value)(lL lH:List ByteArray)(xL xH:List Value):Prop where
 L:cU w lo vL lL.length (wd lL) (fun _ q=>(lo<=q/\q≠d/\vH.ownBlock≠some q)/\q<hi) xL
 H:cU w lo vH lH.length (wd lH) (fun _ q=>(lo<=q/\q≠d/\vL.ownBlock≠some q)/\q<hi) xH
 sep:∀g,vL.ownBlock=some g->vH.ownBlock≠some g
 dL:vL.ownBlock≠some d
 dH:vH.ownBlock≠some d
 oL:∀g,vL.ownBlock=some g->g<hi
 oH:∀g,vH.ownBlock=some g->g<hi
 A:oz lo hi (xL++xH)
theorem vl.q{w:World}{lo d:Nat}{vL vH:Value}{lL lH:List ByteArray}{xL xH:List Value}(h:vl w lo d vL vH lL lH xL xH):ma w lo w.heap.size d vL vH lL lH xL xH:=
 ⟨h.T.W.imp' (fun _ _ _ hq hp=>⟨hp,hq⟩),h.T.B.imp' (fun _ _ _ hq hp=>⟨hp,hq⟩),h.T.sep,h.T.dW,h.T.dB,fun g e=>(h.T.W.own.lt g e).2,fun g e=>(h.T.B.own.lt g e).2,h.A⟩
theorem ma.aR{w w':World}{lo hi d:Nat}{vL vH:Value}{lL lH:List ByteArray}{xL xH:List Value}{R:Nat->Prop}(h:ma w lo hi d vL vH lL lH xL xH)(k:jP R w w')(hR:∀q,R q->q<lo∨q=d∨hi<=q):ma w' lo hi d vL vH lL lH xL xH:=by
 have n1:∀q,lo<=q->q≠d->q<hi->¬R q:=fun q h1 h2 h3 e=>by have:=hR q e;omega
 exact⟨h.L.aR k (fun g e=>n1 g (h.L.own.lt g e).1 (fun e'=>h.dL (e'▸e)) (h.oL g e)) (fun _ q hq=>n1 q hq.1.1 hq.1.2.1 hq.2),h.H.aR k (fun g e=>n1 g (h.H.own.lt g e).1 (fun e'=>h.dH (e'▸e)) (h.oH g e)) (fun _ q hq=>n1 q hq.1.1 hq.1.2.1 hq.2),h.sep,h.dL,h.dH,h.oL,h.oH,h.A⟩
theorem jP.of_since{w w':World}(s:w.S w'):jP (fun _=>False) w w':=⟨s.os,s.tape,s.output,s.size,fun q hq _=>s.block q hq⟩
theorem ma.aA{w w':World}{lo hi d:Nat}{vL vH:Value}{lL lH:List ByteArray}{xL xH:List Value}(h:ma w lo hi d vL vH lL lH xL xH)(s:w.S w'):ma w' lo hi d vL vH lL lH xL xH:=h.aR (jP.of_since s) (fun _ e=>e.elim)
structure nx(w:World)(q cq:Nat)(ws:List ByteArray):Prop where
 c:∀(j:Nat) (x:ByteArray),ws[j]?=some x->w.cell? ⟨q,j,none⟩=some (.string x)
 z:∀x∈ws,x.size<=100000
 p:0<ws.length
 l:ws.length<=100001
 cap:ws.length<=cq
theorem nx.aA{w w':World}{q cq:Nat}{ws:List ByteArray}(h:nx w q cq ws)(s:w.S w'):nx w' q cq ws:=
 ⟨fun j x hx=>(s.cell (a:=jj q j) (gz _ _ (h.c j x hx))).trans (h.c j x hx),h.z,h.p,h.l,h.cap⟩
theorem nx.shape{w:World}{q cq:Nat}{ws:List ByteArray}(h:nx w q cq ws)(nm:ByteArray)(ints least:Nat)(most:Int)(hi:ints<=10)(hl:least<=10)(hm:-1<=most)(hm':most<=10):
 Cl 69 #[.s q ws.length cq,.string nm,.i (ints:Int),.i (least:Int),.i most] w fun e w'=>iH w (cE ws nm ints least most) e w':=
 adp (fun j x hx=>⟨rfl,by rw[Nat.zero_add];exact h.c j x hx⟩) h.z h.p h.l hi hl hm hm'
theorem aba{ws:List ByteArray}:eW ws↔(mJ kd1 ws∨mJ kd2 ws∨mJ kd3 ws∨mJ kd4 ws∨mJ kd5 ws∨mJ kd6 ws∨mJ kd7 ws):=by
 constructor
 . rintro⟨kd,rfl | rfl | rfl | rfl | rfl | rfl | rfl,h⟩
   . exact Or.inl h
   . exact Or.inr (Or.inl h)
   . exact Or.inr (Or.inr (Or.inl h))
   . exact Or.inr (Or.inr (Or.inr (Or.inl h)))
   . exact Or.inr (Or.inr (Or.inr (Or.inr (Or.inl h))))
   . exact Or.inr (Or.inr (Or.inr (Or.inr (Or.inr (Or.inl h)))))
   . exact Or.inr (Or.inr (Or.inr (Or.inr (Or.inr (Or.inr h)))))
 . rintro (h | h | h | h | h | h | h)
   . exact⟨_,Or.inl rfl,h⟩
   . exact⟨_,Or.inr (Or.inl rfl),h⟩
   . exact⟨_,Or.inr (Or.inr (Or.inl rfl)),h⟩
   . exact⟨_,Or.inr (Or.inr (Or.inr (Or.inl rfl))),h⟩
   . exact⟨_,Or.inr (Or.inr (Or.inr (Or.inr (Or.inl rfl)))),h⟩
   . exact⟨_,Or.inr (Or.inr (Or.inr (Or.inr (Or.inr (Or.inl rfl))))),h⟩
   . exact⟨_,Or.inr (Or.inr (Or.inr (Or.inr (Or.inr (Or.inr rfl))))),h⟩
theorem abv{q cq:Nat}{ws:List ByteArray}{w:World}(h:nx w q cq ws):
 Cl 70 #[.s q ws.length cq] w fun e w'=>iH w (eW ws) e w':=by
 have HI:=ae (@aba ws);obtain⟨NO,hNO⟩:∃P:Prop,P=eW ws:=⟨_,rfl⟩;rw[<-hNO] at HI⊢;have HH:=ae h;have S0:w.S w:=eg _ _;go_enter Tryz.func70,Tryz.ntmps70;have J0:=(HH.out.aA S0).shape ⟨#[100,101,110,115,101]⟩ 2 0 (-1) om om om om
 go_wp2_with fail;refine J0.mono ?_;rintro e w1 ⟨r,rfl,ir,s1⟩;have IR0:=ae ir;have S1:=S0.tr s1;clear ir J0;cases r
 rotate_left
 . go_wp2
   go_ret;exact iH.yes (HI.out.2 (Or.inl (IR0.out.1 qz))) S1
 have J1:=(HH.out.aA S1).shape ⟨#[114,101,108,117]⟩ 1 0 0 om om om om
 go_wp2_with fail;refine J1.mono ?_;rintro e w2 ⟨r,rfl,ir,s2⟩;have IR1:=ae ir;have S2:=S1.tr s2;clear ir J1;cases r
 rotate_left
 . go_wp2
   go_ret;exact iH.yes (HI.out.2 (Or.inr (Or.inl (IR1.out.1 qz)))) S2
 have J2:=(HH.out.aA S2).shape ⟨#[108,101,97,107,121]⟩ 1 1 1 om om om om
 go_wp2_with fail;refine J2.mono ?_;rintro e w3 ⟨r,rfl,ir,s3⟩;have IR2:=ae ir;have S3:=S2.tr s3;clear ir J2;cases r
 rotate_left
 . go_wp2
   go_ret;exact iH.yes (HI.out.2 (Or.inr (Or.inr (Or.inl (IR2.out.1 qz))))) S3
 have J3:=(HH.out.aA S3).shape ⟨#[97,100,100]⟩ 2 0 0 om om om om
 go_wp2_with fail;refine J3.mono ?_;rintro e w4 ⟨r,rfl,ir,s4⟩;have IR3:=ae ir;have S4:=S3.tr s4;clear ir J3;cases r
 rotate_left
 . go_wp2
   go_ret;exact iH.yes (HI.out.2 (Or.inr (Or.inr (Or.inr (Or.inl (IR3.out.1 qz)))))) S4
 have J4:=(HH.out.aA S4).shape ⟨#[109,97,120,112,111,111,108]⟩ 2 0 0 om om om om
 go_wp2_with fail;refine J4.mono ?_;rintro e w5 ⟨r,rfl,ir,s5⟩;have IR4:=ae ir;have S5:=S4.tr s5;clear ir J4;cases r
 rotate_left
 . go_wp2
   go_ret;exact iH.yes (HI.out.2 (Or.inr (Or.inr (Or.inr (Or.inr (Or.inl (IR4.out.1 qz))))))) S5
 have J5:=(HH.out.aA S5).shape ⟨#[99,111,110,118]⟩ 3 0 (-1) om om om om
 go_wp2_with fail;refine J5.mono ?_;rintro e w6 ⟨r,rfl,ir,s6⟩;have IR5:=ae ir;have S6:=S5.tr s6;cases r
 rotate_left
 . go_wp2
   go_ret;exact iH.yes (HI.out.2 (Or.inr (Or.inr (Or.inr (Or.inr (Or.inr (Or.inl (IR5.out.1 qz)))))))) S6
 have J6:=(HH.out.aA S6).shape ⟨#[110,111,114,109]⟩ 1 4 4 om om om om
 go_wp2_with fail;refine J6.mono ?_;rintro e w7 ⟨r,rfl,ir,s7⟩;have IR6:=ae ir;have S7:=S6.tr s7;cases r
 . go_wp2
   go_ret;refine iH.no (fun hn=> ?_) S7
   rcases HI.out.1 hn with h9 | h9 | h9 | h9 | h9 | h9 | h9
   . have:=IR0.out.2 h9
     simp at this
   . have:=IR1.out.2 h9
     simp at this
   . have:=IR2.out.2 h9
     simp at this
   . have:=IR3.out.2 h9
     simp at this
   . have:=IR4.out.2 h9
     simp at this
   . have:=IR5.out.2 h9
     simp at this
   . have:=IR6.out.2 h9
     simp at this
 . go_wp2
   go_ret;exact iH.yes (HI.out.2 (Or.inr (Or.inr (Or.inr (Or.inr (Or.inr (Or.inr (IR6.out.1 qz)))))))) S7
theorem uE{h:Nat×List ByteArray}{t:List (Nat×List ByteArray)}{ws:List ByteArray}:mA (h::t) ws↔((t.length<dv (wd h.2 1) (wd h.2 1).size/\cE ws ie 0 2 2)∨
 (¬t.length<dv (wd h.2 1) (wd h.2 1).size/\(∀x,(h::t).getLast?=some x->x.2.head?≠some cj)/\(eW ws∨cE ws cj 1 0 0))):=by
 constructor
 . rintro (⟨e,-⟩ | ⟨h',t',e,h2⟩)
   . simp at e
   . simp only[List.cons.injEq] at e
     obtain⟨rfl,rfl⟩:=e;exact h2
 . exact fun h2=>Or.inr ⟨_,_,rfl,h2⟩
theorem aa8.c{w:World}{gl:Nat}{ls:List (Nat×List ByteArray)}(h:aa8 w gl ls)(Z:aid ls){j n:Nat}{ws:List ByteArray}(hj:ls[j]?=some (n,ws)):∃q cq,w.cell? (jj gl (j*2))=some (.i (n:Int))/\w.cell? (jj gl (j*2+1))=some (.s q ws.length cq)/\nx w q cq ws:=by
 obtain⟨h1,q,cq,h2,h3,h4⟩:=h j n ws hj;obtain⟨z0,z1,z2⟩:=Z.at_ j n ws hj;exact⟨q,cq,h1,h2,⟨h4,z2,z0,z1,h3⟩⟩
theorem agw{gl cl i q cq:Nat}{ls:List (Nat×List ByteArray)}{ws:List ByteArray}{w:World}(H:aa8 w gl ls)(Z:aid ls)(hi:i<=ls.length)(hM:dQ (ls.take i))(hC:nx w q cq ws):
 Cl 28 #[.s gl i cl,.s q ws.length cq] w fun e w'=>iH w (mA (ls.take i) ws) e w':=by
 have hll:=Z.len;have HC:=ae hC;clear hC
 match i,hi,hM with
 | 0,_,_=>
   rw[List.take_zero];have HI:=ae (@mz ws);obtain⟨NO,hNO⟩:∃P:Prop,P=mA [] ws:=⟨_,rfl⟩;rw[<-hNO] at HI⊢;clear hNO;have J:Cl 69 #[.s q ws.length cq,.string ⟨#[103,114,97,112,104]⟩,.i 2,.i 0,.i 0] w fun e w'=>iH w (cE ws bS 2 0 0) e w':=HC.out.shape bS 2 0 0 om om om om
   go_enter Tryz.func28,Tryz.ntmps28;go_wp2_with fail;refine J.mono ?_;rintro e w1 ⟨r,rfl,ir,s1⟩;have IR:=ae ir;clear ir J;go_wp2;go_ret;exact⟨r,rfl,by rw[HI.out];exact IR.out,s1⟩
 | k+1,hi,hM=>
   have h0:0<ls.length:=om
   obtain⟨h,t0,rfl⟩:∃h t,ls=h::t:=by
    cases ls with
    | nil=>simp at h0
    | cons h t=>exact⟨h,t,rfl⟩
   have hi':k<=t0.length:=by simpa using hi
   have hll':t0.length+1<=100001:=by simpa using hll
   rw[List.take_succ_cons] at hM⊢;have hM0:=hM [] h (t0.take k) rfl;obtain⟨x1,x2,eh,i1,-⟩:=fR.1 (mz.1 hM0);obtain⟨n0,wg⟩:=h;simp only at eh;subst eh;have ltl:(t0.take k).length=k:=by rw[List.length_take];simp at hi;omega
   have HI:=ae (@uE (n0,[bS,x1,x2]) (t0.take k) ws);rw[ltl] at HI;simp only[show wd [bS,x1,x2] 1=x1 from rfl] at HI;obtain⟨NO,hNO⟩:∃P:Prop,P=mA ((n0,[bS,x1,x2])::t0.take k) ws:=⟨_,rfl⟩;rw[<-hNO] at HI⊢;clear hNO;obtain⟨q0,cq0,-,c1,C0⟩:=H.c Z (j:=0) (n:=n0) (ws:=[bS,x1,x2]) rfl;have k1:=C0.c 1 x1 rfl;have hI:=jz i1;have JI:=@li x1 w i1;obtain⟨I,eI⟩:∃I,dv x1 x1.size=I:=⟨_,rfl⟩;rw[eI] at JI HI hI;have c1:w.cell? (jj gl 1)=some (.s q0 3 cq0):=c1
   obtain⟨nl,wl,hlast,hgl⟩:∃nl wl,((n0,[bS,x1,x2])::t0)[k]?=some (nl,wl)/\((n0,[bS,x1,x2])::t0.take k).getLast?=some (nl,wl):=by
    have hk:k<((n0,[bS,x1,x2])::t0).length:=by simp at hi⊢;omega
    refine⟨_,_,List.getElem?_eq_getElem hk, ?_⟩;rw[<-List.take_succ_cons,List.getLast?_eq_getElem?,List.length_take,Nat.min_eq_left (by simp at hi⊢;omega),Nat.add_sub_cancel,List.getElem?_take,if_pos om,List.getElem?_eq_getElem hk]
    rfl
   obtain⟨ql,cql,-,cl1,CL⟩:=H.c Z hlast;obtain⟨xl,hxl⟩:∃x,wl[0]?=some x:=⟨_,List.getElem?_eq_getElem CL.p⟩;have kl:=CL.c 0 xl hxl;have HHD:Hid (wl.head?=some xl):=ae (by rw[List.head?_eq_getElem?];exact hxl);have HGL:=ae hgl;have hwl:=CL.p;obtain⟨NL,hNL⟩:∃n,wl.length=n:=⟨_,rfl⟩;rw[hNL] at cl1 hwl;have hwl':(0:Int)<NL:=om
   have hk1:IntKind.i64.wrap ((k:Int)+1-1)=(k:Int):=by rw[IntKind.wrap_i64];omega
   have hkk:(k:Int)<k+1:=om
   have hz0:¬((k:Int)+1=0):=om
   have hpz:(0:Int)<k+1:=om
   have hkl:k<=100001:=om
   clear hll hi' hll';have EI:=ae eI;clear H Z hM hM0 C0 i1 eI hlast hgl CL hxl hNL ltl hi h0;go_enter Tryz.func28,Tryz.ntmps28;go_wp2_with fail;refine JI.mono ?_;rintro e w1 ⟨rfl,s1⟩;have cl1:=(s1.cell (a:=jj gl (k*2+1)) (gz _ _ cl1)).trans cl1;have kl:=(s1.cell (a:=jj ql 0) (gz _ _ kl)).trans kl;clear JI c1 k1
   by_cases hlt:k<I
   . have hlt':(k:Int)+1<1+(I:Int):=om
     have J:Cl 69 #[.s q ws.length cq,.string ⟨#[98,111,120]⟩,.i 0,.i 2,.i 2] w1 fun e w'=>iH w1 (cE ws ie 0 2 2) e w':=(HC.out.aA s1).shape ie 0 2 2 om om om om
     go_wp2_with fail;refine J.mono ?_;rintro e w2 ⟨r,rfl,ir,s2⟩;have IR:=ae ir;have S2:=s1.tr s2;clear ir J;go_wp2;go_ret;refine⟨r,rfl, ?_,S2⟩;rw[IR.out,HI.out]
     exact⟨fun hs=>Or.inl ⟨hlt,hs⟩,fun hs=>by
      rcases hs with ⟨-,hs⟩ | ⟨hs,-⟩
      . exact hs
      . exact absurd hlt hs⟩
   have hlt':¬((k:Int)+1<1+(I:Int)):=om
   by_cases hx:xl.toList=[111,117,116,112,117,116]
   . have hbe:(xl.toList==[111,117,116,112,117,116])=true:=by simpa using hx
     have HX:Hid (xl=cj):=ae (mr.1 (by rw[hx];decide+kernel));go_wp2;go_ret;refine iH.no (fun hn=> ?_) s1
     rcases HI.out.1 hn with ⟨h9,-⟩ | ⟨-,h9,-⟩
     . exact hlt h9
     . exact h9 _ HGL.out (by rw[HHD.out,HX.out])
   . have hbe:(xl.toList==[111,117,116,112,117,116])=false:=by simpa using hx
     have HX:Hid (xl≠cj):=ae (fun e=>hx (by rw[e];decide+kernel));have J:=@abv q cq ws w1 (HC.out.aA s1);go_wp2_with fail;refine J.mono ?_;rintro e w2 ⟨r,rfl,ir,s2⟩;have IR:=ae ir;have S2:=s1.tr s2;clear ir J
     have HLST:Hid (∀x,((n0,[bS,x1,x2])::t0.take k).getLast?=some x->x.2.head?≠some cj):=ae (fun y hy=>by
      rw[HGL.out] at hy;simp only[Option.some.injEq] at hy;subst hy;rw[HHD.out]
      simp
      exact HX.out)
     cases r
     rotate_left
     . go_wp2
       go_ret;exact iH.yes (HI.out.2 (Or.inr ⟨hlt,HLST.out,Or.inl (IR.out.1 qz)⟩)) S2
     . have J:Cl 69 #[.s q ws.length cq,.string ⟨#[111,117,116,112,117,116]⟩,.i 1,.i 0,.i 0] w2 fun e w'=>iH w2 (cE ws cj 1 0 0) e w':=(HC.out.aA S2).shape cj 1 0 0 om om om om
       go_wp2_with fail;refine J.mono ?_;rintro e w3 ⟨r,rfl,ir,s3⟩;have IR3:=ae ir;have S3:=S2.tr s3;clear ir J;go_wp2;go_ret;refine⟨r,rfl, ?_,S3⟩;rw[IR3.out,HI.out]
       exact⟨fun hs=>Or.inr ⟨hlt,HLST.out,Or.inr hs⟩,fun hs=>by
        rcases hs with ⟨hs,-⟩ | ⟨-,-,hs | hs⟩
        . exact absurd hs hlt
        . have:=IR.out.2 hs;simp at this
        . exact hs⟩
def wk(w w':World)(op a b k s:Int)(ns:List ByteArray)(e:Ending):Prop:=
 ∃ad cap xV,e=.returned (.agg #[.int .i64 op,.int .i64 a,.int .i64 b,.int .i64 k,.int .i64 s,.slice ad ns.length cap])/\cU w' w.heap.size (.slice ad ns.length cap) ns.length (wd ns) (fun _ q=>w.heap.size<=q) xV/\w.Since w.heap.size w'
structure qK(w wi:World)(g:Nat)(op a b k s:Int)(v:Value):Prop where
 n:au wi (g+1) (.int .i64 op) (.int .i64 a) (.int .i64 b) (.int .i64 k) (.int .i64 s) v
 r:au wi w.heap.size (.int .i64 0) (.int .i64 0) (.int .i64 0) (.int .i64 0) (.int .i64 0) (.slice none 0 0)
 S:w.Since w.heap.size wi
 E:wi.ownsRow (w.heap.size+1) 44 3 (.slice (some ⟨g,0,none⟩) 0 0) 0 []
 l:w.heap.size<g
section
variable{w wi wj:World}{g:Nat}{op a b k s:Int}{v:Value}
theorem qK.aA(h:qK w wi g op a b k s v)(q:wi.S wj):qK w wj g op a b k s v:=
 ⟨h.n.aA q,h.r.aA q,h.S.trans (sM q h.S.size),dS h.E q,h.l⟩
theorem qK.put(h:qK w wi g op a b k s v){f:Nat}{x:Value}{op' a' b' k' s':Int}{v':Value}(n:au (wi.setCell ⟨g+1,f,none⟩ x) (g+1) (.i op') (.i a') (.i b') (.i k') (.i s') v'):qK w (wi.setCell ⟨g+1,f,none⟩ x) g op' a' b' k' s' v':=by
 have BS:cF (g+1) wi (wi.setCell (jj (g+1) f) x):=(cF.refl _ wi).set f x;have l:=h.l;exact⟨n,h.r.aM BS om,de h.S om,uy h.E (fun q e=>BS.block q (h.E.lt q e).2 (by simp[Value.ownBlock] at e;simp;omega)),l⟩
theorem qK.aE(h:qK w wi g op a b k s v)(x:Int):qK w (wi.setCell ⟨g+1,0,none⟩ (.i x)) g x a b k s v:=h.put (h.n.aE _)
theorem qK.aF(h:qK w wi g op a b k s v)(x:Int):qK w (wi.setCell ⟨g+1,2,none⟩ (.i x)) g op a x k s v:=h.put (h.n.aF _)
theorem qK.aK(h:qK w wi g op a b k s v)(x:Int):qK w (wi.setCell ⟨g+1,3,none⟩ (.i x)) g op a b x s v:=h.put (h.n.aK _)
theorem qK.aS(h:qK w wi g op a b k s v)(x:Int):qK w (wi.setCell ⟨g+1,4,none⟩ (.i x)) g op a b k x v:=h.put (h.n.aS _)
theorem qK.aO(h:qK w wi g op a b k s v)(x:Value):qK w (wi.setCell ⟨g+1,5,none⟩ x) g op a b k s x:=h.put (h.n.aO _)
end
def NsV(w W:World)(v:Value)(n:Nat)(ns:List ByteArray):Prop:=∃xV,cU W (w.heap.size+1) v n (wd ns) (fun _ q=>w.heap.size+1<=q) xV
section
variable{w wi wj:World}{g:Nat}{op a b k s:Int}{v:Value}{ns:List ByteArray}
theorem qK.nil(N:qK w wi g op a b k s v):NsV w wi (.s g 0 0) 0 []:=⟨[],N.E,fun i hi=>absurd hi qz⟩
theorem qK.list(N:qK w wi g op a b k s v){gV n cV:Nat}{xV:List Value}(OV:cU wj wi.heap.size (.s gV n cV) n (wd ns) (fun _ q=>wi.heap.size<=q) xV):NsV w (wj.setCell ⟨g+1,5,none⟩ (.s gV n cV)) (.s gV n cV) n ns:=by
 have h:=N.n.lt;have l:=N.l;have B:cF (g+1) wj (wj.setCell (jj (g+1) 5) (.s gV n cV)):=(cF.refl _ wj).set 5 _;exact⟨_,((OV.aM B om (fun _ _ hp=>hp)).lower om).imp' (fun _ _ _ _ hp=>by omega)⟩
theorem qK.fin{ad:Option Addr}{cap:Nat}(N:qK w wi g op a b k s v)(O:NsV w wi (.slice ad ns.length cap) ns.length ns)(x0 x1 x2 x3 x4 x5:Value):wk w ((((((wi.setCell ⟨w.heap.size,0,none⟩ x0).setCell ⟨w.heap.size,1,none⟩ x1).setCell ⟨w.heap.size,2,none⟩ x2).setCell ⟨w.heap.size,3,none⟩ x3).setCell ⟨w.heap.size,4,none⟩ x4).setCell ⟨w.heap.size,5,none⟩ x5) op a b k s ns (.returned (.agg #[.i op,.i a,.i b,.i k,.i s,.slice ad ns.length cap])):=by
 obtain⟨xV,O⟩:=O;have B:=((((((cF.refl w.heap.size wi).set 0 x0).set 1 x1).set 2 x2).set 3 x3).set 4 x4).set 5 x5;exact⟨_,_,_,rfl,((O.aM B om (fun _ _ hp=>hp)).lower om).imp' (fun _ _ _ _ hp=>by omega),fY N.S (Nat.le_refl _) B.c (fun q hq e=>by omega)⟩
end
theorem agf{p:Prop}(h:p:=by
 have y0:=N.n.c0;have y1:=N.n.c1;have y2:=N.n.c2;have y3:=N.n.c3;have y4:=N.n.c4;have y5:=N.n.c5;have r0:=N.r.c0;have r1:=N.r.c1;have r2:=N.r.c2;have r3:=N.r.c3;have r4:=N.r.c4;have r5:=N.r.c5;have rf0:=N.r.f 0;have rf1:=N.r.f 1;have rf2:=N.r.f 2;have rf3:=N.r.f 3;have rf4:=N.r.f 4;have rf5:=N.r.f 5;have hqr:¬q=w.heap.size:=om
 go_wp2;refine bodyPost_ret (dn rfl Tryz.underlying48 rfl qT _ _ _ _ _ _ _ _ _ rfl ((((((N.r.aE _).aG _).aF _).aK _).aS _).aO _)) rfl ?_;exact N.fin O.out _ _ _ _ _ _):p:=h
theorem zI{p:Prop}(h:p:=by
 go_wp2_with fail;refine (HN.out _ (M.out _).S _ _ ?_).mono ?_
 . first | exact fun _=>rfl | exact fun h9=>absurd h9 qz
 rintro e w6 ⟨gV,cV,xV,rfl,OV,s6⟩;have O:=ae ((M.out _).list OV);have N6:=(M.out _).aA s6;have zV:=s6.size;clear OV c0 m f;have c0:=(HC.out.aA N6.S).c 0 _ rfl;have m:=N6.n.c5;have f:=N6.n.f 5
 first | have N:=N6.aO (.s gV ns.length cV) | have N:=N6.aO (.s gV 0 cV)
 exact agf):p:=h
theorem ai9{p:Prop}(h:p:=by
 clear k1;have c2:=(HC.out.aA N.S).c 2 _ rfl;have M:=ae (fun x:Int=>N.aE x);go_wp2_with fail;refine (J2 _).mono ?_;rintro e w2 ⟨rfl,s2⟩;have N2:=(M.out _).aA s2;clear c0 c2 m f M;have c0:=(HC.out.aA N2.S).c 0 _ rfl;have m:=N2.n.c3;have f:=N2.n.f 3;have M:=ae (fun x:Int=>N2.aK x);have HN:=ae (fun w' (s:w.S w') (a:Option Addr) (cap:Nat) (ha:0<ns.length->a=jp q 3)=>@pR a q 3 cap ns w' (fun j x hx=>⟨ha (by have:=(List.getElem?_eq_some_iff.1 hx).1;omega),(HC.out.aA s).c (3+j) x (by rw[Nat.add_comm];exact hx)⟩) (fun x hx=>HC.out.z x (by simp[hx])) om)
 by_cases hcq:cq=3
 . have hn0:ns=[]:=List.length_eq_zero_iff.1 om
   subst hcq hn0;exact zI
 . have hcq1:(3:Int)<=(cq:Int):=om
   have hcq2:(ns.length:Int)+1+1+1<=(cq:Int):=om
   exact zI):p:=h
theorem ai8{p:Prop}(h:p:=by
 clear k2;have N:=N.aE 2;have O:=ae N.nil;exact agf):p:=h
theorem ai7{p:Prop}(h:p:=by
 clear k3;have M:=ae (fun x:Int=>N.aE x);have HN:=ae (fun w' (s:w.S w') (a:Option Addr) (cap:Nat) (ha:0<ns.length->a=jp q 2)=>@pR a q 2 cap ns w' (fun j x hx=>⟨ha (by have:=(List.getElem?_eq_some_iff.1 hx).1;omega),(HC.out.aA s).c (2+j) x (by rw[Nat.add_comm];exact hx)⟩) (fun x hx=>HC.out.z x (by simp[hx])) om)
 by_cases hcq:cq=2
 . have hn0:ns=[]:=List.length_eq_zero_iff.1 om
   subst hcq hn0;exact zI
 . have hcq1:(2:Int)<=(cq:Int):=om
   have hcq2:(ns.length:Int)+1+1<=(cq:Int):=om
   exact zI):p:=h
theorem ai6{p:Prop}(h:p:=by
 clear k4;have c2:=(HC.out.aA N.S).c 2 _ rfl;have M:=ae (fun x:Int=>N.aE x);go_wp2_with fail;refine (J2 _).mono ?_;rintro e w2 ⟨rfl,s2⟩;have N2:=(M.out _).aA s2;clear c0 c2 m f M;have c0:=(HC.out.aA N2.S).c 0 _ rfl;have m:=N2.n.c2;have f:=N2.n.f 2;have N:=N2.aF V2;have O:=ae N.nil;exact agf):p:=h
theorem ai5{p:Prop}(h:p:=by
 clear k5;have c2:=(HC.out.aA N.S).c 2 _ rfl;have M:=ae (fun x:Int=>N.aE x);go_wp2_with fail;refine (J2 _).mono ?_;rintro e w2 ⟨rfl,s2⟩;have N2:=(M.out _).aA s2;clear c0 c2 m f M;have c0:=(HC.out.aA N2.S).c 0 _ rfl;have m:=N2.n.c3;have f:=N2.n.f 3;have N:=N2.aK V2;have O:=ae N.nil;exact agf):p:=h
theorem ai4{p:Prop}(h:p:=by
 clear k6;have c2:=(HC.out.aA N.S).c 2 _ rfl;have M:=ae (fun x:Int=>N.aE x);go_wp2_with fail;refine (J2 _).mono ?_;rintro e w2 ⟨rfl,s2⟩;have N2:=(M.out _).aA s2;clear c0 c2 m f M;have c0:=(HC.out.aA N2.S).c 0 _ rfl;have c3:=(HC.out.aA N2.S).c 3 _ rfl;have m:=N2.n.c3;have f:=N2.n.f 3;have M:=ae (fun x:Int=>N2.aK x);go_wp2_with fail;refine (J3 _).mono ?_;rintro e w3 ⟨rfl,s3⟩;have N3:=(M.out _).aA s3;clear c0 c3 m f M;have c0:=(HC.out.aA N3.S).c 0 _ rfl;have m:=N3.n.c4;have f:=N3.n.f 4;have M:=ae (fun x:Int=>N3.aS x);have HN:=ae (fun w' (s:w.S w') (a:Option Addr) (cap:Nat) (ha:0<ns.length->a=jp q 4)=>@pR a q 4 cap ns w' (fun j x hx=>⟨ha (by have:=(List.getElem?_eq_some_iff.1 hx).1;omega),(HC.out.aA s).c (4+j) x (by rw[Nat.add_comm];exact hx)⟩) (fun x hx=>HC.out.z x (by simp[hx])) om)
 by_cases hcq:cq=4
 . have hn0:ns=[]:=List.length_eq_zero_iff.1 om
   subst hcq hn0;exact zI
 . have hcq1:(4:Int)<=(cq:Int):=om
   have hcq2:(ns.length:Int)+1+1+1+1<=(cq:Int):=om
   exact zI):p:=h
theorem ai3{p:Prop}(h:p:=by
 clear k7;have M:=ae (fun x:Int=>N.aE x);have HN:=ae (fun w' (s:w.S w') (a:Option Addr) (cap:Nat) (ha:0<ns.length->a=jp q 2)=>@pR a q 2 cap ns w' (fun j x hx=>⟨ha (by have:=(List.getElem?_eq_some_iff.1 hx).1;omega),(HC.out.aA s).c (2+j) x (by rw[Nat.add_comm];exact hx)⟩) (fun x hx=>HC.out.z x (by simp[hx])) om)
 by_cases hcq:cq=2
 . have hn0:ns=[]:=List.length_eq_zero_iff.1 om
   subst hcq hn0;exact zI
 . have hcq1:(2:Int)<=(cq:Int):=om
   have hcq2:(ns.length:Int)+1+1<=(cq:Int):=om
   exact zI):p:=h
theorem aaY{p:Prop}(h:p:=by
 have hl:=hC.l;have hcap:=hC.cap;have hq:q<w.heap.size:=gz _ _ (hC.c 0 _ rfl);simp only[List.length_cons,List.length_nil] at hl hcap;obtain⟨V1,hV1⟩:∃V,dv x1 x1.size=V:=⟨_,rfl⟩;have J1:=fun w'=>@li x1 w' i1
 rw[hV1];rw[hV1] at J1
 try (obtain⟨V2,hV2⟩:∃V,dv x2 x2.size=V:=⟨_,rfl⟩;have J2:=fun w'=>@li x2 w' i2;rw[hV2];rw[hV2] at J2;clear hV2 i2)
 try (obtain⟨V3,hV3⟩:∃V,dv x3 x3.size=V:=⟨_,rfl⟩;have J3:=fun w'=>@li x3 w' i3;rw[hV3];rw[hV3] at J3;clear hV3 i3)
 have HC:=ae hC;clear hV1 i1 hC;have sA:=bJ w (.cells #[.i 0,.i 0,.i 0,.i 0,.i 0,.n] 48);have bA:=au.new w (.i 0) (.i 0) (.i 0) (.i 0) (.i 0) (.n) 48;have ZA:=ae (show (w.alloc (.cells #[.i 0,.i 0,.i 0,.i 0,.i 0,.n] 48)).heap.size=w.heap.size+1 by simp);have c1:=(HC.out.aA sA).c 1 _ rfl;go_enter Tryz.func31,Tryz.ntmps31;go_wp2_with fail;generalize w.alloc (.cells #[.i 0,.i 0,.i 0,.i 0,.i 0,.n] 48)=wA at*;refine (J1 wA).mono ?_;rintro e w1 ⟨rfl,s1⟩;clear c1 J1;have S1:=sA.trans (sM s1 sA.size);have z1:=s1.size;have sE:=bJ w1 (.cells #[] 44);have sN:=(eg (w1.alloc (.cells #[] 44)).heap.size (w1.alloc (.cells #[] 44))).alloc (Nat.le_refl _) (.cells #[.i 0,.i (V1:Int),.i 0,.i 0,.i 0,.s w1.heap.size 0 0] 48);have OE:=dS (pv (base:=w.heap.size+1) (size:=3) (e:=44) w1 #[] 0 (by have:=ZA.out;omega) (Nat.zero_le _) rfl) sN;have nN:=au.new (w1.alloc (.cells #[] 44)) (.i 0) (.i (V1:Int)) (.i 0) (.i 0) (.i 0) (.s w1.heap.size 0 0) 48;rw[show (w1.alloc (.cells #[] 44)).heap.size=w1.heap.size+1 by simp] at nN;have N:qK w _ w1.heap.size 0 V1 0 0 0 (.s w1.heap.size 0 0):=⟨nN,((bA.aA s1).aA sE).aA sN,(S1.trans (sM sE S1.size)).trans (sM sN (by have:=S1.size;simp;omega)),OE,by have:=ZA.out;omega⟩;have gl:=N.l;clear sE sN OE nN bA sA
 go_upto_region 2 with fail
 generalize (w1.alloc (.cells #[] 44)).alloc (.cells #[.i 0,.i (V1:Int),.i 0,.i 0,.i 0,.s w1.heap.size 0 0] 48)=w2 at*;generalize w1.heap.size=g1 at*;have hqn:¬q=g1+1:=om
 have c0:=(HC.out.aA N.S).c 0 _ rfl;have m:=N.n.c0;have f:=N.n.f 0
 first
  | exact ai9
  | exact ai8
  | exact ai7
  | exact ai6
  | exact ai5
  | exact ai4
  | exact ai3):p:=h
theorem agn{q cq:Nat}{x1 x2:ByteArray}{ns:List ByteArray}{w:World}(hC:nx w q cq (⟨#[100,101,110,115,101]⟩::x1::x2::ns))(i1:isInt x1)(i2:isInt x2):
 Cl 31 #[.s q (ns.length+1+1+1) cq] w fun e w'=>wk w w' 1 ((dv x1 x1.size:Nat):Int) 0 ((dv x2 x2.size:Nat):Int) 0 ns e:=by
 have k1:=trivial;exact aaY
theorem agm{q cq:Nat}{x1:ByteArray}{w:World}(hC:nx w q cq (⟨#[114,101,108,117]⟩::x1::[]))(i1:isInt x1):
 Cl 31 #[.s q 2 cq] w fun e w'=>wk w w' 2 ((dv x1 x1.size:Nat):Int) 0 0 0 [] e:=by
 have k2:=trivial;exact aaY
theorem agl{q cq:Nat}{x1:ByteArray}{ns:List ByteArray}{w:World}(hC:nx w q cq (⟨#[108,101,97,107,121]⟩::x1::ns))(i1:isInt x1):
 Cl 31 #[.s q (ns.length+1+1) cq] w fun e w'=>wk w w' 3 ((dv x1 x1.size:Nat):Int) 0 0 0 ns e:=by
 have k3:=trivial;exact aaY
theorem agk{q cq:Nat}{x1 x2:ByteArray}{w:World}(hC:nx w q cq (⟨#[97,100,100]⟩::x1::x2::[]))(i1:isInt x1)(i2:isInt x2):
 Cl 31 #[.s q 3 cq] w fun e w'=>wk w w' 4 ((dv x1 x1.size:Nat):Int) ((dv x2 x2.size:Nat):Int) 0 0 [] e:=by
 have k4:=trivial;exact aaY
theorem agj{q cq:Nat}{x1 x2:ByteArray}{w:World}(hC:nx w q cq (⟨#[109,97,120,112,111,111,108]⟩::x1::x2::[]))(i1:isInt x1)(i2:isInt x2):
 Cl 31 #[.s q 3 cq] w fun e w'=>wk w w' 5 ((dv x1 x1.size:Nat):Int) 0 ((dv x2 x2.size:Nat):Int) 0 [] e:=by
 have k5:=trivial;exact aaY
theorem agi{q cq:Nat}{x1 x2 x3:ByteArray}{ns:List ByteArray}{w:World}(hC:nx w q cq (⟨#[99,111,110,118]⟩::x1::x2::x3::ns))(i1:isInt x1)(i2:isInt x2)(i3:isInt x3):
 Cl 31 #[.s q (ns.length+1+1+1+1) cq] w fun e w'=>wk w w' 6 ((dv x1 x1.size:Nat):Int) 0 ((dv x2 x2.size:Nat):Int) ((dv x3 x3.size:Nat):Int) ns e:=by
 have k6:=trivial;exact aaY
theorem agh{q cq:Nat}{x1:ByteArray}{ns:List ByteArray}{w:World}(hC:nx w q cq (⟨#[110,111,114,109]⟩::x1::ns))(i1:isInt x1):
 Cl 31 #[.s q (ns.length+1+1) cq] w fun e w'=>wk w w' 7 ((dv x1 x1.size:Nat):Int) 0 0 0 ns e:=by
 have k7:=trivial;exact aaY
theorem acp{α:Type}{l:List α}(h:l.length=0):l=[]:=List.length_eq_zero_iff.1 h
theorem abu{q cq:Nat}{ws:List ByteArray}{w:World}(hC:nx w q cq ws)(h:eW ws):
 Cl 31 #[.s q ws.length cq] w fun e w'=>wk w w' (nD ws).op (nD ws).a (nD ws).b (nD ws).k (nD ws).s (vw ws) e:=by
 obtain⟨hk,ho⟩:=xT h;unfold nD vw;obtain⟨kd,e⟩:∃kd,kF ws=kd:=⟨_,rfl⟩;rw[e] at hk ho⊢;obtain⟨is,ns,ew,h1,h2,h3,h4,h5⟩:=iT.1 ho
 rcases hk with rfl | rfl | rfl | rfl | rfl | rfl | rfl
 . match is,h1,h2 with
   | [x1,x2],_,h2=>
     subst ew;exact (agn hC (h2 x1 qz) (h2 x2 qz)).mono (fun _ _ hh=>hh)
 . have hn:=acp (l:=ns) (by have:=h5 qd;simp[kd2] at this;simpa using this)
   subst hn
   match is,h1,h2 with
   | [x1],_,h2=>
     subst ew;exact (agm hC (h2 x1 qz)).mono (fun _ _ hh=>hh)
 . match is,h1,h2 with
   | [x1],_,h2=>
     subst ew;exact (agl hC (h2 x1 qz)).mono (fun _ _ hh=>hh)
 . have hn:=acp (l:=ns) (by have:=h5 qd;simp[kd4] at this;simpa using this)
   subst hn
   match is,h1,h2 with
   | [x1,x2],_,h2=>
     subst ew;exact (agk hC (h2 x1 qz) (h2 x2 qz)).mono (fun _ _ hh=>hh)
 . have hn:=acp (l:=ns) (by have:=h5 qd;simp[kd5] at this;simpa using this)
   subst hn
   match is,h1,h2 with
   | [x1,x2],_,h2=>
     subst ew;exact (agj hC (h2 x1 qz) (h2 x2 qz)).mono (fun _ _ hh=>hh)
 . match is,h1,h2 with
   | [x1,x2,x3],_,h2=>
     subst ew;exact (agi hC (h2 x1 qz) (h2 x2 qz) (h2 x3 qz)).mono (fun _ _ hh=>hh)
 . match is,h1,h2 with
   | [x1],_,h2=>
     subst ew;exact (agh hC (h2 x1 qz)).mono (fun _ _ hh=>hh)
theorem ug{c bl wb t m:Nat}{L ws:List ByteArray}{w:World}(h:iy w c bl wb L t ws)(h0:0<ws.length)(K:dg w m)(hmc:m≠c):
 Cl 81 #[.p c 0,.map (some m)] w fun e w'=>cF c w w'/\((¬eW ws/\e=cg t)∨
  (eW ws/\∃a cap F xs,e=.returned (.agg #[.i (nD ws).op,.i (nD ws).a,.i (nD ws).b,.i (nD ws).k,.i (nD ws).s,.slice a (vw ws).length cap])/\qF w' w.heap.size (.slice a (vw ws).length cap) (vw ws).length (wd (vw ws)) F xs/\iy w' c bl wb L t [])):=by
 match ws,h0,h with
 | x::r,_,h=>
   by_cases hx:∃kd,iB kd/\kd.word=x
   . obtain⟨kd,hk,rfl⟩:=hx
     refine (aaM hk h K hmc).mono ?_;rintro e w' ⟨B,⟨hno,he⟩ | ⟨ho,a,cap,F,xs,he,O,R⟩⟩
     . refine⟨B,Or.inl ⟨fun hn=> ?_,he⟩⟩
       obtain⟨kd',hk',e1,ho'⟩:=hn.head;have e2:kd.word=kd'.word:=by simpa using e1
       exact hno (by rw[hk.one hk' e2] at ho'⊢;exact ho')
     . have e1:=act hk ho
       have e2:vw (kd.word::r)=r.drop kd.fs.length:=by
        unfold vw;rw[e1,Nat.add_comm,List.drop_succ_cons]
       refine⟨B,Or.inr ⟨⟨kd,hk,ho⟩,a,cap,F,xs, ?_, ?_,R⟩⟩
       . rw[e2]
         unfold nD;rw[e1];exact he
       . rw[e2];exact O
   . refine (yQ h K hmc (fun kd hk e=>hx ⟨kd,hk,e⟩)).mono ?_
     rintro e w' ⟨B,he⟩;refine⟨B,Or.inl ⟨fun hn=> ?_,he⟩⟩;obtain⟨kd',hk',e1,-⟩:=hn.head;exact hx ⟨kd',hk',by simpa using e1.symm⟩
theorem agv{t:Nat}{L:List ByteArray}{r:Nat×List ByteArray}(h:r∈cK t L):t<r.1:=by
 induction L generalizing t with
 | nil=>simp[cK] at h
 | cons x xs ih=>
   rw[cK] at h
   split at h
   . have:=ih h;omega
   . rcases List.mem_cons.1 h with rfl | h
     . simp
     . have:=ih h;omega
theorem pT:∃i,Tryz.prog.info? 48=some i/\i.zero=some (.agg #[.i 0,.i 0,.i 0,.i 0,.i 0,.n])/\i.size=6/\i.bytes=64:=by
 have h:(Tryz.prog.info? 48).map (fun i=>(i.zero,i.size,i.bytes))=some (some (.agg #[.i 0,.i 0,.i 0,.i 0,.i 0,.n]),6,64):=by kernel_rfl
 obtain⟨i,hi,h⟩:=Option.map_eq_some_iff.1 h;simp only[Prod.mk.injEq] at h;exact⟨i,hi,h.1,h.2.1,h.2.2⟩
theorem agq(w:World)(x y z u v r:Value)(t:TypeId):∀j q,([x,y,z,u,v,r]:List Value)[j]?=some q->(w.alloc (.cells #[x,y,z,u,v,r] t)).cell? (((jj w.heap.size 0):Addr).add j)=some q:=fun j q hu=>by
 rw[Go.WideShapes.add_plain,Nat.zero_add];have B:=au.new w x y z u v r t
 rcases j with _ | _ | _ | _ | _ | _ | j
 . simp at hu;subst hu;exact B.c0
 . simp at hu;subst hu;exact B.c1
 . simp at hu;subst hu;exact B.c2
 . simp at hu;subst hu;exact B.c3
 . simp at hu;subst hu;exact B.c4
 . simp at hu;subst hu;exact B.c5
 . simp at hu
theorem age(a b c d e:Int)(x:Option Addr)(n k:Nat):∀u∈([.i a,.i b,.i c,.i d,.i e,.slice x n k]:List Value),u.oneCell'=true:=by
 intro u hu
 simp at hu
 rcases hu with rfl | rfl | rfl | rfl | rfl | rfl<;>rfl
theorem fp:(Tryz.prog.info? 26).map (·.size)=some 6:=by kernel_rfl
theorem au.aR{w w':World}{R:Nat->Prop}{d:Nat}{x y z u v t:Value}(h:au w d x y z u v t)(k:jP R w w')(hn:¬R d):au w' d x y z u v t:=h.bI (k.block d h.lt hn)
theorem dg.aR{w w':World}{R:Nat->Prop}{m:Nat}(h:dg w m)(k:jP R w w')(hn:¬R m):dg w' m:=by
 unfold dg;rw[k.block m h.lt hn];exact h
theorem cF.chg2{c d:Nat}{w w1 w2:World}(h:cF c w w1)(k:tu c d w1 w2)(hd:w.heap.size<=d:=by omega):cF c w w2:=
 ⟨k.os.trans h.os,k.tape.trans h.tape,k.output.trans h.output,Nat.le_trans h.size k.size,fun q hq hn=>(k.block q (Nat.lt_of_lt_of_le hq h.size) (fun e=>by simp at hn;rcases e with e | e<;>omega)).trans (h.block q hq hn)⟩
theorem cF.chg3{c d lo:Nat}{w w1 w2:World}(h:cF c w w1)(k:jP (fun q=>q=c∨q=d∨lo<=q) w1 w2)(hd:w.heap.size<=d:=by omega)(hl:w.heap.size<=lo:=by omega):cF c w w2:=
 ⟨k.os.trans h.os,k.tape.trans h.tape,k.output.trans h.output,Nat.le_trans h.size k.size,fun q hq hn=>(k.block q (Nat.lt_of_lt_of_le hq h.size) (fun e=>by simp at hn;rcases e with e | e | e<;>omega)).trans (h.block q hq hn)⟩
def lw(ns:List (Nat×List ByteArray))(i:Nat):List ByteArray:=(ns.getD i (0,[])).2
theorem acm{ns:List (Nat×List ByteArray)}{x:Nat×List ByteArray}{i:Nat}(h:i<ns.length):lw (ns++[x]) i=lw ns i:=by
 unfold lw;rw[List.getD_eq_getElem?_getD,List.getD_eq_getElem?_getD,List.getElem?_append_left h]
theorem zR(ns:List (Nat×List ByteArray))(x:Nat×List ByteArray):lw (ns++[x]) ns.length=x.2:=by
 unfold lw;rw[List.getD_eq_getElem?_getD,List.getElem?_append_right (Nat.le_refl _),Nat.sub_self]
 rfl
def sL(bs:List (Nat×List ByteArray)):List ByteArray:=bs.map fun b=>wd b.2 1
def sH(bs:List (Nat×List ByteArray)):List ByteArray:=bs.map fun b=>wd b.2 2
def GraE(w w':World)(ls:List (Nat×List ByteArray))(T:Nat)(e:Ending):Prop:=
 (∃p:Nat,kP ls p/\e=cg p)∨(kn ls/\e=cg ((T:Int)+1))∨
 ∃x1 x2 xo bs ns aL cL aH cH aN cN xL xH xN zs lo hi d,ke ls x1 x2 xo bs ns/\e=.returned (.agg #[.int .i64 (dv x1 x1.size:Nat),.int .i64 (dv x2 x2.size:Nat),.slice aL bs.length cL,.slice aH bs.length cH,.slice aN ns.length cN,.int .i64 (dv xo xo.size:Nat)])/\w.heap.size<=lo/\lo<=hi/\
  ma w' lo hi d (.slice aL bs.length cL) (.slice aH bs.length cH) (sL bs) (sH bs) xL xH/\kM w' hi (.slice aN ns.length cN) ns.length (lw ns) xN zs/\∃hi',oz hi hi' zs.flatten
theorem yR{c bl wb t:Nat}{L ws0:List ByteArray}{w:World}(h:iy w c bl wb L t ws0):
 Cl 39 #[.p c 0] w fun e w'=>cF c w w'/\GraE w w' (cK t (L.drop t)) L.length e:=by
 obtain⟨i0,hi,hz0,hz1,hz2⟩:=pT;have hcl:=h.lt;have hbl:=h.lb;have hll:=h.ll;obtain⟨LS,hLS⟩:∃LS,LS=cK t (L.drop t):=⟨_,rfl⟩;have HLS:=ae hLS;have HLL:Hid (LS.length<=L.length):=ae (by rw[hLS];have:=zT t (L.drop t);rw[List.length_drop] at this;omega);rw[<-hLS];clear hLS;have sA:w.S ((w.alloc (.cells #[.i 0,.i 0,.n,.n,.n,.i 0] 26)).alloc (.cells #[.i 0,.i 0,.n,.n,.n,.i 0] 26)):=(bJ _ _).alloc qz _;have sA1:(w.alloc (.cells #[.i 0,.i 0,.n,.n,.n,.i 0] 26)).Since (w.alloc (.cells #[.i 0,.i 0,.n,.n,.n,.i 0] 26)).heap.size ((w.alloc (.cells #[.i 0,.i 0,.n,.n,.n,.i 0] 26)).alloc (.cells #[.i 0,.i 0,.n,.n,.n,.i 0] 26)):=bJ _ _;have b0:=(au.new w (.i 0) (.i 0) (.n) (.n) (.n) (.i 0) 26).aA sA1;have g0:=au.new (w.alloc (.cells #[.i 0,.i 0,.n,.n,.n,.i 0] 26)) (.i 0) (.i 0) (.n) (.n) (.n) (.i 0) 26;rw[show (w.alloc (.cells #[.i 0,.i 0,.n,.n,.n,.i 0] 26)).heap.size=w.heap.size+1 by simp] at g0;have ZA:=ae (show ((w.alloc (.cells #[.i 0,.i 0,.n,.n,.n,.i 0] 26)).alloc (.cells #[.i 0,.i 0,.n,.n,.n,.i 0] 26)).heap.size=w.heap.size+1+1 by simp);clear sA1;go_enter Tryz.func39,Tryz.ntmps39;go_wp2_with fail;generalize (w.alloc _).alloc _=wA at*;have CA:cF c w wA:=cF.of sA;refine (@aaN c bl wb t (w.heap.size+1) L ws0 0 0 _ _ _ _ wA (h.aA sA) g0 om om).mono ?_;rintro e w1 ⟨B1,⟨e1,rfl⟩ | ⟨n0,l,rest1,e1,⟨hno,rfl⟩ | ⟨x1,x2,wb1,rfl,i1,i2,rfl,R1,hw1,e2,g1⟩⟩⟩
 . have C1:cF c w w1:=CA.chg2 B1
   have HE:Hid (kn LS):=ae (by rw[HLS.out,e1];exact⟨dQ.nil,fun x hx=>by simp at hx⟩);clear e1;unfold cg;go_wp2;exact⟨rfl,C1,Or.inr (Or.inl ⟨HE.out,rfl⟩)⟩
 . have C1:cF c w w1:=CA.chg2 B1
   have HE:Hid (kP LS n0):=ae (by rw[HLS.out,e1];exact⟨[],l,rest1,rfl,dQ.nil,fun hm=>hno (mz.1 hm)⟩);clear e1 hno;unfold cg;go_wp2;exact⟨rfl,C1,Or.inl ⟨n0,HE.out,rfl⟩⟩
 have C1:cF c w w1:=CA.chg2 B1;have hzB1:=B1.size;have hza:=ZA.out;have b1:=b0.aR B1 om;have E1:Hid (LS=(n0,[bS,x1,x2])::cK n0 (L.drop n0)):=ae (by rw[HLS.out,e1,e2]);have hI:=jz i1;obtain⟨I,eI⟩:∃I,dv x1 x1.size=I:=⟨_,rfl⟩;obtain⟨RD,eR⟩:∃I,dv x2 x2.size=I:=⟨_,rfl⟩;rw[eI] at hI g1;rw[eR] at g1;have EI:=ae eI;have ER:=ae eR;have I1:=ae i1;have I2:=ae i2;have c0:=g1.c0;have O1:vl w1 (w.heap.size+1+1) (w.heap.size+1) (.n) (.n) [] [] [] []:=⟨⟨⟨World.ownsRow_nil _ _ _ _,fun i hi=>absurd hi qz⟩,⟨World.ownsRow_nil _ _ _ _,fun i hi=>absurd hi qz⟩,fun g e=>by simp[Value.ownBlock] at e,by simp[Value.ownBlock],by simp[Value.ownBlock]⟩,oz.nil _ _⟩;clear e1 e2 eI eR i1 i2 B1 b0 g0;go_wp2_with fail;clear c0
 go_loopw [10] (fun i wr=>∃(j nj wbj cL cH:Nat) (aL aH:Option Addr) (bs:List (Nat×List ByteArray)) (xL xH:List Value),j<=I/\i=.i (j:Int)/\cF c w wr/\w.heap.size+1+1<=wr.heap.size/\Hid (au wr w.heap.size (.i 0) (.i 0) (.n) (.n) (.n) (.i 0))/\Hid (au wr (w.heap.size+1) (.i (I:Int)) (.i (RD:Int)) (.slice aL j cL) (.slice aH j cH) (.n) (.i 0))/\Hid (vl wr (w.heap.size+1+1) (w.heap.size+1) (.slice aL j cL) (.slice aH j cH) (sL bs) (sH bs) xL xH)/\Hid (iy wr c bl wbj L nj [])/\Hid (LS=(n0,[bS,x1,x2])::(bs++cK nj (L.drop nj)))/\Hid (bs.length=j)/\Hid (vs bs)) (fun i _=>I-(intOf i).toNat)
 case atStart=>exact⟨0,n0,wb1,0,0,none,none,[],[],[],Nat.zero_le _,rfl,C1,om,ae b1,ae g1,ae O1,ae R1,E1,ae rfl,ae (fun b hb=>by simp at hb)⟩
 case round=>
  clear C1 b1 g1 O1 R1 E1;obtain⟨j,nj,wbj,cL,cH,aL,aH,bs,xL,xH,hj,rfl,C,hzr,BX,GX,SO,RX,EL,HL,HB⟩:=hrel
  have HPRE:Hid (dQ ((n0,[bS,x1,x2])::bs)):=ae (by
   have:=tI (n0:=n0) (ns:=[]) I1.out I2.out HB.out (fun x hx=>by simp at hx) (by rw[HL.out,EI.out];exact hj) (fun h=>absurd rfl h);rw[List.append_nil] at this;exact this)
  have HLP:Hid (∀x,((n0,[bS,x1,x2])::bs).getLast?=some x->x.2.head?≠some cj):=ae (by
   have:=mE (n0:=n0) (x1:=x1) (x2:=x2) (ns:=[]) HB.out (fun x hx=>by simp at hx);rw[List.append_nil] at this;exact this)
  by_cases hlt:j<I
  . have hzj:(j:Int)<I:=om
    go_wp2_with fail;refine (@aaK c bl wbj nj (w.heap.size+1) (w.heap.size+1+1) j j cL cH aL aH L [] _ _ (sL bs) (sH bs) xL xH _ _ wr RX.out GX.out SO.out (by unfold sL;rw[List.length_map];exact HL.out) (by unfold sH;rw[List.length_map];exact HL.out) om om om om om hzr om om).mono ?_;rintro e w2 ⟨B2,⟨e2,rfl⟩ | ⟨n2,l2,rest2,e2,⟨hno,rfl⟩ | ⟨y1,y2,wb2,aL2,cL2,aH2,cH2,xL2,xH2,rfl,k1,k2,rfl,R2,hw2,e2',g2,SO2⟩⟩⟩
    . have C2:cF c w w2:=C.chg3 B2
      have HE:Hid (kn LS):=ae (by
       rw[EL.out,e2,List.append_nil];exact⟨HPRE.out,HLP.out⟩)
      clear e2;unfold cg;go_wp2;exact⟨rfl,C2,Or.inr (Or.inl ⟨HE.out,rfl⟩)⟩
    . have C2:cF c w w2:=C.chg3 B2
      have HE:Hid (kP LS n2):=ae (by
       rw[EL.out,e2];exact⟨(n0,[bS,x1,x2])::bs,l2,rest2,rfl,HPRE.out,fun hm=>hno ((xK (by rw[HL.out,EI.out];exact hlt)).1 hm)⟩)
      clear e2 hno;unfold cg;go_wp2;exact⟨rfl,C2,Or.inl ⟨n2,HE.out,rfl⟩⟩
    have C2:cF c w w2:=C.chg3 B2;have z2:=B2.size;have BX2:=ae (BX.out.aR B2 om);have elL:(sL bs).length=j:=by unfold sL;rw[List.length_map];exact HL.out
    have elH:(sH bs).length=j:=by unfold sH;rw[List.length_map];exact HL.out
    rw[elL,elH] at g2 SO2;have GX2:=ae g2
    have SO2':Hid (vl w2 (w.heap.size+1+1) (w.heap.size+1) (.slice aL2 (j+1) cL2) (.slice aH2 (j+1) cH2) (sL (bs++[(n2,[ie,y1,y2])])) (sH (bs++[(n2,[ie,y1,y2])])) xL2 xH2):=ae (by
     unfold sL sH at SO2⊢;rw[List.map_append,List.map_append];exact SO2)
    have EL2:Hid (LS=(n0,[bS,x1,x2])::((bs++[(n2,[ie,y1,y2])])++cK n2 (L.drop n2))):=ae (by rw[EL.out,e2,e2'];simp);have HL2:Hid ((bs++[(n2,[ie,y1,y2])]).length=j+1):=ae (by simp;exact HL.out)
    have HB2:Hid (vs (bs++[(n2,[ie,y1,y2])])):=ae (fun b hb=>by
     rcases List.mem_append.1 hb with hb | hb
     . exact HB.out b hb
     . simp at hb;subst hb;exact⟨y1,y2,rfl,k1,k2⟩)
    have RX2:=ae R2;have hzr2:w.heap.size+1+1<=w2.heap.size:=om
    clear e2 e2' R2 g2 SO2 B2 elL elH;go_wp2;go_roundw
    case rel=>exact⟨j+1,n2,wb2,cL2,cH2,aL2,aH2,bs++[(n2,[ie,y1,y2])],xL2,xH2,om,by go_num,C2,hzr2,BX2,GX2,SO2',RX2,EL2,HL2,HB2⟩
    case measure=>simp[intOf];omega
  . have e:j=I:=om
    subst e;have hzj:¬((j:Int)<j):=om
    go_wp2_with fail;refine (@lI wr).mono ?_;rintro e w2 ⟨rfl,K2,s2⟩;have C2:=C.aY s2;have z2:=s2.size;obtain⟨H,hH⟩:∃H,wr.heap.size=H:=⟨_,rfl⟩;have SQ2:Hid (ma w2 (w.heap.size+1+1) H (w.heap.size+1) (.slice aL j cL) (.slice aH j cH) (sL bs) (sH bs) xL xH):=ae (by rw[<-hH];exact SO.out.q.aA s2);have BX2:=BX.out.aA s2;have GX2:=GX.out.aA s2;have RX2:=RX.out.aA s2;have hKl:=K2.lt;rw[hH] at K2 hKl z2 hzr⊢;have HKK:=ae K2;clear hH SO BX GX RX K2 s2;go_wp2_with fail;refine (@kZ c bl wbj nj L [] w2 RX2).mono ?_;rintro e w3 ⟨B3,⟨e3,rfl⟩ | ⟨n3,l3,rest3,wb3,e3,rfl,R3,hw3,e3',hl3⟩⟩
    . have HE:Hid (kn LS):=ae (by
       rw[EL.out,e3,List.append_nil];exact⟨HPRE.out,HLP.out⟩)
      clear e3;unfold cg;go_wp2;exact⟨rfl,C2.trans B3,Or.inr (Or.inl ⟨HE.out,rfl⟩)⟩
    have z3:=B3.size;have C3:=C2.trans B3;have BX3:=ae (BX2.aM B3 om);have GX3:=ae (GX2.aM B3 om);have SQ3:=ae (SQ2.out.aR B3.c (fun q e=>by omega));have K3:=ae (HKK.out.aM B3 om);have EL3:Hid (LS=((n0,[bS,x1,x2])::(bs++[]))++(n3,l3)::cK n3 (L.drop n3)):=ae (by rw[EL.out,e3,e3'];simp);have O3:Hid (kM w3 H (.n) 0 (lw []) [] []):=ae ⟨rfl,World.ownsRow_nil _ _ _ _,fun i hi=>absurd hi om⟩;have R3':=ae R3;have hH3:H<w3.heap.size:=om
    have hwb3:H<=wb3:=om
    clear e3 e3' R3 BX2 GX2 RX2 SQ2 HKK;go_wp2_with fail
    go_loopw [] (fun wr=>∃(n wbk kN cN:Nat) (aN:Option Addr) (ws:List ByteArray) (ns:List (Nat×List ByteArray)) (xN:List Value) (zs:List (List Value)),cF c w wr/\H<wr.heap.size/\H<=wbk/\0<ws.length/\Hid (au wr w.heap.size (.i 0) (.i 0) (.n) (.n) (.n) (.i 0))/\Hid (au wr (w.heap.size+1) (.i (j:Int)) (.i (RD:Int)) (.slice aL j cL) (.slice aH j cH) (.slice aN kN cN) (.i 0))/\Hid (ma wr (w.heap.size+1+1) H (w.heap.size+1) (.slice aL j cL) (.slice aH j cH) (sL bs) (sH bs) xL xH)/\Hid (kM wr H (.slice aN kN cN) kN (lw ns) xN zs)/\Hid (oz H wr.heap.size zs.flatten)/\Hid (dg wr H)/\Hid (iy wr c bl wbk L n ws)/\Hid (∀g,(Value.slice aN kN cN).ownBlock=some g->g≠wbk/\H<g)/\Hid (LS=((n0,[bS,x1,x2])::(bs++ns))++(n,ws)::cK n (L.drop n))/\Hid (ns.length=kN)/\Hid (vn ns)) (fun wr=>L.length-(intOf ((wr.cell? (jj c 1)).getD undef)).toNat)
    case atStart=>exact⟨n3,wb3,0,0,none,l3,[],[],[],C3,hH3,hwb3,hl3,BX3,GX3,SQ3,O3,ae (oz.nil _ _),K3,R3',ae (fun g e=>by simp[Value.ownBlock] at e),EL3,ae rfl,ae (fun x hx=>by simp at hx)⟩
    case round=>
     clear C3 hH3 hwb3 hl3 BX3 GX3 SQ3 O3 K3 R3' EL3 z3 B3 C C2;obtain⟨n,wbk,kN,cN,aN,ws,ns,xN,zs,C,hHr,hHw,hws,BX,GX,SQ,ON,AP,KX,RX,HG,EL2,HKN,HNS⟩:=hrel;have HPRE:Hid (dQ ((n0,[bS,x1,x2])::(bs++ns))):=ae (tI I1.out I2.out HB.out HNS.out (by rw[HL.out,EI.out];exact Nat.le_refl _) (fun _=>by rw[HL.out,EI.out]));have HLP:=ae (mE (n0:=n0) (x1:=x1) (x2:=x2) HB.out HNS.out);have HNJ:Hid (¬(bs++ns).length<dv x1 x1.size):=ae (by rw[List.length_append,HL.out,EI.out];omega)
     have hkN:kN<=100001:=by
      have h9:=congrArg List.length EL2.out;rw[List.length_append,List.length_cons,List.length_append,HKN.out] at h9;have:=HLL.out;omega
     have hnL:=RX.out.tl
     match ws,hws,RX,EL2 with
     | x::r,_,RX,EL2=>
     obtain⟨vv,q2,av,offv,capv,rfl,hcapv,hcv⟩:=RX.out.c2;obtain⟨rfl,hx0⟩:=hcv 0 x rfl;have hx0:wr.cell? (jj wbk offv)=some (.string x):=hx0;have q2:wr.cell? (jj c 2)=some (.slice (jp wbk offv) (r.length+1) capv):=q2;have hrl:(0:Int)<(r.length:Int)+1:=om
     clear hcv hcapv
     by_cases hx:x.toList=(⟨#[111,117,116,112,117,116]⟩:ByteArray).toList
     . have hx':x.toList=[111,117,116,112,117,116]:=by rw[hx];decide+kernel
       have hbe:(x.toList==(⟨#[111,117,116,112,117,116]⟩:ByteArray).toList)=true:=by simpa using hx
       have hbe2:(x.toList==[111,117,116,112,117,116])=true:=by simpa using hx'
       have HX:Hid (x=cj):=ae (mr.1 hx);clear hx;go_wp2_with fail;refine (@qO cj c bl wbk n L (x::r) wr RX.out).mono ?_;rintro e w4 ⟨B4,⟨h4,-⟩ | ⟨r4,h4,rfl,R4⟩⟩
       . exact absurd (by rw[HX.out]) (h4 r)
       simp only[List.cons.injEq] at h4;obtain⟨-,rfl⟩:=h4;clear q2 hx0;go_wp2_with fail;refine (@nG c bl wbk n L r w4 R4).mono ?_;rintro e w5 ⟨B5,⟨h5,rfl⟩ | ⟨xo,r5,h5,io,rfl,R5⟩⟩
       . have HE:Hid (kP LS n):=ae ⟨_,_,_,EL2.out,HPRE.out,fun hm=>by
          rcases (kE HNJ.out HLP.out).1 hm with hq | hq
          . exact hq.nout (by rw[HX.out];rfl)
          . obtain⟨y,e,jy⟩:=iS.1 hq
            simp only[List.cons.injEq] at e;exact h5 y [] e.2 jy⟩
         have C5:=(C.trans B4).trans B5;clear h5;unfold cg;go_wp2;exact⟨rfl,C5,Or.inl ⟨n,HE.out,rfl⟩⟩
       subst h5;have g5:=(GX.out.aM B4 om).aM B5 om;obtain⟨V,hV⟩:∃V,dv xo xo.size=V:=⟨_,rfl⟩;rw[hV];have HV:=ae hV;have IXO:=ae io;have m5:=g5.c5;have f5:=g5.f 5;have BS:cF (w.heap.size+1) w5 (w5.setCell (jj (w.heap.size+1) 5) (.i (V:Int))):=(cF.refl _ w5).set 5 _;have g6:=g5.aO (.i (V:Int));have R6:=R5.aI BS om om om;have z4:=B4.size;have z5:=B5.size;have z6:=BS.size;have C6:cF c w (w5.setCell (jj (w.heap.size+1) 5) (.i (V:Int))):=((C.trans B4).trans B5).aR BS.c (fun q e=>by omega);have SQ6:=ae (((SQ.out.aR B4.c (fun q e=>by omega)).aR B5.c (fun q e=>by omega)).aR BS.c (fun q e=>by omega));have ON6:=ae (((ON.out.aR B4.c (fun q e=>by omega)).aR B5.c (fun q e=>by omega)).aR BS.c (fun q e=>by omega));have BX6:=((BX.out.aM B4 om).aM B5 om).aM BS om;clear hV io;go_wp2_with fail;generalize w5.setCell (jj (w.heap.size+1) 5) (.i (V:Int))=w6 at*;refine (@oh c bl wbk n L r5 w6 R6).mono ?_;rintro e w7 ⟨rfl,⟨h7,rfl⟩ | ⟨h7,rfl⟩⟩
       rotate_left
       . have HE:Hid (kP LS n):=ae ⟨_,_,_,EL2.out,HPRE.out,fun hm=>by
          rcases (kE HNJ.out HLP.out).1 hm with hq | hq
          . exact hq.nout (by rw[HX.out];rfl)
          . obtain⟨y,e,jy⟩:=iS.1 hq
            simp only[List.cons.injEq] at e;exact h7 e.2.2⟩
         clear h7;unfold cg;go_wp2;exact⟨rfl,C6,Or.inl ⟨n,HE.out,rfl⟩⟩
       subst h7;have HGO:Hid (dQ (((n0,[bS,x1,x2])::(bs++ns))++[(n,[x,xo])])):=ae (HPRE.out.snoc ((kE HNJ.out HLP.out).2 (Or.inr (iS.2 ⟨xo,by rw[HX.out],IXO.out⟩))));clear m5 f5;go_wp2_with fail;refine (@ad4 c bl wbk n L [] w7 R6).mono ?_;rintro e w8 ⟨B8,⟨e8,rfl⟩ | ⟨n8,x8,r8,e8,rfl⟩⟩
       rotate_left
       . have HE:Hid (kP LS n8):=ae (by
          refine⟨((n0,[bS,x1,x2])::(bs++ns))++[(n,[x,xo])],x8,r8, ?_,HGO.out, ?_⟩
          . rw[EL2.out,e8];simp
          . rw[List.cons_append]
            exact acl (by rw[List.length_append];have:=HNJ.out;omega) (by rw[HX.out];rfl))
         clear e8;unfold cg;go_wp2;exact⟨rfl,C6.trans B8,Or.inl ⟨n8,HE.out,rfl⟩⟩
       have HGOOD:Hid (ke LS x1 x2 xo bs ns):=ae ⟨⟨n0,n,by rw[EL2.out,e8,HX.out];simp⟩,I1.out,I2.out,IXO.out,by rw[HL.out,EI.out],HB.out,HNS.out⟩;have g8:=g6.aM B8 om;have b8:=BX6.aM B8 om;have z8:=B8.size;have SQ8:=ae (SQ6.out.aR B8.c (fun q e=>by omega));have ON8:=ae (ON6.out.aR B8.c (fun q e=>by omega));have C8:=C6.trans B8;obtain⟨m0,m1,m2,m3,m4,m5⟩:=g8.g;obtain⟨k0,k1,k2,k3,k4,k5⟩:=b8.g;obtain⟨l0,l1,l2,l3,l4,l5⟩:=b8.k;clear e8 SQ6 ON6 SQ ON;go_wp2;have rC:=(((((b8.aE (.i (j:Int))).aG (.i (RD:Int))).aF (.slice aL j cL)).aK (.slice aH j cH)).aS (.slice aN kN cN)).aO (.i (V:Int));refine bodyPost_ret (dn rfl Tryz.underlying26 rfl fp _ _ _ _ _ _ _ _ _ rfl rC) rfl ?_;have M:af w8 _ w.heap.size:=((((((af.refl w8 _).setCell 0 (.i (j:Int))).setCell 1 (.i (RD:Int))).setCell 2 (.slice aL j cL)).setCell 3 (.slice aH j cH)).setCell 4 (.slice aN kN cN)).setCell 5 (.i (V:Int));have BT:=((((((cF.refl w.heap.size w8).set 0 (.i (j:Int))).set 1 (.i (RD:Int))).set 2 (.slice aL j cL)).set 3 (.slice aH j cH)).set 4 (.slice aN kN cN)).set 5 (.i (V:Int));refine⟨C8.marked M (Nat.le_refl _),Or.inr (Or.inr ⟨x1,x2,xo,bs,ns,aL,cL,aH,cH,aN,cN,xL,xH,xN,zs,w.heap.size+1+1,H,w.heap.size+1,HGOOD.out, ?_,om,hzr, ?_, ?_,_,AP.out⟩)⟩
       . rw[HL.out,HKN.out,HV.out,ER.out,EI.out]
       . rw[HL.out]
         exact SQ8.out.aR BT.c (fun q e=>by omega)
       . rw[HKN.out]
         exact ON8.out.aR BT.c (fun q e=>by omega)
     . have hx':¬x.toList=[111,117,116,112,117,116]:=fun e=>hx (by rw[e];decide+kernel)
       have hbe:(x.toList==(⟨#[111,117,116,112,117,116]⟩:ByteArray).toList)=false:=by simpa using hx
       have hbe2:(x.toList==[111,117,116,112,117,116])=false:=by simpa using hx'
       have HX:Hid (x≠cj):=ae (fun e=>hx (mr.2 e));clear hx;have p4:=GX.out.c4
       by_cases hnd:eW (x::r)
       rotate_left
       . have JP:Cl 81 #[.p c 0,.map (some H)] wr.drew fun e w'=>cF c wr w'/\e=cg n:=by
          have dr:=sT wr;refine (@ug c bl wbk n H L (x::r) wr.drew (RX.out.aA dr) qz (KX.out.aA dr) om).mono ?_;rintro e w' ⟨Bq,⟨-,he⟩ | ⟨hn,-⟩⟩
          . exact⟨(cF.of dr).trans Bq,he⟩
          . exact absurd hn hnd
         have HE:Hid (kP LS n):=ae ⟨_,_,_,EL2.out,HPRE.out,fun hm=>by
          rcases (kE HNJ.out HLP.out).1 hm with hq | hq
          . exact hnd hq
          . obtain⟨y,e,jy⟩:=iS.1 hq
            simp only[List.cons.injEq] at e;exact HX.out e.1⟩
         clear hnd;go_wp2_with fail;refine wp_region_held_drew (S:=fun w'=>w'.cell? (jj (w.heap.size+1) 4)=some (.slice aN kN cN)) kr ?_ (fun hHeld=> ?_)
         . simpa using p4
         refine ta 0 25 (.p (w.heap.size+1) 4) ?_ ?_
         . intro w' hSw
           try dsimp only at hSw
           go_simp
         simp only[ap,la,lz,List.set_cons_succ];refine ta 1 26 (.slice aN kN cN) ?_ ?_
         . intro w' hSw
           try dsimp only at hSw
           go_simp
         simp only[ap,la,lz,List.set_cons_succ];refine ta 2 27 (.p c 0) ?_ ?_
         . intro w' hSw
           try dsimp only at hSw
           go_simp
         simp only[ap,la,lz,List.set_cons_succ];refine ta 3 28 (.map (some H)) ?_ ?_
         . intro w' hSw
           try dsimp only at hSw
           go_simp
         simp only[ap,la,lz,List.set_cons_succ];refine wpAnyH_ready (rs:=[4]) kr qz ?_;refine AllReadyH.cons rfl (fun K hK=> ?_) AllReadyH.nil;go_simp;refine JP.mono ?_;rintro e w4 ⟨B4,rfl⟩;unfold cg;have C4:=C.trans B4;clear JP;go_wp2;exact⟨rfl,C4,Or.inl ⟨n,HE.out,rfl⟩⟩
       have dr:=sT wr;have HND:=ae hnd
       have JO:Cl 81 #[.p c 0,.map (some H)] wr.drew fun e w'=>cF c wr w'/\∃a cap F xs,e=.returned (.agg #[.i (nD (x::r)).op,.i (nD (x::r)).a,.i (nD (x::r)).b,.i (nD (x::r)).k,.i (nD (x::r)).s,.slice a (vw (x::r)).length cap])/\qF w' wr.heap.size (.slice a (vw (x::r)).length cap) (vw (x::r)).length (wd (vw (x::r))) F xs/\iy w' c bl wbk L n []:=by
        refine (@ug c bl wbk n H L (x::r) wr.drew (RX.out.aA dr) qz (KX.out.aA dr) om).mono ?_;rintro e w' ⟨Bq,⟨hn,-⟩ | ⟨-,a,cap,F,xs,he,hO,hR⟩⟩
        . exact absurd HND.out hn
        . exact⟨(cF.of dr).trans Bq,a,cap,F,xs,he,hO,hR⟩
       obtain⟨zo,hzo⟩:∃z,(nD (x::r)).op=z:=⟨_,rfl⟩;obtain⟨za,hza'⟩:∃z,(nD (x::r)).a=z:=⟨_,rfl⟩;obtain⟨zb,hzb⟩:∃z,(nD (x::r)).b=z:=⟨_,rfl⟩;obtain⟨zk,hzk⟩:∃z,(nD (x::r)).k=z:=⟨_,rfl⟩;obtain⟨zs',hzs⟩:∃z,(nD (x::r)).s=z:=⟨_,rfl⟩;obtain⟨nv,hnv⟩:∃z,(vw (x::r)).length=z:=⟨_,rfl⟩;rw[hzo,hza',hzb,hzk,hzs,hnv] at JO;have HZ:=ae (And.intro hzo (And.intro hza' (And.intro hzb (And.intro hzk (And.intro hzs hnv)))));clear hzo hza' hzb hzk hzs hnv hnd;have own9:∀g,(Value.slice aN kN cN).ownBlock=some g->H<=g/\g<wr.heap.size:=fun g e=>ON.out.own.lt g e
       have nod9:(Value.slice aN kN cN).ownBlock≠some (w.heap.size+1):=fun e=>by have:=own9 _ e;omega
       have p4':wr.drew.cell? (jj (w.heap.size+1) 4)=some (.slice aN kN cN):=p4;have f4:=GX.out.f 4
       go_upto_region 10 with fail
       go_cut [] (fun wx=>∃(g5 c5:Nat) (x5:List Value) (z5:List (List Value)),cF c w wx/\H<wx.heap.size/\Hid (au wx w.heap.size (.i 0) (.i 0) (.n) (.n) (.n) (.i 0))/\Hid (au wx (w.heap.size+1) (.i (j:Int)) (.i (RD:Int)) (.slice aL j cL) (.slice aH j cH) (.s g5 (kN+1) c5) (.i 0))/\Hid (ma wx (w.heap.size+1+1) H (w.heap.size+1) (.slice aL j cL) (.slice aH j cH) (sL bs) (sH bs) xL xH)/\Hid (kM wx H (.s g5 (kN+1) c5) (kN+1) (lw (ns++[(n,x::r)])) x5 z5)/\Hid (oz H wx.heap.size z5.flatten)/\Hid (dg wx H)/\Hid (iy wx c bl wbk L n [])/\g5<wx.heap.size/\H<g5)
       case first=>
        go_region_law
         (first
           | (refine step_append_lies _ rfl _ _ 24 rfl H 48 i0 _ 6 64 Tryz.underlying24 hi hz0 hz1 hz2 rfl qd _ kN xN rfl (O4.out.own.alloc _) (jj w4.heap.size 0) 1 1 [.i zo,.i za,.i zb,.i zk,.i zs',.slice a4 nv c4] rfl rfl (agq _ _ _ _ _ _ _ _) (age _ _ _ _ _ _ _ _) qd (by unfold maxLen;omega) om (by simp;omega) (w4.heap.size+1) qz ?_
              intro g5 c5 w5 hown hgrow hat hlt5;have G5:=(G4.aA sW).bI (hgrow.block (w.heap.size+1) (by simp;omega) (fun e=>nod9 e.symm));have r5:=G5.c4;have rf5:=G5.f 4)
           | (go_simp
              go_at_call 81;with_reducible refine JO.mono ?_
              rintro e w4 ⟨B4,a4,c4,F4,x4,rfl,OF4,R4⟩;have OF4':=ae OF4;have sW:=bJ w4 (.cells #[.i zo,.i za,.i zb,.i zk,.i zs',.slice a4 nv c4] 48);have G4:=GX.out.aM B4 om;have t4:=G4.c4;have t4':=(G4.aA sW).c4;have O4:=ae (ON.out.aR B4.c (fun q e=>by omega));have z4:=B4.size;clear OF4))
        all_goals
         have zW:(w4.alloc (.cells #[.i zo,.i za,.i zb,.i zk,.i zs',.slice a4 nv c4] 48)).heap.size=w4.heap.size+1:=by simp
         have z5:=hgrow.size;obtain⟨hzo,hza',hzb,hzk,hzs,hnv⟩:=HZ.out;have hlk:lw (ns++[(n,x::r)]) kN=x::r:=by rw[<-HKN.out];exact zR _ _
         have N5:kM w5 H (.s g5 (kN+1) c5) (kN+1) (lw (ns++[(n,x::r)])) (xN++[.i zo,.i za,.i zb,.i zk,.i zs',.slice a4 nv c4]) (zs++[.slice a4 nv c4::x4]):=by
          have h9:=(O4.out.congr (N':=lw (ns++[(n,x::r)])) (fun i hi=>(acm (by rw[HKN.out];exact hi)).symm)).snoc (v':=.s g5 (kN+1) c5) (a:=a4) (cap:=c4) (xV:=x4) sW om hgrow;rw[hlk,hzo,hza',hzb,hzk,hzs,hnv] at h9;refine h9 hown ?_ ?_ ?_
          . rcases hat with h8 | h8
            . exact Or.inl h8.symm
            . right;rw[zW,h8];rfl
          . have h8:=OF4'.out.out
            refine (h8.lower (Nat.zero_le _)).imp' (fun i q _ _ hq=> ?_);have:=OF4'.out.lo;have:=pM OF4'.out.mono (Nat.zero_le i);exact⟨om,fun e=>by have:=own9 q e;omega⟩
          . intro q e
            have:=OF4'.out.out.own.lt q e;exact⟨om,fun e=>by have:=own9 q e;omega⟩
         have AP5:oz H w5.heap.size (zs++[.slice a4 nv c4::x4]).flatten:=by
          rw[List.flatten_append,List.flatten_cons,List.flatten_nil,List.append_nil]
          have h8:oz wr.heap.size w4.heap.size (.slice a4 nv c4::x4):=by
           have h7:=OF4'.out.apt;refine⟨fun u hu g e=> ?_,List.Pairwise.cons (fun u hu g e e'=> ?_) h7.2⟩
           . rcases List.mem_cons.1 hu with rfl | hu
             . exact OF4'.out.out.own.lt g (afq e)
             . exact h7.1 u hu g e
           . obtain⟨_,_,_,hv,_⟩:=OF4'.out.out.mem hu e'
             exact hv (afq e)
          exact (AP.out.append h8 (Nat.le_refl _) om z4).wide (Nat.le_refl _) om
         have BS:cF (w.heap.size+1) w5 (w5.setCell (jj (w.heap.size+1) 4) (.s g5 (kN+1) c5)):=(cF.refl _ w5).set 4 _;have z6:=BS.size;have CG:=jP.aJ hgrow;have N6:=ae (N5.aR BS.c (fun q e=>by omega));have AP6:Hid (oz H (w5.setCell (jj (w.heap.size+1) 4) (.s g5 (kN+1) c5)).heap.size (zs++[.slice a4 nv c4::x4]).flatten):=ae (AP5.wide (Nat.le_refl _) z6);have G6:=ae (G5.aS (.s g5 (kN+1) c5));have BX6:=ae ((((BX.out.aM B4 om).aA sW).aR CG (fun e=>by have:=own9 _ e;omega)).aM BS om);have SQ6:=ae ((((SQ.out.aR B4.c (fun q e=>by omega)).aA sW).aR CG (fun q e=>by have:=own9 q e;omega)).aR BS.c (fun q e=>by omega));have K6:=ae ((((KX.out.aM B4 om).aA sW).aR CG (fun e=>by have:=(HG.out _ e).2;omega)).aM BS om);have R6:=ae ((((R4.aA sW).aR CG (fun e=>by have:=own9 _ e;omega) (fun e=>by have:=own9 _ e;omega) (fun e=>(HG.out _ e).1 rfl))).aI BS om om om);have C6:cF c w (w5.setCell (jj (w.heap.size+1) 4) (.s g5 (kN+1) c5)):=(((C.trans B4).aY sW).aR CG (fun q e=>by have:=own9 q e;omega)).aR BS.c (fun q e=>by omega);have hg5:g5<(w5.setCell (jj (w.heap.size+1) 4) (.s g5 (kN+1) c5)).heap.size:=om
         have hg6:H<g5:=by
          rcases hat with h8 | h8
          . exact (HG.out _ h8).2
          . omega
         have hH6:H<(w5.setCell (jj (w.heap.size+1) 4) (.s g5 (kN+1) c5)).heap.size:=om
         clear N5 AP5 BS CG hown hgrow hat hlk JO hzo hza' hzb hzk hzs hnv;go_wp2_with fail
         go_meet
         case rel=>exact⟨g5,c5,_,_,C6,hH6,BX6,G6,SQ6,N6,AP6,K6,R6,hg5,hg6⟩
       case rest=>
       obtain⟨g5,c5,x5,z5,C6,hH6,BX6,G6,SQ6,N6,AP6,K6,R6,hg5,hg6⟩:=hcut;clear JO p4 p4' f4 q2 hx0 own9 nod9 BX GX SQ ON AP KX HG dr
       have HNS6:Hid (vn (ns++[(n,x::r)])):=ae (fun y hy=>by
        rcases List.mem_append.1 hy with hy | hy
        . exact HNS.out y hy
        . simp at hy;subst hy;exact HND.out)
       have HKN6:Hid ((ns++[(n,x::r)]).length=kN+1):=ae (by simp;exact HKN.out);go_wp2_with fail;refine (@kZ c bl wbk n L [] wc R6.out).mono ?_;rintro e w7 ⟨B7,⟨e7,rfl⟩ | ⟨n7,l7,rest7,wb7,e7,rfl,R7,hw7,e7',hl7⟩⟩
       . have HE:Hid (kn LS):=ae (by
          have e9:LS=(n0,[bS,x1,x2])::(bs++(ns++[(n,x::r)])):=by rw[EL2.out,e7];simp
          rw[e9];exact⟨tI I1.out I2.out HB.out HNS6.out (by rw[HL.out,EI.out];exact Nat.le_refl _) (fun _=>by rw[HL.out,EI.out]),mE HB.out HNS6.out⟩)
         clear e7;unfold cg;go_wp2;exact⟨rfl,C6.trans B7,Or.inr (Or.inl ⟨HE.out,rfl⟩)⟩
       have z7:=B7.size;have C7:=C6.trans B7;have BX7:=ae (BX6.out.aM B7 om);have G7:=ae (G6.out.aM B7 om);have SQ7:=ae (SQ6.out.aR B7.c (fun q e=>by omega));have N7:=ae (N6.out.aR B7.c (fun q e=>by omega));have AP7:=ae (AP6.out.wide (Nat.le_refl _) z7);have K7:=ae (K6.out.aM B7 om);have EL7:Hid (LS=((n0,[bS,x1,x2])::(bs++(ns++[(n,x::r)])))++(n7,l7)::cK n7 (L.drop n7)):=ae (by rw[EL2.out,e7,e7'];simp);have hgt:n<n7:=agv (t:=n) (L:=L.drop n) (r:=(n7,l7)) (by rw[e7];simp);have hn7:=R7.tl;have HG7:Hid (∀g,(Value.s g5 (kN+1) c5).ownBlock=some g->g≠wb7/\H<g):=ae (fun g e=>by simp[Value.ownBlock] at e;omega);have HM1:=ae RX.out.c1;have HM2:=ae R7.c1;have R7':=ae R7;clear e7 e7' R7 SQ6 N6 AP6 BX6 G6 K6 R6;go_wp2;go_roundw
       case rel=>exact⟨n7,wb7,kN+1,c5,jp g5 0,l7,ns++[(n,x::r)],x5,z5,C7,om,om,hl7,BX7,G7,SQ7,N7,AP7,K7,R7',HG7,EL7,HKN6,HNS6⟩
       case measure=>rw[HM1.out,HM2.out];simp[intOf];omega
theorem mS(d e f:Nat)(x0 x1 x2 x3 x4 x5:Value)(y z:Int)(n:Int)(w:World)(B:au w d x0 x1 x2 x3 x4 x5)(E:iX w e (.i y))(F:iX w f (.i z))(hde:d≠e)(hdf:d≠f)(hef:e≠f):
 CallsD Tryz.prog 36 #[.p d 0,.p e 0,.p f 0] (.panicking [{ v:=.iface 132 (.agg #[.i n]),recovered:=false }]) w fun r u' w'=>
  r=.returned (.tuple #[])/\u'=.panicking [{ v:=.iface 132 (.agg #[.i n]),recovered:=true }]/\au w' d (.i 0) (.i 0) (.n) (.n) (.n) (.i 0)/\iX w' e (.i 2)/\iX w' f (.i n)/\jP (fun q=>q=d∨q=e∨q=f) w w':=by
 refine callsD_of_wpS Tryz.func36 rfl fun c₀ cs hu=> ?_
 apply wpS_seq
 apply wpS_region
 simp[wpOpsS,go_sem,recoverD,hu,Tryz.ntmps36,Exit.thenS]
 refine wpS_of_wp ?_;go_wp2_with fail;refine (vu).mono ?_;rintro r w1 ⟨rfl,s1⟩;have B1:=B.aA s1;have E1:=E.aA s1;have F1:=F.aA s1;have b0:=B1.c0;have fb0:=B1.f 0;have b1:=B1.c1;have fb1:=B1.f 1;have b2:=B1.c2;have fb2:=B1.f 2;have b3:=B1.c3;have fb3:=B1.f 3;have b4:=B1.c4;have fb4:=B1.f 4;have b5:=B1.c5;have fb5:=B1.f 5;have BS:=(((((((cF.refl d w1).set 0 (.i 0)).set 1 (.i 0)).set 2 (.n)).set 3 (.n)).set 4 (.n)).set 5 (.i 0));have B2:=((((((B1.aE (.i 0)).aG (.i 0)).aF (.n)).aK (.n)).aS (.n)).aO (.i 0));have E2:=E1.aM BS (fun h=>hde h.symm);have F2:=F1.aM BS (fun h=>hdf h.symm);have e0:=E2.c0;have fe:=E2.f 0;have HC:=ae (And.intro BS (And.intro B2 (And.intro E2 F2)));obtain⟨wD,hwD⟩:∃x,x=((((((w1.setCell (jj d 0) (.i 0)).setCell (jj d 1) (.i 0)).setCell (jj d 2) (.n)).setCell (jj d 3) (.n)).setCell (jj d 4) (.n)).setCell (jj d 5) (.i 0)):=⟨_,rfl⟩;rw[<-hwD] at BS B2 E2 F2 e0 fe HC;have BS2:cF e wD (wD.setCell (jj e 0) (.i 2)):=(cF.refl e wD).set 0 _;have E3:iX (wD.setCell (jj e 0) (.i 2)) e (.i 2):=⟨j6 _ _ _ e0,fun q=>by simpa using E2.f q⟩;have F3:=F2.aM BS2 (fun h=>hef h.symm);have B3:=B2.aM BS2 hde;have f0:=F3.c0;have ff:=F3.f 0;have BS3:cF f (wD.setCell (jj e 0) (.i 2)) ((wD.setCell (jj e 0) (.i 2)).setCell (jj f 0) (.i n)):=(cF.refl f _).set 0 _;have F4:iX ((wD.setCell (jj e 0) (.i 2)).setCell (jj f 0) (.i n)) f (.i n):=⟨j6 _ _ _ f0,fun q=>by simpa using F3.f q⟩;have B4:=B3.aM BS3 hdf;have E4:=E3.aM BS3 hef;have CH:jP (fun q=>q=d∨q=e∨q=f) w ((wD.setCell (jj e 0) (.i 2)).setCell (jj f 0) (.i n)):=gc (gc (gc (rE ⟨rfl,rfl,rfl,Nat.le_refl _,fun _ _ _=>rfl⟩ s1) BS (Or.inl rfl)) BS2 (Or.inr (Or.inl rfl))) BS3 (Or.inr (Or.inr rfl));subst hwD;go_wp2
 simp[bodyPostS,results,Tryz.results36]
 exact⟨B4,E4,F4,CH⟩
theorem yq(d e f:Nat)(w:World):
 CallsD Tryz.prog 36 #[.p d 0,.p e 0,.p f 0] .returning w fun r u' w'=>r=.returned (.tuple #[])/\u'=.returning/\w'=w:=by
 refine callsD_of_wpS Tryz.func36 rfl fun c₀ cs hu=> ?_
 apply wpS_seq
 apply wpS_region
 simp[wpOpsS,go_sem,recoverD,hu,Tryz.ntmps36,Exit.thenS]
 refine wpS_of_wp ?_;go_wp2;cases c₀
 simp_all[bodyPostS,results,Tryz.results36]
theorem ja{fn:Func}{p q s:Tmp}(h:fn.results= #[.cell p 26,.cell q 3,.cell s 3])(tmps:Array Value)(w:World)(c d f:Nat)(x0 x1 x2 x3 x4 x5 y z:Value)
 (hp:tmps.getD p undef=.p c 0)(hq:tmps.getD q undef=.p d 0)(hs:tmps.getD s undef=.p f 0)(B:au w c x0 x1 x2 x3 x4 x5)(D:iX w d y)(F:iX w f z):(results fn tmps).run Tryz.prog w=.ok (.tuple #[.agg #[x0,x1,x2,x3,x4,x5],y,z]) w:=by
 have hp':tmps[p]?.getD undef=.p c 0:=by simpa using hp
 have hq':tmps[q]?.getD undef=.p d 0:=by simpa using hq
 have hs':tmps[s]?.getD undef=.p f 0:=by simpa using hs
 have hl:=run_loadVar_mid (P:=Tryz.prog) w c 0 26 [x0,x1,x2,x3,x4,x5] _ (fun j q hv=>by
  rcases j with _ | _ | _ | _ | _ | _ | j
  . simp at hv;subst hv;exact B.c0
  . simp at hv;subst hv;exact B.c1
  . simp at hv;subst hv;exact B.c2
  . simp at hv;subst hv;exact B.c3
  . simp at hv;subst hv;exact B.c4
  . simp at hv;subst hv;exact B.c5
  . simp at hv) Tryz.underlying26 rfl fp
 have d0:=D.c0;have f0:=F.c0;have hl2:(loadVar 3 (jj d 0)).run Tryz.prog w=.ok y w:=by simp[go_sem,d0]
 have hl3:(loadVar 3 (jj f 0)).run Tryz.prog w=.ok z w:=by simp[go_sem,f0]
 simp[results,h,hp',hq',hs',asAddr,hl,hl2,hl3]
def zG:Value:=.agg #[.int .i64 0,.int .i64 0,.slice none 0 0,.slice none 0 0,.slice none 0 0,.int .i64 0]
structure aiX(w:World)(lo0:Nat)(bs ns:List (Nat×List ByteArray))(aL aH aN:Option Addr)(cL cH cN:Nat)(xL xH xN:List Value)(zs:List (List Value))(lo hi d:Nat):Prop where
 l0:lo0<=lo
 l1:lo<=hi
 S:ma w lo hi d (.slice aL bs.length cL) (.slice aH bs.length cH) (sL bs) (sH bs) xL xH
 N:kM w hi (.slice aN ns.length cN) ns.length (lw ns) xN zs
 A:∃hi',oz hi hi' zs.flatten
def PgE(w w':World)(s:ByteArray)(ls:List (Nat×List ByteArray))(T:Nat)(e:Ending):Prop:=
 (20000<s.size/\e=.returned (.tuple #[zG,.int .i64 1,.int .i64 0]))∨
 (s.size<=20000/\∃p:Nat,kP ls p/\e=.returned (.tuple #[zG,.int .i64 2,.int .i64 (p:Int)]))∨
 (s.size<=20000/\kn ls/\e=.returned (.tuple #[zG,.int .i64 2,.int .i64 ((T:Int)+1)]))∨
 (s.size<=20000/\∃x1 x2 xo bs ns aL cL aH cH aN cN xL xH xN zs lo hi d,ke ls x1 x2 xo bs ns/\e=.returned (.tuple #[.agg #[.int .i64 (dv x1 x1.size:Nat),.int .i64 (dv x2 x2.size:Nat),.slice aL bs.length cL,.slice aH bs.length cH,.slice aN ns.length cN,.int .i64 (dv xo xo.size:Nat)],.int .i64 0,.int .i64 0])/\aiX w' w.heap.size bs ns aL aH aN cL cH cN xL xH xN zs lo hi d)
theorem pj{s:ByteArray}{w:World}(hs:s.size<=9223372036854775807):
 Cl 9 #[.string s] w fun e w'=>w.S w'/\PgE w w' s (cK 0 (fN 10 s)) (fN 10 s).length e:=by
 have hmf:∀(fn:Fn) (first cap:Array Value) (w:World),(Instr.makeFunc fn first cap).run Tryz.prog w=.ok (.func fn first cap) w:=fun _ _ _ _=>rfl
 have SB:w.S (((w.alloc (.cells #[.i 0,.i 0,.n,.n,.n,.i 0] 26)).alloc (.cells #[.i 0] 3)).alloc (.cells #[.i 0] 3)):=((bJ _ _).alloc qz _).alloc (by simp;omega) _;have s2:(w.alloc (.cells #[.i 0,.i 0,.n,.n,.n,.i 0] 26)).Since (w.alloc (.cells #[.i 0,.i 0,.n,.n,.n,.i 0] 26)).heap.size ((w.alloc (.cells #[.i 0,.i 0,.n,.n,.n,.i 0] 26)).alloc (.cells #[.i 0] 3)):=bJ _ _;have s3:((w.alloc (.cells #[.i 0,.i 0,.n,.n,.n,.i 0] 26)).alloc (.cells #[.i 0] 3)).Since ((w.alloc (.cells #[.i 0,.i 0,.n,.n,.n,.i 0] 26)).alloc (.cells #[.i 0] 3)).heap.size (((w.alloc (.cells #[.i 0,.i 0,.n,.n,.n,.i 0] 26)).alloc (.cells #[.i 0] 3)).alloc (.cells #[.i 0] 3)):=bJ _ _;have bA:=((au.new w (.i 0) (.i 0) (.n) (.n) (.n) (.i 0) 26).aA s2).aA s3;have bB:=(iX.new (w.alloc (.cells #[.i 0,.i 0,.n,.n,.n,.i 0] 26)) (.i 0) 3).aA s3;have bC:=iX.new ((w.alloc (.cells #[.i 0,.i 0,.n,.n,.n,.i 0] 26)).alloc (.cells #[.i 0] 3)) (.i 0) 3;rw[show (w.alloc (.cells #[.i 0,.i 0,.n,.n,.n,.i 0] 26)).heap.size=w.heap.size+1 by simp] at bB;rw[show ((w.alloc (.cells #[.i 0,.i 0,.n,.n,.n,.i 0] 26)).alloc (.cells #[.i 0] 3)).heap.size=w.heap.size+1+1 by simp] at bC;have ZB:(((w.alloc (.cells #[.i 0,.i 0,.n,.n,.n,.i 0] 26)).alloc (.cells #[.i 0] 3)).alloc (.cells #[.i 0] 3)).heap.size=w.heap.size+1+1+1:=by simp
 clear s2 s3;have HLS:=ae (show True from trivial)
 by_cases hlong:20000<s.size
 . have hzl:(20000:Int)<(s.size:Int):=om
   have a0:=bA.c0;have fa0:=bA.f 0;have a1:=bA.c1;have fa1:=bA.f 1;have a2:=bA.c2;have fa2:=bA.f 2;have a3:=bA.c3;have fa3:=bA.f 3;have a4:=bA.c4;have fa4:=bA.f 4;have a5:=bA.c5;have fa5:=bA.f 5;have p0:=bB.c0;have pf:=bB.f 0;have q0:=bC.c0;have qf:=bC.f 0
   go_enter_defers Tryz.func9,Tryz.ntmps9
   go_wp2_with fail;have r2:(w.alloc (.cells #[.i 0,.i 0,.n,.n,.n,.i 0] 26)).Since (w.alloc (.cells #[.i 0,.i 0,.n,.n,.n,.i 0] 26)).heap.size ((w.alloc (.cells #[.i 0,.i 0,.n,.n,.n,.i 0] 26)).alloc (.cells #[.i 1] 3)):=bJ _ _;have r3:((w.alloc (.cells #[.i 0,.i 0,.n,.n,.n,.i 0] 26)).alloc (.cells #[.i 1] 3)).Since ((w.alloc (.cells #[.i 0,.i 0,.n,.n,.n,.i 0] 26)).alloc (.cells #[.i 1] 3)).heap.size (((w.alloc (.cells #[.i 0,.i 0,.n,.n,.n,.i 0] 26)).alloc (.cells #[.i 1] 3)).alloc (.cells #[.i 0] 3)):=bJ _ _;have dA:=((au.new w (.i 0) (.i 0) (.n) (.n) (.n) (.i 0) 26).aA r2).aA r3;have dB:=(iX.new (w.alloc (.cells #[.i 0,.i 0,.n,.n,.n,.i 0] 26)) (.i 1) 3).aA r3;have dC:=iX.new ((w.alloc (.cells #[.i 0,.i 0,.n,.n,.n,.i 0] 26)).alloc (.cells #[.i 1] 3)) (.i 0) 3;rw[show (w.alloc (.cells #[.i 0,.i 0,.n,.n,.n,.i 0] 26)).heap.size=w.heap.size+1 by simp] at dB;rw[show ((w.alloc (.cells #[.i 0,.i 0,.n,.n,.n,.i 0] 26)).alloc (.cells #[.i 1] 3)).heap.size=w.heap.size+1+1 by simp] at dC;exact⟨_,ja rfl _ _ _ _ _ _ _ _ _ _ _ _ _ rfl rfl rfl dA dB dC,((bJ _ _).alloc qz _).alloc (by simp;omega) _,Or.inl ⟨hlong,rfl⟩⟩
 have hzl:¬(20000:Int)<(s.size:Int):=om
 have hle:s.size<=20000:=om
 obtain⟨LS,hLS⟩:∃LS,LS=cK 0 (fN 10 s):=⟨_,rfl⟩;have HLS:=ae hLS;rw[<-hLS];clear hLS;obtain⟨T,hT⟩:∃T,(fN 10 s).length=T:=⟨_,rfl⟩;rw[hT];have HT:=ae hT;clear hT
 go_enter_defers Tryz.func9,Tryz.ntmps9
 go_wp2_with fail;generalize ((w.alloc _).alloc _).alloc _=wB at*;refine (aaU om).mono ?_;rintro e w1 ⟨c,bl,rfl,R1,hc,s1⟩;have S1:=SB.tr s1;have bA1:=bA.aA s1;have bB1:=bB.aA s1;have bC1:=bC.aA s1;have z1:=s1.size;have JG:=yR R1;rw[List.drop_zero,<-HLS.out,HT.out] at JG;go_wp2_with fail;refine JG.mono ?_;rintro e w2 ⟨B2,⟨p,hbad,rfl⟩ | ⟨hend,rfl⟩ | ⟨x1,x2,xo,bs,ns,aL,cL,aH,cH,aN,cN,xL,xH,xN,zs,lo,hi,d,hg,rfl,hl0,hl1,SQ,ON,AP⟩⟩
 . unfold cg
   have HB:=ae hbad;clear hbad JG;go_wp2_with fail;have bA2:=bA1.aM B2 om;have bB2:=bB1.aM B2 om;have bC2:=bC1.aM B2 om;refine leaves_cons (f:=36) (args:= #[.p w.heap.size 0,.p (w.heap.size+1) 0,.p (w.heap.size+1+1) 0]) qz (by simp[go_sem]) ?_;refine (mS w.heap.size (w.heap.size+1) (w.heap.size+1+1) _ _ _ _ _ _ _ _ (p:Int) w2 bA2 bB2 bC2 om om om).mono ?_;rintro e u' w3 ⟨rfl,rfl,a3,b3,d3,C3⟩;have S2:=fY S1 (Nat.le_refl _) B2.c (fun q hq e=>by have:=SB.size;omega);have S3:=fY S2 (Nat.le_refl _) C3 (fun q hq e=>by omega);exact⟨_,ja rfl _ _ _ _ _ _ _ _ _ _ _ _ _ rfl rfl rfl a3 b3 d3,S3,Or.inr (Or.inl ⟨hle,p,HB.out,rfl⟩)⟩
 . unfold cg
   have HB:=ae hend;clear hend JG;go_wp2_with fail;have bA2:=bA1.aM B2 om;have bB2:=bB1.aM B2 om;have bC2:=bC1.aM B2 om;refine leaves_cons (f:=36) (args:= #[.p w.heap.size 0,.p (w.heap.size+1) 0,.p (w.heap.size+1+1) 0]) qz (by simp[go_sem]) ?_;refine (mS w.heap.size (w.heap.size+1) (w.heap.size+1+1) _ _ _ _ _ _ _ _ ((T:Int)+1) w2 bA2 bB2 bC2 om om om).mono ?_;rintro e u' w3 ⟨rfl,rfl,a3,b3,d3,C3⟩;have S2:=fY S1 (Nat.le_refl _) B2.c (fun q hq e=>by have:=SB.size;omega);have S3:=fY S2 (Nat.le_refl _) C3 (fun q hq e=>by omega);exact⟨_,ja rfl _ _ _ _ _ _ _ _ _ _ _ _ _ rfl rfl rfl a3 b3 d3,S3,Or.inr (Or.inr (Or.inl ⟨hle,HB.out,rfl⟩))⟩
 have S2:=fY S1 (Nat.le_refl _) B2.c (fun q hq e=>by have:=SB.size;omega);have bA2:=bA1.aM B2 om;have bB2:=bB1.aM B2 om;have bC2:=bC1.aM B2 om;have a0:=bA2.c0;have fa0:=bA2.f 0;have a1:=bA2.c1;have fa1:=bA2.f 1;have a2:=bA2.c2;have fa2:=bA2.f 2;have a3:=bA2.c3;have fa3:=bA2.f 3;have a4:=bA2.c4;have fa4:=bA2.f 4;have a5:=bA2.c5;have fa5:=bA2.f 5;have HG:=ae hg;have HSQ:=ae SQ;have HON:=ae ON;have HAP:=ae AP;obtain⟨V1,hV1⟩:∃V,dv x1 x1.size=V:=⟨_,rfl⟩;obtain⟨V2,hV2⟩:∃V,dv x2 x2.size=V:=⟨_,rfl⟩;obtain⟨VO,hVO⟩:∃V,dv xo xo.size=V:=⟨_,rfl⟩;rw[hV1,hV2,hVO];have HV:=ae (And.intro hV1 (And.intro hV2 hVO));clear hg SQ ON AP JG hV1 hV2 hVO;have BA:cF w.heap.size w2 ((((((w2.setCell (jj w.heap.size 0) (.i (V1:Int))).setCell (jj w.heap.size 1) (.i (V2:Int))).setCell (jj w.heap.size 2) (.slice aL bs.length cL)).setCell (jj w.heap.size 3) (.slice aH bs.length cH)).setCell (jj w.heap.size 4) (.slice aN ns.length cN)).setCell (jj w.heap.size 5) (.i (VO:Int))):=(((((((cF.refl _ w2).set 0 (.i (V1:Int))).set 1 (.i (V2:Int))).set 2 (.slice aL bs.length cL)).set 3 (.slice aH bs.length cH)).set 4 (.slice aN ns.length cN)).set 5 (.i (VO:Int)));have bA3:=((((((bA2.aE (.i (V1:Int))).aG (.i (V2:Int))).aF (.slice aL bs.length cL)).aK (.slice aH bs.length cH)).aS (.slice aN ns.length cN)).aO (.i (VO:Int)));have bB3:=bB2.aM BA om;have bC3:=bC2.aM BA om;have b0:=bB3.c0;have fb:=bB3.f 0;have BB:cF (w.heap.size+1) ((((((w2.setCell (jj w.heap.size 0) (.i (V1:Int))).setCell (jj w.heap.size 1) (.i (V2:Int))).setCell (jj w.heap.size 2) (.slice aL bs.length cL)).setCell (jj w.heap.size 3) (.slice aH bs.length cH)).setCell (jj w.heap.size 4) (.slice aN ns.length cN)).setCell (jj w.heap.size 5) (.i (VO:Int))) (((((((w2.setCell (jj w.heap.size 0) (.i (V1:Int))).setCell (jj w.heap.size 1) (.i (V2:Int))).setCell (jj w.heap.size 2) (.slice aL bs.length cL)).setCell (jj w.heap.size 3) (.slice aH bs.length cH)).setCell (jj w.heap.size 4) (.slice aN ns.length cN)).setCell (jj w.heap.size 5) (.i (VO:Int))).setCell (jj (w.heap.size+1) 0) (.i 0)):=(cF.refl _ _).set 0 _;have bB4:iX (((((((w2.setCell (jj w.heap.size 0) (.i (V1:Int))).setCell (jj w.heap.size 1) (.i (V2:Int))).setCell (jj w.heap.size 2) (.slice aL bs.length cL)).setCell (jj w.heap.size 3) (.slice aH bs.length cH)).setCell (jj w.heap.size 4) (.slice aN ns.length cN)).setCell (jj w.heap.size 5) (.i (VO:Int))).setCell (jj (w.heap.size+1) 0) (.i 0)) (w.heap.size+1) (.i 0):=⟨j6 _ _ _ b0,fun q=>by simpa using bB3.f q⟩
 have bA4:=bA3.aM BB om;have bC4:=bC3.aM BB om;have c0:=bC4.c0;have fc:=bC4.f 0;have BC:cF (w.heap.size+1+1) (((((((w2.setCell (jj w.heap.size 0) (.i (V1:Int))).setCell (jj w.heap.size 1) (.i (V2:Int))).setCell (jj w.heap.size 2) (.slice aL bs.length cL)).setCell (jj w.heap.size 3) (.slice aH bs.length cH)).setCell (jj w.heap.size 4) (.slice aN ns.length cN)).setCell (jj w.heap.size 5) (.i (VO:Int))).setCell (jj (w.heap.size+1) 0) (.i 0)) ((((((((w2.setCell (jj w.heap.size 0) (.i (V1:Int))).setCell (jj w.heap.size 1) (.i (V2:Int))).setCell (jj w.heap.size 2) (.slice aL bs.length cL)).setCell (jj w.heap.size 3) (.slice aH bs.length cH)).setCell (jj w.heap.size 4) (.slice aN ns.length cN)).setCell (jj w.heap.size 5) (.i (VO:Int))).setCell (jj (w.heap.size+1) 0) (.i 0)).setCell (jj (w.heap.size+1+1) 0) (.i 0)):=(cF.refl _ _).set 0 _;have bC5:iX ((((((((w2.setCell (jj w.heap.size 0) (.i (V1:Int))).setCell (jj w.heap.size 1) (.i (V2:Int))).setCell (jj w.heap.size 2) (.slice aL bs.length cL)).setCell (jj w.heap.size 3) (.slice aH bs.length cH)).setCell (jj w.heap.size 4) (.slice aN ns.length cN)).setCell (jj w.heap.size 5) (.i (VO:Int))).setCell (jj (w.heap.size+1) 0) (.i 0)).setCell (jj (w.heap.size+1+1) 0) (.i 0)) (w.heap.size+1+1) (.i 0):=⟨j6 _ _ _ c0,fun q=>by simpa using bC4.f q⟩;have bA5:=bA4.aM BC om;have bB5:=bB4.aM BC om;have S5:=fY (fY (fY S2 (Nat.le_refl _) BA.c (fun q hq e=>by omega)) (Nat.le_refl _) BB.c (fun q hq e=>by omega)) (Nat.le_refl _) BC.c (fun q hq e=>by omega);have hw1:w.heap.size+1+1<w1.heap.size:=om
 have GR:Hid (aiX ((((((((w2.setCell (jj w.heap.size 0) (.i (V1:Int))).setCell (jj w.heap.size 1) (.i (V2:Int))).setCell (jj w.heap.size 2) (.slice aL bs.length cL)).setCell (jj w.heap.size 3) (.slice aH bs.length cH)).setCell (jj w.heap.size 4) (.slice aN ns.length cN)).setCell (jj w.heap.size 5) (.i (VO:Int))).setCell (jj (w.heap.size+1) 0) (.i 0)).setCell (jj (w.heap.size+1+1) 0) (.i 0)) w.heap.size bs ns aL aH aN cL cH cN xL xH xN zs lo hi d):=ae ⟨om,hl1,((HSQ.out.aR BA.c (fun q e=>by omega)).aR BB.c (fun q e=>by omega)).aR BC.c (fun q e=>by omega),((HON.out.aR BA.c (fun q e=>by omega)).aR BB.c (fun q e=>by omega)).aR BC.c (fun q e=>by omega),HAP.out⟩;clear HSQ HON HAP BA BB BC bA3 bB3 bC3 bA4 bB4 bC4;go_wp2_with fail;refine leaves_cons (f:=36) (args:= #[.p w.heap.size 0,.p (w.heap.size+1) 0,.p (w.heap.size+1+1) 0]) qz (by simp[go_sem]) ?_;refine (yq w.heap.size (w.heap.size+1) (w.heap.size+1+1) _).mono ?_;rintro e u' w'' ⟨rfl,rfl,rfl⟩;refine⟨_,ja rfl _ _ _ _ _ _ _ _ _ _ _ _ _ rfl rfl rfl bA5 bB5 bC5,S5,Or.inr (Or.inr (Or.inr ⟨hle,x1,x2,xo,bs,ns,aL,cL,aH,cH,aN,cN,xL,xH,xN,zs,lo,hi,d,HG.out, ?_,GR.out⟩))⟩;obtain⟨h1,h2,h3⟩:=HV.out;rw[h1,h2,h3]
theorem abo{α:Type}{l:List α}{x:α}(h:l.getLast?=some x):∃r,l=r++[x]:=by
 rcases List.eq_nil_or_concat l with rfl | ⟨r,y,rfl⟩
 . simp at h
 . rw[List.concat_eq_append] at h
   simp at h
   subst h;exact⟨r,List.concat_eq_append ..⟩
theorem ae7{ls:List (Nat×List ByteArray)}(hM:dQ ls){y:Nat×List ByteArray}(hy:ls.getLast?=some y)(ho:y.2.head?=some cj):∃x1 x2 xo bs ns,ke ls x1 x2 xo bs ns:=by
 cases ls with
 | nil=>simp at hy
 | cons h t=>
   obtain⟨x1,x2,eh,i1,i2⟩:=fR.1 (mz.1 (hM [] h t rfl));obtain⟨n0,wg⟩:=h;simp only at eh;subst eh
   have hbox:∀a b c,t=a++b::c->a.length<dv x1 x1.size->cE b.2 ie 0 2 2:=fun a b c e ha=>by
    have:=hM ((n0,[bS,x1,x2])::a) b c (by rw[e];rfl);exact (xK ha).1 this
   have hlen:dv x1 x1.size<t.length:=by
    rcases Nat.lt_or_ge (dv x1 x1.size) t.length with h9 | h9
    . exact h9
    . exfalso
      rcases List.eq_nil_or_concat t with rfl | ⟨r,z,rfl⟩
      . simp at hy;subst hy;simp[bS,cj] at ho
      . rw[List.concat_eq_append,nU] at hy
        simp only[Option.some.injEq] at hy;subst hy;obtain⟨y1,y2,e,-⟩:=iU.1 (hbox r z [] qz (by simp at h9;omega));rw[e] at ho
        simp[ie,cj] at ho
   obtain⟨bs,hbs⟩:∃b,t.take (dv x1 x1.size)=b:=⟨_,rfl⟩;obtain⟨rs,hrs⟩:∃b,t.drop (dv x1 x1.size)=b:=⟨_,rfl⟩;have et:t=bs++rs:=by rw[<-hbs,<-hrs,List.take_append_drop]
   have lb:bs.length=dv x1 x1.size:=by rw[<-hbs,List.length_take];omega
   have hrn:rs≠[]:=fun e=>by
    have:=congrArg List.length et;rw[List.length_append,e,lb] at this
    simp at this
    omega
   have hrl:rs.getLast?=some y:=by
    rcases List.eq_nil_or_concat rs with e | ⟨r,z,rfl⟩
    . exact absurd e hrn
    . rw[et,List.concat_eq_append,<-List.append_assoc,nU] at hy
      rw[List.concat_eq_append]
      simpa using hy
   obtain⟨ns,ens⟩:=abo hrl
   have hB:vs bs:=fun b hb=>by
    obtain⟨a,c,e⟩:=List.append_of_mem hb;refine iU.1 (hbox a b (c++rs) (by rw[et,e];simp) ?_);have:=congrArg List.length e;rw[List.length_append,lb] at this
    simp at this
    omega
   have hN:vn ns:=fun x hx=>by
    obtain⟨a,c,e⟩:=List.append_of_mem hx
    obtain⟨z,c',ec⟩:∃z c',c++[y]=z::c':=by
     cases c with
     | nil=>exact⟨y,[],rfl⟩
     | cons z c=>exact⟨z,c++[y],rfl⟩
    have h1:=hM ((n0,[bS,x1,x2])::(bs++a)) x (c++[y]) (by rw[et,ens,e];simp);have h2:=hM ((n0,[bS,x1,x2])::((bs++a)++[x])) z c' (by rw[et,ens,e,<-ec];simp)
    rcases uE.1 h1 with ⟨h3,-⟩ | ⟨-,-,h3 | h3⟩
    . exfalso
      have h3:(bs++a).length<dv x1 x1.size:=h3;rw[List.length_append,lb] at h3;omega
    . exact h3
    . exfalso
      obtain⟨xo,e9,-⟩:=iS.1 h3;exact acl (by rw[List.length_append,List.length_append,lb];omega) (by rw[e9];rfl) h2
   have h1:=hM ((n0,[bS,x1,x2])::(bs++ns)) y [] (by rw[et,ens];simp)
   rcases uE.1 h1 with ⟨h3,-⟩ | ⟨-,-,h3 | h3⟩
   . exfalso
     have h3:(bs++ns).length<dv x1 x1.size:=h3;rw[List.length_append,lb] at h3;omega
   . exact absurd ho h3.nout
   . obtain⟨xo,e9,io⟩:=iS.1 h3
     obtain⟨no,wo⟩:=y;simp only at e9;subst e9;exact⟨x1,x2,xo,bs,ns,⟨n0,no,by rw[et,ens];simp⟩,i1,i2,io,lb,hB,hN⟩
structure jS(w:World)(lo:Nat)(D:Nat->Prop)(v:Value)(k:Nat)(N:Nat->List ByteArray)(xs:List Value)(zs:List (List Value)):Prop where
 zl:zs.length=k
 own:w.ownsRow lo 48 6 v k xs
 at_:∀i,i<k->∃a cap xV,xs[i*6]?=some (.int .i64 (nD (N i)).op)/\xs[i*6+1]?=some (.int .i64 (nD (N i)).a)/\xs[i*6+2]?=some (.int .i64 (nD (N i)).b)/\xs[i*6+3]?=some (.int .i64 (nD (N i)).k)/\xs[i*6+4]?=some (.int .i64 (nD (N i)).s)/\xs[i*6+5]?=some (.slice a (vw (N i)).length cap)/\
  cU w 0 (.slice a (vw (N i)).length cap) (vw (N i)).length (wd (vw (N i))) (fun _ q=>(lo<=q/\¬D q)/\v.ownBlock≠some q) xV/\(∀g,(Value.slice a (vw (N i)).length cap).ownBlock=some g->(lo<=g/\¬D g)/\v.ownBlock≠some g)/\zs[i]?=some (.slice a (vw (N i)).length cap::xV)
section
variable{w w' w1:World}{lo k:Nat}{D:Nat->Prop}{v v':Value}{N:Nat->List ByteArray}{xs:List Value}{zs:List (List Value)}
theorem jS.aR{R:Nat->Prop}(h:jS w lo D v k N xs zs)(s:jP R w w')(hR:∀q,R q->D q)(hv:∀g,v.ownBlock=some g->¬R g):jS w' lo D v k N xs zs:=by
 refine⟨h.zl,uy h.own (fun g e=>s.block g (h.own.lt g e).2 (hv g e)),fun i hi=> ?_⟩;obtain⟨a,cap,xV,h1,h2,h3,h4,h5,h6,O,ho,hz⟩:=h.at_ i hi;exact⟨a,cap,xV,h1,h2,h3,h4,h5,h6,O.aR s (fun g e e'=>(ho g e).1.2 (hR g e')) (fun _ g hp e'=>hp.1.2 (hR g e')),ho,hz⟩
theorem jS.n(h:jS w lo D v k N xs zs):kM w lo v k N xs zs:=by
 refine⟨h.zl,h.own,fun i hi=> ?_⟩;obtain⟨a,cap,xV,h1,h2,h3,h4,h5,h6,O,ho,hz⟩:=h.at_ i hi;exact⟨a,cap,xV,h1,h2,h3,h4,h5,h6,O.imp' (fun _ _ _ _ hp=>⟨hp.1.1,hp.2⟩),fun g e=>⟨(ho g e).1.1,(ho g e).2⟩,hz⟩
theorem jS.empty{N':Nat->List ByteArray}(h:jS w lo D v 0 N xs zs)(hb:∀g,v.ownBlock=some g->w'.heap[g]?=w.heap[g]?):jS w' lo D v 0 N' xs zs:=
 ⟨h.zl,uy h.own hb,fun i hi=>absurd hi om⟩
theorem jS.aA(h:jS w lo D v k N xs zs)(s:w.S w'):jS w' lo D v k N xs zs:=by
 refine⟨h.zl,dS h.own s,fun i hi=> ?_⟩;obtain⟨a,cap,xV,h1,h2,h3,h4,h5,h6,O,ho,hz⟩:=h.at_ i hi;exact⟨a,cap,xV,h1,h2,h3,h4,h5,h6,O.aA s,ho,hz⟩
theorem jS.congr{N':Nat->List ByteArray}(h:jS w lo D v k N xs zs)(hN:∀i,i<k->N i=N' i):jS w lo D v k N' xs zs:=
 ⟨h.zl,h.own,fun i hi=>by rw[<-hN i hi];exact h.at_ i hi⟩
theorem jS.snoc(h:jS w lo D v k N xs zs)(s1:w.S w1)(hs:w.heap.size<w1.heap.size)(g:w1.grownBy w' v.ownBlock){a:Option Addr}{cap:Nat}{xV:List Value}
 (own:w'.ownsRow lo 48 6 v' (k+1) (xs++[.i (nD (N k)).op,.i (nD (N k)).a,.i (nD (N k)).b,.i (nD (N k)).k,.i (nD (N k)).s,.slice a (vw (N k)).length cap]))
 (hat:v'.ownBlock=v.ownBlock∨v'.ownBlock=some w1.heap.size)(A:cU w 0 (.slice a (vw (N k)).length cap) (vw (N k)).length (wd (vw (N k))) (fun _ q=>(lo<=q/\¬D q)/\v.ownBlock≠some q) xV)(ho:∀g,(Value.slice a (vw (N k)).length cap).ownBlock=some g->(lo<=g/\¬D g)/\v.ownBlock≠some g):
 jS w' lo D v' (k+1) N (xs++[.i (nD (N k)).op,.i (nD (N k)).a,.i (nD (N k)).b,.i (nD (N k)).k,.i (nD (N k)).s,.slice a (vw (N k)).length cap]) (zs++[.slice a (vw (N k)).length cap::xV]):=by
 have hzl:=h.zl;have hl:=h.own.1
 have nv':∀q,q<w.heap.size->v.ownBlock≠some q->v'.ownBlock≠some q:=fun q hq hn e=>by
  rcases hat with h | h
  . exact hn (h.symm.trans e)
  . rw[e] at h;simp at h;omega
 have kb:∀q,q<w.heap.size->v.ownBlock≠some q->w'.heap[q]?=w.heap[q]?:=fun q hq hn=>(g.block q om (fun e=>hn e.symm)).trans (s1.block q hq)
 have mv:∀ {a:Option Addr} {n cap:Nat} {x:Nat->ByteArray} {xV:List Value},cU w 0 (.slice a n cap) n x (fun _ q=>(lo<=q/\¬D q)/\v.ownBlock≠some q) xV->(∀g,(Value.slice a n cap).ownBlock=some g->(lo<=g/\¬D g)/\v.ownBlock≠some g)->cU w' 0 (.slice a n cap) n x (fun _ q=>(lo<=q/\¬D q)/\v'.ownBlock≠some q) xV/\(∀g,(Value.slice a n cap).ownBlock=some g->(lo<=g/\¬D g)/\v'.ownBlock≠some g):=fun {a n cap x xV} O ho=>by
  refine⟨?_,fun q e=>⟨(ho q e).1,nv' q (O.own.lt q e).2 (ho q e).2⟩⟩;have r2:=O.imp' (p':=fun _ q=>(((lo<=q/\¬D q)/\v.ownBlock≠some q))/\v'.ownBlock≠some q) (fun _ q _ hq hp=>⟨hp,nv' q hq hp.2⟩);have r3:=r2.blocks (w':=w') (by have:=g.size;omega) (fun q e=>kb q (O.own.lt q e).2 (ho q e).2) (fun _ q _ hq hp=>kb q hq hp.1.2);exact r3.imp' (fun _ q _ _ hp=>⟨hp.1.1,hp.2⟩)
 refine⟨by simp[hzl],own,fun i hi=> ?_⟩
 by_cases e:i=k
 . subst e
   obtain⟨m1,m2⟩:=mv A ho;refine⟨a,cap,xV, ?_, ?_, ?_, ?_, ?_, ?_,m1,m2,by rw[List.getElem?_append_right om,hzl];simp⟩
   all_goals (rw[List.getElem?_append_right om,hl];simp)
 . obtain⟨a',cap',xV',h1,h2,h3,h4,h5,h6,O,ho',hz⟩:=h.at_ i om
   obtain⟨m1,m2⟩:=mv O ho';exact⟨a',cap',xV',by rw[List.getElem?_append_left om];exact h1,by rw[List.getElem?_append_left om];exact h2,by rw[List.getElem?_append_left om];exact h3,by rw[List.getElem?_append_left om];exact h4,by rw[List.getElem?_append_left om];exact h5,by rw[List.getElem?_append_left om];exact h6,m1,m2,by rw[List.getElem?_append_left om];exact hz⟩
end
structure kK(w:World)(lo:Nat)(D:Nat->Prop)(vW vB:Value)(lW lB:List ByteArray)(xW xB:List Value):Prop where
 W:cU w lo vW lW.length (wd lW) (fun _ q=>lo<=q/\¬D q/\vB.ownBlock≠some q) xW
 B:cU w lo vB lB.length (wd lB) (fun _ q=>lo<=q/\¬D q/\vW.ownBlock≠some q) xB
 sep:∀g,vW.ownBlock=some g->vB.ownBlock≠some g
 dW:∀g,vW.ownBlock=some g->¬D g
 dB:∀g,vB.ownBlock=some g->¬D g
section
variable{w w':World}{lo:Nat}{D:Nat->Prop}{vW vW' vB:Value}{lW lB l:List ByteArray}{xW xB xr:List Value}
theorem kK.swap(h:kK w lo D vW vB lW lB xW xB):kK w lo D vB vW lB lW xB xW:=⟨h.B,h.W,fun g e e'=>h.sep g e' e,h.dB,h.dW⟩
theorem kK.aA(h:kK w lo D vW vB lW lB xW xB)(s:w.S w'):kK w' lo D vW vB lW lB xW xB:=⟨h.W.aA s,h.B.aA s,h.sep,h.dW,h.dB⟩
theorem kK.put(h:kK w lo D vW vB lW lB xW xB){R:Nat->Prop}(s:jP R w w')(hR:∀q,R q->D q):kK w' lo D vW vB lW lB xW xB:=
 ⟨h.W.aR s (fun g e e'=>h.dW g e (hR g e')) (fun _ _ hq e=>hq.2.1 (hR _ e)),h.B.aR s (fun g e e'=>h.dB g e (hR g e')) (fun _ _ hq e=>hq.2.1 (hR _ e)),h.sep,h.dW,h.dB⟩
theorem kK.imp{D':Nat->Prop}(h:kK w lo D vW vB lW lB xW xB)(hD:∀q,q<w.heap.size->D' q->D q):kK w lo D' vW vB lW lB xW xB:=
 ⟨h.W.imp' (fun _ q _ hq hp=>⟨hp.1,fun e=>hp.2.1 (hD q hq e),hp.2.2⟩),h.B.imp' (fun _ q _ hq hp=>⟨hp.1,fun e=>hp.2.1 (hD q hq e),hp.2.2⟩),h.sep,fun g e e'=>h.dW g e (hD g (h.W.own.lt g e).2 e'),fun g e e'=>h.dB g e (hD g (h.B.own.lt g e).2 e')⟩
theorem kK.add{n B lo':Nat}{vr:Value}(h:kK w lo D vW vB lW lB xW xB)(r:cU w lo' vr n (wd l) (fun _ q=>B<=q) xr)(hn:n<=l.length)(hl:lo<=lo')(hW:∀g,vW.ownBlock=some g->g<B)(hB:∀g,vB.ownBlock=some g->g<B)(hd:∀q,D q->q<B)(hlo:lo<=B)(hB':B<=w.heap.size)
 (g:w.grownBy w' vW.ownBlock)(own:w'.ownsRow lo 44 3 vW' (lW.length+n) (xW++xr))(hat:vW'.ownBlock=vW.ownBlock∨vW'.ownBlock=some w.heap.size):kK w' lo D vW' vB (lW++l.take n) lB (xW++xr) xB:=by
 have O1:=h.W.append (r.lower hl) g own hat (fun i q _ _ hq=>⟨⟨om,fun e=>by have:=hd q e;omega,fun e=>by have:=hB q e;omega⟩,fun e=>by have:=hW q e;omega⟩)
 have O2:cU w' lo vW' (lW++l.take n).length (wd (lW++l.take n)) (fun _ q=>lo<=q/\¬D q/\vB.ownBlock≠some q) (xW++xr):=by
  have e1:(lW++l.take n).length=lW.length+n:=by rw[List.length_append,List.length_take,Nat.min_eq_left hn]
  rw[e1];refine O1.congr (fun i hi=> ?_);rw[wt]
  show (if i<lW.length then wd lW i else wd l (i-lW.length))=_
  split
  . rfl
  . exact (abX om).symm
 have hb1:∀q,vW'.ownBlock=some q->vB.ownBlock≠some q:=fun q e e'=>by
  rcases hat with k | k
  . exact h.sep q (k.symm.trans e) e'
  . rw[e] at k;simp at k;have:=hB q e';omega
 have O3:cU w' lo vB lB.length (wd lB) (fun _ q=>lo<=q/\¬D q/\vW'.ownBlock≠some q) xB:=by
  have h1:=h.B.imp' (p':=fun _ q=>(lo<=q/\¬D q/\vW.ownBlock≠some q)/\vW'.ownBlock≠some q) (fun i q _ hq hp=>⟨hp,fun e=>by
   rcases hat with k | k
   . exact hp.2.2 (k.symm.trans e)
   . rw[e] at k;simp at k;omega⟩)
  have h2:=h1.aR (jP.aJ g) (fun q e e'=>h.sep q e' e) (fun i q hq e'=>hq.1.2.2 e');exact h2.imp' (fun i q _ _ hq=>⟨hq.1.1,hq.1.2.1,hq.2⟩)
 exact⟨O2,O3,hb1,fun q e e'=>by
  rcases hat with k | k
  . exact h.dW q (k.symm.trans e) e'
  . rw[e] at k;simp at k;have:=hd q e';omega,h.dB⟩
end
structure rN(w wr:World)(d lo gN:Nat)(In Rd Out:Int)(lL lH:List ByteArray)(ns:List (Nat×List ByteArray))(gL cL gH cH cN:Nat)(xL xH xN:List Value)(zs:List (List Value)):Prop where
 S:w.Since w.heap.size wr
 R:au wr w.heap.size (.int .i64 0) (.int .i64 0) (.slice none 0 0) (.slice none 0 0) (.slice none 0 0) (.int .i64 0)
 B:au wr d (.int .i64 In) (.int .i64 Rd) (.slice (some ⟨gL,0,none⟩) lL.length cL) (.slice (some ⟨gH,0,none⟩) lH.length cH) (.slice (some ⟨gN,0,none⟩) ns.length cN) (.int .i64 Out)
 T:kK wr lo (fun q=>q=d∨q=gN) (.slice (some ⟨gL,0,none⟩) lL.length cL) (.slice (some ⟨gH,0,none⟩) lH.length cH) lL lH xL xH
 N:jS wr lo (fun q=>q=d) (.slice (some ⟨gN,0,none⟩) ns.length cN) ns.length (lw ns) xN zs
 dN:gN≠d
 dd:lo<=d
 lo0:w.heap.size<lo
section
variable{w wr wj:World}{d lo gN:Nat}{In Rd Out:Int}{lL lH:List ByteArray}{ns:List (Nat×List ByteArray)}{gL cL gH cH cN:Nat}{xL xH xN:List Value}{zs:List (List Value)}
theorem rN.aA(h:rN w wr d lo gN In Rd Out lL lH ns gL cL gH cH cN xL xH xN zs)(s:wr.S wj):rN w wj d lo gN In Rd Out lL lH ns gL cL gH cH cN xL xH xN zs:=
 ⟨h.S.trans (sM s h.S.size),h.R.aA s,h.B.aA s,h.T.aA s,h.N.aA s,h.dN,h.dd,h.lo0⟩
theorem rN.put(h:rN w wr d lo gN In Rd Out lL lH ns gL cL gH cH cN xL xH xN zs){f:Nat}{x:Value}{In' Rd' Out':Int}
 (n:au (wr.setCell ⟨d,f,none⟩ x) d (.i In') (.i Rd') (.s gL lL.length cL) (.s gH lH.length cH) (.s gN ns.length cN) (.i Out')):rN w (wr.setCell ⟨d,f,none⟩ x) d lo gN In' Rd' Out' lL lH ns gL cL gH cH cN xL xH xN zs:=by
 have BS:cF d wr (wr.setCell (jj d f) x):=(cF.refl _ wr).set f x;have l:=h.lo0;have l2:=h.dd;exact⟨de h.S om,h.R.aM BS om,n,h.T.put BS.c (fun q e=>Or.inl (by simpa using e)),h.N.aR BS.c (fun q e=>by simpa using e) (fun g e=>by simp[Value.ownBlock] at e;have:=h.dN;simp;omega),h.dN,h.dd,h.lo0⟩
theorem rN.start(S:w.S wr)(R:au wr w.heap.size (.i 0) (.i 0) (.n) (.n) (.n) (.i 0)):
 rN w ((((wr.alloc (.cells #[] 44)).alloc (.cells #[] 44)).alloc (.cells #[] 48)).alloc (.cells #[.i 0,.i 0,.s wr.heap.size 0 0,.s (wr.heap.size+1) 0 0,.s (wr.heap.size+1+1) 0 0,.i 0] 26))
  (wr.heap.size+1+1+1) wr.heap.size (wr.heap.size+1+1) 0 0 0 [] [] [] wr.heap.size 0 (wr.heap.size+1) 0 0 [] [] [] []:=by
 obtain⟨wa,ea⟩:∃x,x=wr.alloc (.cells #[] 44):=⟨_,rfl⟩;have sa:wr.S wa:=by rw[ea];exact bJ _ _
 have za:wa.heap.size=wr.heap.size+1:=by rw[ea];simp
 have oa:wa.ownsRow wr.heap.size 44 3 (.s wr.heap.size 0 0) 0 []:=by rw[ea];exact pv wr #[] 0 (Nat.le_refl _) (Nat.zero_le _) rfl
 rw[<-ea];obtain⟨wb,eb⟩:∃x,x=wa.alloc (.cells #[] 44):=⟨_,rfl⟩;have sb:wa.S wb:=by rw[eb];exact bJ _ _
 have zb:wb.heap.size=wr.heap.size+1+1:=by rw[eb,<-za];simp
 have ob:wb.ownsRow wr.heap.size 44 3 (.s (wr.heap.size+1) 0 0) 0 []:=by rw[eb,<-za];exact pv wa #[] 0 om (Nat.zero_le _) rfl
 rw[<-eb];obtain⟨wc,ec⟩:∃x,x=wb.alloc (.cells #[] 48):=⟨_,rfl⟩;have sc:wb.S wc:=by rw[ec];exact bJ _ _
 have zc:wc.heap.size=wr.heap.size+1+1+1:=by rw[ec,<-zb];simp
 have oc:wc.ownsRow wr.heap.size 48 6 (.s (wr.heap.size+1+1) 0 0) 0 []:=by rw[ec,<-zb];exact pv wb #[] 0 om (Nat.zero_le _) rfl
 rw[<-ec];have bd:=au.new wc (.i 0) (.i 0) (.s wr.heap.size 0 0) (.s (wr.heap.size+1) 0 0) (.s (wr.heap.size+1+1) 0 0) (.i 0) 26;obtain⟨wd',ed⟩:∃x,x=wc.alloc (.cells #[.i 0,.i 0,.s wr.heap.size 0 0,.s (wr.heap.size+1) 0 0,.s (wr.heap.size+1+1) 0 0,.i 0] 26):=⟨_,rfl⟩;have sd:wc.S wd':=by rw[ed];exact bJ _ _
 rw[<-ed,zc] at bd;rw[<-ed];have hR:=R.lt
 exact⟨(((S.tr sa).trans (sM sb om)).trans (sM sc om)).trans (sM sd om),(((R.aA sa).aA sb).aA sc).aA sd,bd,
  ⟨⟨dS (dS (dS oa sb) sc) sd,fun i hi=>absurd hi qz⟩,⟨dS (dS ob sc) sd,fun i hi=>absurd hi qz⟩,fun g e e'=>by simp[Value.ownBlock] at e e';omega,fun g e e'=>by simp[Value.ownBlock] at e;omega,fun g e e'=>by simp[Value.ownBlock] at e;omega⟩,
  ⟨rfl,dS oc sd,fun i hi=>absurd hi qz⟩,om,om,hR⟩
theorem rN.addL(h:rN w wr d lo gN In Rd Out lL lH [] gL cL gH cH cN xL xH xN zs){w7 w8:World}{b:Bool}{u1 u2:Value}{x:ByteArray}{g5 c5:Nat}(u:wr.S w7)(W:iG w7 (fun q=>wr.heap.size<=q) (.agg #[.bool b,u1,u2]) x)(hb:(ak x).1=b)
 (hg:(w7.alloc (.cells #[.bool b,u1,u2] 44)).grownBy w8 (some gL))(ho:w8.ownsRow lo 44 3 (.s g5 (lL.length+1) c5) (lL.length+1) (xL++[.bool b,u1,u2]))(hat:g5=gL∨g5=w7.heap.size+1):
 rN w (w8.setCell ⟨d,2,none⟩ (.s g5 (lL.length+1) c5)) d lo gN In Rd Out (lL++[x]) lH [] g5 c5 gH cH cN (xL++[.bool b,u1,u2]) xH xN zs:=by
 have sW:=bJ w7 (.cells #[.bool b,u1,u2] 44);have zW:(w7.alloc (.cells #[.bool b,u1,u2] 44)).heap.size=w7.heap.size+1:=by simp
 have k:=(h.aA u).aA sW;have z7:=u.size;have z8:=hg.size;have l1:=h.dd;have l2:=h.lo0;have ld:=h.B.lt;have lL':=h.T.W.own.lt gL rfl;have lH':=h.T.B.own.lt gH rfl;have lN:=h.N.own.lt gN rfl;have dL:=h.T.dW gL rfl
 have T8:=k.T.add (cU.one W hb) (Nat.le_refl _) om (fun q e=>by simp[Value.ownBlock] at e;omega) (fun q e=>by simp[Value.ownBlock] at e;omega) (fun q e=>by omega) om om (w':=w8) (vW':=.s g5 (lL.length+1) c5) hg ho (by
  rcases hat with h9 | h9
  . left;rw[h9];rfl
  . right;rw[h9,zW];rfl)
 have B8:=k.B.aR (jP.aJ hg) (fun e=>dL (Or.inl (by simpa using e)));have BS:cF d w8 (w8.setCell (jj d 2) (.s g5 (lL.length+1) c5)):=(cF.refl d w8).set 2 _;have e1:(lL++[x]).length=lL.length+1:=by simp
 have N8:jS w8 lo (fun q=>q=d) (.s gN 0 cN) 0 (lw []) xN zs:=jS.empty k.N (fun g e=>by
  simp[Value.ownBlock] at e
  subst e;exact hg.block gN om (fun e=>dL (Or.inr (by simpa using e.symm))))
 refine⟨de ((k.S).grown hg om (fun q hq=>by simp at hq;omega)) om,(k.R.aR (jP.aJ hg) (fun e=>by simp at e;omega)).aM BS om, ?_, ?_, ?_,h.dN,h.dd,h.lo0⟩
 . rw[e1];exact B8.aF _
 . rw[e1];exact T8.put BS.c (fun q e=>Or.inl (by simpa using e))
 . exact N8.aR BS.c (fun q e=>by simpa using e) (fun g e=>by simp[Value.ownBlock] at e;have:=h.dN;simp;omega)
theorem rN.addH(h:rN w wr d lo gN In Rd Out lL lH [] gL cL gH cH cN xL xH xN zs){w7 w8:World}{b:Bool}{u1 u2:Value}{x:ByteArray}{g5 c5:Nat}(u:wr.S w7)(W:iG w7 (fun q=>wr.heap.size<=q) (.agg #[.bool b,u1,u2]) x)(hb:(ak x).1=b)
 (hg:(w7.alloc (.cells #[.bool b,u1,u2] 44)).grownBy w8 (some gH))(ho:w8.ownsRow lo 44 3 (.s g5 (lH.length+1) c5) (lH.length+1) (xH++[.bool b,u1,u2]))(hat:g5=gH∨g5=w7.heap.size+1):
 rN w (w8.setCell ⟨d,3,none⟩ (.s g5 (lH.length+1) c5)) d lo gN In Rd Out lL (lH++[x]) [] gL cL g5 c5 cN xL (xH++[.bool b,u1,u2]) xN zs:=by
 have sW:=bJ w7 (.cells #[.bool b,u1,u2] 44);have zW:(w7.alloc (.cells #[.bool b,u1,u2] 44)).heap.size=w7.heap.size+1:=by simp
 have k:=(h.aA u).aA sW;have z7:=u.size;have z8:=hg.size;have l1:=h.dd;have l2:=h.lo0;have ld:=h.B.lt;have lL':=h.T.W.own.lt gL rfl;have lH':=h.T.B.own.lt gH rfl;have lN:=h.N.own.lt gN rfl;have dL:=h.T.dB gH rfl
 have T8:=(k.T.swap.add (cU.one W hb) (Nat.le_refl _) om (fun q e=>by simp[Value.ownBlock] at e;omega) (fun q e=>by simp[Value.ownBlock] at e;omega) (fun q e=>by omega) om om (w':=w8) (vW':=.s g5 (lH.length+1) c5) hg ho (by
  rcases hat with h9 | h9
  . left;rw[h9];rfl
  . right;rw[h9,zW];rfl)).swap
 have B8:=k.B.aR (jP.aJ hg) (fun e=>dL (Or.inl (by simpa using e)));have BS:cF d w8 (w8.setCell (jj d 3) (.s g5 (lH.length+1) c5)):=(cF.refl d w8).set 3 _;have e1:(lH++[x]).length=lH.length+1:=by simp
 have N8:jS w8 lo (fun q=>q=d) (.s gN 0 cN) 0 (lw []) xN zs:=jS.empty k.N (fun g e=>by
  simp[Value.ownBlock] at e
  subst e;exact hg.block gN om (fun e=>dL (Or.inr (by simpa using e.symm))))
 refine⟨de ((k.S).grown hg om (fun q hq=>by simp at hq;omega)) om,(k.R.aR (jP.aJ hg) (fun e=>by simp at e;omega)).aM BS om, ?_, ?_, ?_,h.dN,h.dd,h.lo0⟩
 . rw[e1];exact B8.aK _
 . rw[e1];exact T8.put BS.c (fun q e=>Or.inl (by simpa using e))
 . exact N8.aR BS.c (fun q e=>by simpa using e) (fun g e=>by simp[Value.ownBlock] at e;have:=h.dN;simp;omega)
theorem rN.addN(h:rN w wr d lo gN In Rd Out lL lH ns gL cL gH cH cN xL xH xN zs){w7 w8:World}{nn:Nat}{ws:List ByteArray}{ad:Option Addr}{cap:Nat}{xV:List Value}{g5 c5:Nat}(u:wr.S w7)
 (O:cU w7 wr.heap.size (.slice ad (vw ws).length cap) (vw ws).length (wd (vw ws)) (fun _ q=>wr.heap.size<=q) xV)
 (hg:(w7.alloc (.cells #[.i (nD ws).op,.i (nD ws).a,.i (nD ws).b,.i (nD ws).k,.i (nD ws).s,.slice ad (vw ws).length cap] 48)).grownBy w8 (some gN))
 (ho:w8.ownsRow lo 48 6 (.s g5 (ns.length+1) c5) (ns.length+1) (xN++[.i (nD ws).op,.i (nD ws).a,.i (nD ws).b,.i (nD ws).k,.i (nD ws).s,.slice ad (vw ws).length cap]))(hat:g5=gN∨g5=w7.heap.size+1):
 rN w (w8.setCell ⟨d,4,none⟩ (.s g5 (ns.length+1) c5)) d lo g5 In Rd Out lL lH (ns++[(nn,ws)]) gL cL gH cH c5 xL xH (xN++[.i (nD ws).op,.i (nD ws).a,.i (nD ws).b,.i (nD ws).k,.i (nD ws).s,.slice ad (vw ws).length cap]) (zs++[.slice ad (vw ws).length cap::xV]):=by
 obtain⟨O9,eO⟩:∃o:Obj,o=.cells #[.i (nD ws).op,.i (nD ws).a,.i (nD ws).b,.i (nD ws).k,.i (nD ws).s,.slice ad (vw ws).length cap] 48:=⟨_,rfl⟩;rw[<-eO] at hg;have sW:=(eg w7.heap.size w7).alloc (Nat.le_refl _) O9;have zW:(w7.alloc O9).heap.size=w7.heap.size+1:=by simp
 have k7:=h.aA u;have k:=k7.aA sW;have z7:=u.size;have z8:=hg.size;have l1:=h.dd;have l2:=h.lo0;have ld:=h.B.lt;have lN:=h.N.own.lt gN rfl;have dN:=h.dN;have T8:=(k.T.imp (D':=fun q=>q=d∨q=gN∨q=g5) (fun q hq e=>by omega)).put (jP.aJ hg) (fun q e=>by have e':some gN=some q:=e;simp at e';omega);have T9:=T8.imp (D':=fun q=>q=d∨q=g5) (fun q hq e=>by omega);have B8:=k.B.aR (jP.aJ hg) (fun e=>by simp at e;omega);have BS:cF d w8 (w8.setCell (jj d 4) (.s g5 (ns.length+1) c5)):=(cF.refl d w8).set 4 _;have e1:(ns++[(nn,ws)]).length=ns.length+1:=by simp
 have eR:=zR ns (nn,ws)
 have N8:=(k7.N.congr (N':=lw (ns++[(nn,ws)])) (fun i hi=>(acm hi).symm)).snoc sW om hg (v':=.s g5 (ns.length+1) c5) (a:=ad) (cap:=cap) (xV:=xV) (by rw[eR];exact ho) (by
  rcases hat with h9 | h9
  . left;rw[h9];rfl
  . right;rw[h9,zW];rfl) (by
    rw[eR];exact (O.lower (Nat.zero_le _)).imp' (fun _ q _ hq hp=>⟨⟨om,om⟩,fun e=>by simp[Value.ownBlock] at e;omega⟩)) (by
    rw[eR];intro g e;have:=(O.own.lt g e).1;exact⟨⟨om,om⟩,fun e'=>by simp[Value.ownBlock] at e';omega⟩)
 rw[eR] at N8;have g5d:g5≠d:=om
 refine⟨de ((k.S).grown hg om (fun q hq=>by simp at hq;omega)) om,(k.R.aR (jP.aJ hg) (fun e=>by simp at e;omega)).aM BS om, ?_, ?_, ?_,g5d,h.dd,h.lo0⟩
 . rw[e1];exact B8.aS _
 . exact T9.put BS.c (fun q e=>Or.inl (by simpa using e))
 . rw[e1];exact N8.aR BS.c (fun q e=>by simpa using e) (fun g e e'=>by
    have e3:d=g:=by simpa using e'.symm
    simp[Value.ownBlock] at e
    omega)
end
theorem kK.low{w:World}{lo:Nat}{D:Nat->Prop}{vW vB:Value}{lW lB:List ByteArray}{xW xB:List Value}(h:kK w lo D vW vB lW lB xW xB):kK w lo (fun q=>q<lo) vW vB lW lB xW xB:=
 ⟨h.W.imp' (fun _ q _ hq hp=>⟨hp.1,om,hp.2.2⟩),h.B.imp' (fun _ q _ hq hp=>⟨hp.1,om,hp.2.2⟩),h.sep,fun g e e'=>by have:=(h.W.own.lt g e).1;omega,fun g e e'=>by have:=(h.B.own.lt g e).1;omega⟩
theorem eF{fn:Func}{p q s:Tmp}(h:fn.results= #[.cell p 26,.tmp q,.tmp s])(tmps:Array Value)(w:World)(c:Nat)(x0 x1 x2 x3 x4 x5:Value)
 (hp:tmps.getD p undef=.p c 0)(B:au w c x0 x1 x2 x3 x4 x5):(results fn tmps).run Tryz.prog w=.ok (.tuple #[.agg #[x0,x1,x2,x3,x4,x5],tmps.getD q undef,tmps.getD s undef]) w:=by
 have hp':tmps[p]?.getD undef=.p c 0:=by simpa using hp
 have hl:=run_loadVar_mid (P:=Tryz.prog) w c 0 26 [x0,x1,x2,x3,x4,x5] _ (fun j v hv=>by
  rcases j with _ | _ | _ | _ | _ | _ | j
  . simp at hv;subst hv;exact B.c0
  . simp at hv;subst hv;exact B.c1
  . simp at hv;subst hv;exact B.c2
  . simp at hv;subst hv;exact B.c3
  . simp at hv;subst hv;exact B.c4
  . simp at hv;subst hv;exact B.c5
  . simp at hv) Tryz.underlying26 rfl fp
 simp[results,h,hp',asAddr,hl]
def SgE(w':World)(s:ByteArray)(ls:List (Nat×List ByteArray))(T:Nat)(e:Ending):Prop:=
 (20000<s.size/\e=.returned (.tuple #[zG,.int .i64 1,.int .i64 0]))∨
 (s.size<=20000/\∃p:Nat,kP ls p/\e=.returned (.tuple #[zG,.int .i64 2,.int .i64 (p:Int)]))∨
 (s.size<=20000/\kn ls/\e=.returned (.tuple #[zG,.int .i64 2,.int .i64 ((T:Int)+1)]))∨
 (s.size<=20000/\∃x1 x2 xo bs ns aL cL aH cH aN cN xL xH xN zs lo D,ke ls x1 x2 xo bs ns/\e=.returned (.tuple #[.agg #[.int .i64 (dv x1 x1.size:Nat),.int .i64 (dv x2 x2.size:Nat),.slice aL bs.length cL,.slice aH bs.length cH,.slice aN ns.length cN,.int .i64 (dv xo xo.size:Nat)],.int .i64 0,.int .i64 0])/\kK w' lo D (.slice aL bs.length cL) (.slice aH bs.length cH) (sL bs) (sH bs) xL xH/\kM w' lo (.slice aN ns.length cN) ns.length (lw ns) xN zs)
theorem acU{w1:World}{c:Nat}(B:au w1 c (.i 0) (.i 0) (.n) (.n) (.n) (.i 0))(x0 x1 x2 x3 x4 x5:Value):
 au ((((((w1.setCell ⟨c,0,none⟩ x0).setCell ⟨c,1,none⟩ x1).setCell ⟨c,2,none⟩ x2).setCell ⟨c,3,none⟩ x3).setCell ⟨c,4,none⟩ x4).setCell ⟨c,5,none⟩ x5) c x0 x1 x2 x3 x4 x5:=
 (((((B.aE x0).aG x1).aF x2).aK x3).aS x4).aO x5
theorem pa{s:ByteArray}{w:World}(hs:s.size<=9223372036854775807):
 Cl 7 #[.string s] w fun e w'=>w.S w'/\SgE w' s (cK 0 (fN 10 s)) (fN 10 s).length e:=by
 have sA:=bJ w (.cells #[.i 0,.i 0,.n,.n,.n,.i 0] 26);have bA:=au.new w (.i 0) (.i 0) (.n) (.n) (.n) (.i 0) 26;have ZA:(w.alloc (.cells #[.i 0,.i 0,.n,.n,.n,.i 0] 26)).heap.size=w.heap.size+1:=by simp
 have FIN:Hid (∀(w1:World),w.S w1->au w1 w.heap.size (.i 0) (.i 0) (.n) (.n) (.n) (.i 0)->∀x0 x1 x2 x3 x4 x5:Value,au ((((((w1.setCell (jj w.heap.size 0) x0).setCell (jj w.heap.size 1) x1).setCell (jj w.heap.size 2) x2).setCell (jj w.heap.size 3) x3).setCell (jj w.heap.size 4) x4).setCell (jj w.heap.size 5) x5) w.heap.size x0 x1 x2 x3 x4 x5/\w.S ((((((w1.setCell (jj w.heap.size 0) x0).setCell (jj w.heap.size 1) x1).setCell (jj w.heap.size 2) x2).setCell (jj w.heap.size 3) x3).setCell (jj w.heap.size 4) x4).setCell (jj w.heap.size 5) x5)):=ae (fun w1 s1 b x0 x1 x2 x3 x4 x5=>⟨acU b _ _ _ _ _ _,de (de (de (de (de (de s1 (Nat.le_refl _)) (Nat.le_refl _)) (Nat.le_refl _)) (Nat.le_refl _)) (Nat.le_refl _)) (Nat.le_refl _)⟩)
 by_cases hlong:20000<s.size
 . have hzl:(20000:Int)<(s.size:Int):=om
   have a0:=bA.c0;have fa0:=bA.f 0;have a1:=bA.c1;have fa1:=bA.f 1;have a2:=bA.c2;have fa2:=bA.f 2;have a3:=bA.c3;have fa3:=bA.f 3;have a4:=bA.c4;have fa4:=bA.f 4;have a5:=bA.c5;have fa5:=bA.f 5;go_enter Tryz.func7,Tryz.ntmps7;go_wp2;exact bodyPost_ret (eF rfl _ _ _ _ _ _ _ _ _ rfl bA) rfl ⟨sA,Or.inl ⟨hlong,rfl⟩⟩
 have hzl:¬(20000:Int)<(s.size:Int):=om
 have hle:s.size<=20000:=om
 have Z:=ahD (s:=s) om;have JL:=@adq s (w.alloc (.cells #[.i 0,.i 0,.n,.n,.n,.i 0] 26)) om;have hPL:=jT 10 s;obtain⟨ls,hls⟩:∃ls,cK 0 (fN 10 s)=ls:=⟨_,rfl⟩;unfold afG at JL;rw[hls] at Z JL⊢;clear hls;obtain⟨T,hT⟩:∃T,(fN 10 s).length=T:=⟨_,rfl⟩;rw[hT] at JL hPL⊢;clear hT;have hll:=Z.len;go_enter Tryz.func7,Tryz.ntmps7;go_wp2_with fail;generalize w.alloc _=wA at*;refine JL.mono ?_;rintro e w1 ⟨gl,cl,rfl,LL,s1,hcl⟩;have S1:=sA.tr s1;have b1:=ae (bA.aA s1);have HZ:=ae Z;have HLL:=ae LL;clear JL Z bA LL;obtain⟨N,hN⟩:∃N,ls.length=N:=⟨_,rfl⟩;rw[hN] at hll hcl⊢;have HNL:=ae hN;clear hN;go_wp2_with fail
 go_loopw [7] (fun i wr=>∃(k:Nat),k<=N/\i=.i (k:Int)/\w.S wr/\w1.S wr/\Hid (dQ (ls.take k))) (fun i _=>N-(intOf i).toNat)
 case atStart=>exact⟨0,Nat.zero_le _,rfl,S1,eg _ _,ae (by rw[List.take_zero];exact dQ.nil)⟩
 case round=>
  obtain⟨k,hk,rfl,S,s2,HM⟩:=hrel
  by_cases hlt:k<N
  . have hzk:(k:Int)<N:=om
    have hkl:k<ls.length:=by rw[HNL.out];exact hlt
    obtain⟨n,hn⟩:∃n,(ls[k]).1=n:=⟨_,rfl⟩;obtain⟨ws,hws⟩:∃ws,(ls[k]).2=ws:=⟨_,rfl⟩;have hg:ls[k]?=some (n,ws):=by rw[List.getElem?_eq_getElem hkl,<-hn,<-hws]
    have HG:=ae hg;obtain⟨q,cq,c0,c1,C⟩:=(HLL.out.aA s2).c HZ.out hg;have dr:=sT wr;have J:=@agw gl cl k q cq ls ws wr.drew ((HLL.out.aA s2).aA dr) HZ.out om HM.out (C.aA dr);have c1d:wr.drew.cell? (jj gl (k*2+1))=some (.s q ws.length cq):=c1;have hkc:k<=cl:=om
    have hkc':(k:Int)<=cl:=om
    have hkc2:¬((cl:Int)<k):=om
    have hk0:(0:Int)<=k:=om
    have C0:=ae c0;clear hn hws hg hkl C c0;go_wp2_with fail
    go_region_law
     (go_simp
      go_at_call 28;with_reducible refine J.mono ?_
      rintro e w3 ⟨r,rfl,ir,s3⟩;have IR:=ae ir;clear ir)
    all_goals
     clear J c1 c1d;have u3:=dr.tr s3;have S3:=S.tr u3;have t3:=s2.tr u3
     have ELS:Hid (ls=ls.take k++(n,ws)::ls.drop (k+1)):=ae (by
      have h9:=afs (show k<ls.length by rw[HNL.out];exact hlt);have h8:=HG.out;rw[List.getElem?_eq_getElem (show k<ls.length by rw[HNL.out];exact hlt)] at h8;simp only[Option.some.injEq] at h8;rw[h8] at h9;rw[<-h9,List.take_append_drop])
     cases r
     . have HE:Hid (kP ls n):=ae ⟨_,_,_,ELS.out,HM.out,fun hm=>by have:=IR.out.2 hm;simp at this⟩
       have b3:=b1.out.aA t3;have c0:=(((u3.cell (a:=jj gl (k*2)) (gz _ _ C0.out))).trans C0.out);have c0d:w3.drew.cell? (jj gl (k*2))=some (.i (n:Int)):=c0;have a0:=b3.c0;have fa0:=b3.f 0;have a1:=b3.c1;have fa1:=b3.f 1;have a2:=b3.c2;have fa2:=b3.f 2;have a3:=b3.c3;have fa3:=b3.f 3;have a4:=b3.c4;have fa4:=b3.f 4;have a5:=b3.c5;have fa5:=b3.f 5
       have hne:w.heap.size≠gl:=fun e=>by
        have h0:0<ls.length:=by rw[HNL.out];omega
        obtain⟨q0,cq0,-,h1,-⟩:=HLL.out.c HZ.out (j:=0) (n:=(ls[0]).1) (ws:=(ls[0]).2) (by rw[List.getElem?_eq_getElem h0]);have h2:=b1.out.c1;rw[e] at h2;rw[Nat.zero_mul,Nat.zero_add,h2] at h1
        simp at h1
       clear IR ELS;go_wp2_with fail
       go_region
       all_goals
        go_wp2;obtain⟨B9,S9⟩:=FIN.out _ S3 (b1.out.aA t3) (.i 0) (.i 0) (.n) (.n) (.n) (.i 0);exact bodyPost_ret (eF rfl _ _ _ _ _ _ _ _ _ rfl (B9.aA (eg _ _).drew)) rfl ⟨S9.trans (sM (eg _ _).drew S9.size),Or.inr (Or.inl ⟨hle,n,HE.out,rfl⟩)⟩
     . have HM2:Hid (dQ (ls.take (k+1))):=ae (by
        have h9:=HM.out.snoc (x:=(n,ws)) (IR.out.1 qz);rw[List.take_add_one,HG.out];exact h9)
       clear IR ELS;go_wp2;go_roundw
       case rel=>exact⟨k+1,om,by go_num,S3,t3,HM2⟩
       case measure=>simp[intOf];omega
  . have e:k=N:=om
    subst e;have hzk:¬((k:Int)<k):=om
    have hMA:dQ ls:=by have:=HM.out;rw[<-HNL.out,List.take_length] at this;exact this
    have HMA:=ae hMA;clear HM hMA;have b2:=b1.out.aA s2;have a0:=b2.c0;have fa0:=b2.f 0;have a1:=b2.c1;have fa1:=b2.f 1;have a2:=b2.c2;have fa2:=b2.f 2;have a3:=b2.c3;have fa3:=b2.f 3;have a4:=b2.c4;have fa4:=b2.f 4;have a5:=b2.c5;have fa5:=b2.f 5
    match k with
    | 0=>
      have HE:Hid (kn ls):=ae ⟨HMA.out,fun x hx=>by
       rw[acp HNL.out] at hx
       simp at hx⟩
      go_wp2;obtain⟨B9,S9⟩:=FIN.out _ S b2 (.i 0) (.i 0) (.n) (.n) (.n) (.i 0);exact bodyPost_ret (eF rfl _ _ _ _ _ _ _ _ _ rfl B9) rfl ⟨S9,Or.inr (Or.inr (Or.inl ⟨hle,HE.out,rfl⟩))⟩
    | k+1=>
    have hkl:k<ls.length:=by rw[HNL.out];omega
    obtain⟨n,hn⟩:∃n,(ls[k]).1=n:=⟨_,rfl⟩;obtain⟨ws,hws⟩:∃ws,(ls[k]).2=ws:=⟨_,rfl⟩;have hg:ls[k]?=some (n,ws):=by rw[List.getElem?_eq_getElem hkl,<-hn,<-hws]
    have HLAST:Hid (ls.getLast?=some (n,ws)):=ae (by rw[List.getLast?_eq_getElem?,HNL.out];exact hg);obtain⟨q,cq,-,c1,C⟩:=(HLL.out.aA s2).c HZ.out hg;obtain⟨x,hx⟩:∃x,ws[0]?=some x:=⟨_,List.getElem?_eq_getElem C.p⟩;have k0:=C.c 0 x hx;have HHD:Hid (ws.head?=some x):=ae (by rw[List.head?_eq_getElem?];exact hx);have hwl:=C.p;obtain⟨W,hW⟩:∃n,ws.length=n:=⟨_,rfl⟩;rw[hW] at c1 hwl;have hwl':(0:Int)<W:=om
    have hk1:IntKind.i64.wrap ((k:Int)+1-1)=(k:Int):=by rw[IntKind.wrap_i64];omega
    have hkk:(k:Int)<k+1:=om
    have hz0:¬((k:Int)+1=0):=om
    have hpz:(0:Int)<k+1:=om
    clear hn hws hg C hx hW hkl
    by_cases hx:x.toList=[111,117,116,112,117,116]
    rotate_left
    . have hbe:(x.toList==[111,117,116,112,117,116])=false:=by simpa using hx
      have HX:Hid (x≠cj):=ae (fun e=>hx (by rw[e];decide+kernel))
      have HE:Hid (kn ls):=ae ⟨HMA.out,fun y hy=>by
       rw[HLAST.out] at hy;simp only[Option.some.injEq] at hy;subst hy;rw[HHD.out]
       simp
       exact HX.out⟩
      clear hx;go_wp2;obtain⟨B9,S9⟩:=FIN.out _ S b2 (.i 0) (.i 0) (.n) (.n) (.n) (.i 0);exact bodyPost_ret (eF rfl _ _ _ _ _ _ _ _ _ rfl B9) rfl ⟨S9,Or.inr (Or.inr (Or.inl ⟨hle,HE.out,rfl⟩))⟩
    . have hbe:(x.toList==[111,117,116,112,117,116])=true:=by simpa using hx
      have HX:x=cj:=mr.1 (by rw[hx];decide+kernel);obtain⟨x1,x2,xo,bs,ns,GS⟩:=ae7 HMA.out HLAST.out (by rw[HHD.out,HX]);have HGS:=ae GS;clear hx HX GS HHD HLAST HMA;clear a0 fa0 a1 fa1 a2 fa2 a3 fa3 a4 fa4 a5 fa5;go_wp2_with fail;have GA:=rN.start S b2;have sB:wr.S ((((wr.alloc (.cells #[] 44)).alloc (.cells #[] 44)).alloc (.cells #[] 48)).alloc (.cells #[.i 0,.i 0,.s wr.heap.size 0 0,.s (wr.heap.size+1) 0 0,.s (wr.heap.size+1+1) 0 0,.i 0] 26)):=(((bJ _ _).alloc qz _).alloc (by simp;omega) _).alloc (by simp;omega) _;have s2B:=s2.tr sB;have hlo:=s2.size;generalize ((((wr.alloc (.cells #[] 44)).alloc (.cells #[] 44)).alloc (.cells #[] 48)).alloc (.cells #[.i 0,.i 0,.s wr.heap.size 0 0,.s (wr.heap.size+1) 0 0,.s (wr.heap.size+1+1) 0 0,.i 0] 26))=wB at GA s2B⊢;clear sB S s2 b2 c1 k0 b1;generalize wr.heap.size=lo at GA hlo⊢;clear wr;obtain⟨d,hd⟩:∃d,lo+1+1+1=d:=⟨_,rfl⟩;rw[hd] at GA⊢;have hld:lo<=d:=om
      clear hd;obtain⟨n0,no,EL⟩:=HGS.out.ex;have HEL:=ae EL
      have HLEN:Hid (bs.length+ns.length+1=k):=ae (by
       have h9:=HNL.out;rw[EL] at h9
       simp at h9
       omega)
      clear EL;obtain⟨I,eI⟩:∃I,dv x1 x1.size=I:=⟨_,rfl⟩;obtain⟨RD,eR⟩:∃I,dv x2 x2.size=I:=⟨_,rfl⟩;obtain⟨OT,eO⟩:∃I,dv xo xo.size=I:=⟨_,rfl⟩;have JI1:∀w',Cl 29 #[.string x1] w' fun e w''=>e=.returned (.i (I:Int))/\w'.S w'':=fun w'=>by rw[<-eI];exact @li x1 w' HGS.out.i1
      have JI2:∀w',Cl 29 #[.string x2] w' fun e w''=>e=.returned (.i (RD:Int))/\w'.S w'':=fun w'=>by rw[<-eR];exact @li x2 w' HGS.out.i2
      have JI3:∀w',Cl 29 #[.string xo] w' fun e w''=>e=.returned (.i (OT:Int))/\w'.S w'':=fun w'=>by rw[<-eO];exact @li xo w' HGS.out.io
      have EI:=ae eI;have ER:=ae eR;have EO:=ae eO;clear eI eR eO
      have HKC:Hid (∀w',w1.S w'->∀(j n:Nat) (ws:List ByteArray),ls[j]?=some (n,ws)->∃q cq,q<w1.heap.size/\w'.cell? (jj gl (j*2+1))=some (.s q ws.length cq)/\nx w' q cq ws):=ae (fun w' s j n ws hg=>by
       obtain⟨q,cq,-,c1,C⟩:=HLL.out.c HZ.out hg;exact⟨q,cq,gz _ _ (C.c 0 _ (List.getElem?_eq_getElem C.p)),(s.cell (a:=jj gl (j*2+1)) (gz _ _ c1)).trans c1,C.aA s⟩)
      clear hzk hwl hwl' hk1 hkk hz0 hpz hbe
      go_loopw [9] (fun i wr=>∃(j gL cL gH cH gN cN:Nat) (In Rd Out:Int) (xL xH xN:List Value) (zs:List (List Value)),j<=k+1/\i=.i (j:Int)/\w1.S wr/\Hid (rN w wr d lo gN In Rd Out (sL (bs.take (j-1))) (sH (bs.take (j-1))) (ns.take (j-1-bs.length)) gL cL gH cH cN xL xH xN zs)/\Hid (0<j->In=(I:Int)/\Rd=(RD:Int))/\Hid (j=k+1->Out=(OT:Int))) (fun i _=>k+1-(intOf i).toNat)
      case atStart=>exact⟨0,_,_,_,_,_,_,_,_,_,_,_,_,_,Nat.zero_le _,rfl,s2B,ae (by simpa [sL,sH] using GA),ae (fun h=>absurd h om),ae (fun h=>by omega)⟩
      case round=>
       clear GA s2B;obtain⟨j,gL,cL,gH,cH,gN,cN,In,Rd,Out,xL,xH,xN,zs,hj,rfl,s2,HGA,HIN,HOUT⟩:=hrel
       by_cases hlt:j<k+1
       . have hzj:(j:Int)<k+1:=om
         have hj0:(0:Int)<=j:=om
         by_cases hj1:j=0
         . subst hj1
           obtain⟨q,cq,hq,c1,C⟩:=HKC.out wr s2 0 n0 [bS,x1,x2] (by rw[HEL.out];rfl);have c1:wr.cell? (jj gl 1)=some (.s q 3 cq):=c1;have k0:=C.c 0 _ rfl;have k1:=C.c 1 _ rfl;have K2:=ae (C.c 2 _ rfl);obtain⟨x',hx'⟩:∃x,bS=x:=⟨_,rfl⟩;rw[hx'] at k0;have hbg:(x'.toList==[103,114,97,112,104])=true:=by rw[<-hx'];decide+kernel
           have hqd:q≠d:=om
           clear hx' C;go_wp2_with fail;refine (JI1 wr).mono ?_;rintro e w3 ⟨rfl,s3⟩;have GA3:=HGA.out.aA s3;have m0:=GA3.B.c0;have f0:=GA3.B.f 0;have k23:=(s3.cell (a:=jj q 2) (gz _ _ K2.out)).trans K2.out;have t3:=s2.tr s3;clear c1 k0 k1;go_wp2_with fail;have GA4:=GA3.put (GA3.B.aE (.i (I:Int)));have t4:w1.S (w3.setCell (jj d 0) (.i (I:Int))):=de t3 om;clear GA3 m0 f0;generalize w3.setCell (jj d 0) (.i (I:Int))=w4 at*;refine (JI2 w4).mono ?_;rintro e w5 ⟨rfl,s5⟩;have GA5:=GA4.aA s5;have m1:=GA5.B.c1;have f1:=GA5.B.f 1;have t5:=t4.tr s5;have GA6:=ae (GA5.put (GA5.B.aG (.i (RD:Int))));have t6:w1.S (w5.setCell (jj d 1) (.i (RD:Int))):=de t5 om;clear GA4 GA5;go_wp2;go_roundw
           case rel=>exact⟨1,gL,cL,gH,cH,gN,cN,_,_,_,xL,xH,xN,zs,om,by go_num,t6,GA6,ae (fun _=>⟨rfl,rfl⟩),ae (fun h=>by have:=HLEN.out;omega)⟩
           case measure=>simp[intOf]
         by_cases hjb:j<=bs.length
         . obtain⟨lL,eL⟩:∃l,sL (bs.take (j-1))=l:=⟨_,rfl⟩
           obtain⟨lH,eH⟩:∃l,sH (bs.take (j-1))=l:=⟨_,rfl⟩;have e0:ns.take (j-1-bs.length)=[]:=by rw[show j-1-bs.length=0 by omega,List.take_zero]
           have hi:j-1<bs.length:=om
           obtain⟨n,hn⟩:∃n,(bs[j-1]).1=n:=⟨_,rfl⟩;obtain⟨y1,y2,hy,-,-⟩:=HGS.out.box _ (List.getElem_mem hi);have hbg:bs[j-1]?=some (n,[ie,y1,y2]):=by rw[List.getElem?_eq_getElem hi,<-hn,<-hy]
           have hg:ls[j]?=some (n,[ie,y1,y2]):=by
            rw[HEL.out,show j=(j-1)+1 by omega,List.getElem?_cons_succ,List.append_assoc,List.getElem?_append_left hi];exact hbg
           have ET:Hid (bs.take j=bs.take (j-1)++[(n,[ie,y1,y2])]):=ae (by
            rw[show j=(j-1)+1 by omega,List.take_add_one,Nat.add_sub_cancel,hbg]
            rfl)
           have GA0:rN w wr d lo gN In Rd Out lL lH [] gL cL gH cH cN xL xH xN zs:=by
            have:=HGA.out;rw[eL,eH,e0] at this;exact this
           have ELL:=ae eL;have EHH:=ae eH
           have hlL:lL.length<=100001:=by
            have h9:=HLEN.out;rw[<-eL];unfold sL;rw[List.length_map,List.length_take];omega
           have hlH:lH.length<=100001:=by
            have h9:=HLEN.out;rw[<-eH];unfold sH;rw[List.length_map,List.length_take];omega
           have HJB:=ae hjb;have E0:Hid (ns.take (j-bs.length)=[]):=ae (by rw[show j-bs.length=0 by omega,List.take_zero]);obtain⟨q,cq,hq,c1,C⟩:=HKC.out wr s2 j n _ hg;have c1:wr.cell? (jj gl (j*2+1))=some (.s q 3 cq):=c1;have k0:=C.c 0 _ rfl;have k1:=C.c 1 _ rfl
           have KW:Hid (∀w',w1.S w'->w'.cell? (jj q 2)=some (.string y2)):=ae (fun w' s=>by
            obtain⟨q3,cq3,hq3,c3,C3⟩:=HKC.out w1 (eg _ _) j n _ hg;have h9:=(s2.cell (a:=jj gl (j*2+1)) (gz _ _ c3)).trans c3;rw[c1] at h9;simp only[Option.some.injEq,Value.slice.injEq,Addr.mk.injEq,and_true] at h9;obtain⟨rfl,-⟩:q=q3/\True:=⟨by simpa using h9.1,trivial⟩;exact (s.cell (a:=jj q 2) hq).trans (C3.c 2 _ rfl))
           have hy1:=C.z y1 qz;have hy2:=C.z y2 qz;obtain⟨x',hx'⟩:∃x,ie=x:=⟨_,rfl⟩;rw[hx'] at k0;have hbg:(x'.toList==[103,114,97,112,104])=false:=by rw[<-hx'];decide+kernel
           have hbb:(x'.toList==[98,111,120])=true:=by rw[<-hx'];decide+kernel
           have hqd:q≠d:=om
           clear hx' C hg hy hn hi e0 eL eH HGA hjb;obtain⟨iR,hiR,hiR0,hiR1,hiR2⟩:=jY;have p2:=GA0.B.c2;have f2:=GA0.B.f 2;have gLl:=GA0.T.W.own.lt gL rfl;have gHl:=GA0.T.B.own.lt gH rfl;have lo0:=GA0.lo0;have hLd:¬(gL=d∨gL=gN):=GA0.T.dW gL rfl;have hHd:¬(gH=d∨gH=gN):=GA0.T.dB gH rfl;have hLd1:gL≠d:=fun e=>hLd (Or.inl e)
           have hHd1:gH≠d:=fun e=>hHd (Or.inl e)
           clear hLd hHd;have dr:=sT wr;have JM:=@xQ y1 wr.drew hy1;have GX:=ae GA0;clear GA0
           go_upto_region 20 with fail
           go_cut [] (fun wx=>∃(g5 c5:Nat) (x5:List Value),Hid (rN w wx d lo gN In Rd Out (lL++[y1]) lH [] g5 c5 gH cH cN x5 xH xN zs)/\w1.S wx)
           case first=>
            have p2d:wr.drew.cell? (jj d 2)=some (.s gL lL.length cL):=p2;have k1d:wr.drew.cell? (jj q 1)=some (.string y1):=k1
            go_region_law
             (first
               | (refine j8 (by rfl) _ _ 23 (by rfl) lo 44 iR _ 3 56 Tryz.underlying23 hiR hiR0 hiR1 hiR2 (by rfl) qd gL cL lL.length xL (by rfl) OB7.out (jj w7.heap.size 0) 1 1 [.bool nb,.slice a1 q1 c1',.slice a2 q2 c2'] (by rfl) (by rfl) (rb _ _ _ _ _) (qY _ _ _ _ _ _ _) (by unfold maxLen;omega) om (by simp;omega) (w7.heap.size+1) qz ?_
                  intro g7 c7 w8 hown hgrow hat hlt8;have BX8:=(BX7.aA sW).aR (jP.aJ hgrow) (fun e=>hLd1 (by simpa using e));have p8:=BX8.c2;have f8:=BX8.f 2)
               | (go_simp
                  go_at_call 30;with_reducible refine JM.mono ?_
                  rintro e w7 ⟨v,rfl,RV,s7⟩;have W7:=RV;obtain⟨v1,v2,g1,g2,rfl,N1,N2,-,-,-⟩:=RV;obtain⟨a1,q1,c1',Y1,rfl,-⟩:=N1;obtain⟨a2,q2,c2',Y2,rfl,-⟩:=N2;obtain⟨nb,hnb⟩:∃b,(ak y1).1=b:=⟨_,rfl⟩;have W7:Hid (iG w7 (fun q=>wr.heap.size<=q) (.agg #[.bool nb,.slice a1 q1 c1',.slice a2 q2 c2']) y1):=ae (by rw[<-hnb];exact W7);rw[hnb];have HNB:=ae hnb;have u7:=dr.tr s7;have sW:=bJ w7 (.cells #[.bool nb,.slice a1 q1 c1',.slice a2 q2 c2'] 44);have BX7:=GX.out.B.aA u7;have p7:=BX7.c2;have p7':=(BX7.aA sW).c2;have OB7:Hid ((w7.alloc (.cells #[.bool nb,.slice a1 q1 c1',.slice a2 q2 c2'] 44)).ownsRow lo 44 3 (.s gL lL.length cL) lL.length xL):=ae (((GX.out.T.aA u7).aA sW).W.own);have z7:=u7.size;clear hnb s7))
            all_goals
             have zW:(w7.alloc (.cells #[.bool nb,.slice a1 q1 c1',.slice a2 q2 c2'] 44)).heap.size=w7.heap.size+1:=by simp
             have GA9:=ae (GX.out.addL u7 W7.out HNB.out hgrow hown hat);have S9:w1.S (w8.setCell (jj d 2) (.s g7 (lL.length+1) c7)):=de (((s2.tr u7).trans (sM sW (by have:=s2.size;omega))).grown hgrow (by have:=s2.size;omega) (fun q hq=>by simp at hq;omega)) om;clear hown hgrow hat W7 OB7 p2 p2d f2 k1d;go_wp2_with fail
             go_meet
             case rel=>exact⟨g7,c7,_,GA9,S9⟩
           case rest=>
           clear JM p2 f2 k1 k0 c1 GX s2 gLl gHl hLd1;obtain⟨g5,c5,x5,GX,s2⟩:=hcut;have JM:=@xQ y2 wc.drew hy2;have dr:=sT wc;have gHl:=GX.out.T.B.own.lt gH rfl;have p3:=GX.out.B.c3;have f3:=GX.out.B.f 3;have k2:=KW.out wc s2;have p3d:wc.drew.cell? (jj d 3)=some (.s gH lH.length cH):=p3;have k2d:wc.drew.cell? (jj q 2)=some (.string y2):=k2;go_wp2_with fail
           go_region_law
            (first
              | (refine j8 (by rfl) _ _ 23 (by rfl) lo 44 iR _ 3 56 Tryz.underlying23 hiR hiR0 hiR1 hiR2 (by rfl) qd gH cH lH.length xH (by rfl) OB7.out (jj w7.heap.size 0) 1 1 [.bool nb,.slice a1 q1 c1',.slice a2 q2 c2'] (by rfl) (by rfl) (rb _ _ _ _ _) (qY _ _ _ _ _ _ _) (by unfold maxLen;omega) om (by simp;omega) (w7.heap.size+1) qz ?_
                 intro g7 c7 w8 hown hgrow hat hlt8;have BX8:=(BX7.aA sW).aR (jP.aJ hgrow) (fun e=>hHd1 (by simpa using e));have p8:=BX8.c3;have f8:=BX8.f 3)
              | (go_simp
                 go_at_call 30;with_reducible refine JM.mono ?_
                 rintro e w7 ⟨v,rfl,RV,s7⟩;have W7:=RV;obtain⟨v1,v2,g1,g2,rfl,N1,N2,-,-,-⟩:=RV;obtain⟨a1,q1,c1',Y1,rfl,-⟩:=N1;obtain⟨a2,q2,c2',Y2,rfl,-⟩:=N2;obtain⟨nb,hnb⟩:∃b,(ak y2).1=b:=⟨_,rfl⟩;have W7:Hid (iG w7 (fun q=>wc.heap.size<=q) (.agg #[.bool nb,.slice a1 q1 c1',.slice a2 q2 c2']) y2):=ae (by rw[<-hnb];exact W7);rw[hnb];have HNB:=ae hnb;have u7:=dr.tr s7;have sW:=bJ w7 (.cells #[.bool nb,.slice a1 q1 c1',.slice a2 q2 c2'] 44);have BX7:=GX.out.B.aA u7;have p7:=BX7.c3;have p7':=(BX7.aA sW).c3;have OB7:Hid ((w7.alloc (.cells #[.bool nb,.slice a1 q1 c1',.slice a2 q2 c2'] 44)).ownsRow lo 44 3 (.s gH lH.length cH) lH.length xH):=ae (((GX.out.T.aA u7).aA sW).B.own);have z7:=u7.size;clear hnb s7))
           all_goals
            have zW:(w7.alloc (.cells #[.bool nb,.slice a1 q1 c1',.slice a2 q2 c2'] 44)).heap.size=w7.heap.size+1:=by simp
            have GA9:Hid (rN w (w8.setCell (jj d 3) (.s g7 (lH.length+1) c7)) d lo gN In Rd Out (sL (bs.take (j+1-1))) (sH (bs.take (j+1-1))) (ns.take (j+1-1-bs.length)) g5 c5 g7 c7 cN x5 (xH++[.bool nb,.slice a1 q1 c1',.slice a2 q2 c2']) xN zs):=ae (by
             rw[Nat.add_sub_cancel,ET.out,E0.out];unfold sL sH;rw[List.map_append,List.map_append];have h9:=GX.out.addH u7 W7.out HNB.out hgrow hown hat;rw[<-ELL.out,<-EHH.out] at h9;rw[<-EHH.out];exact h9)
            have S9:w1.S (w8.setCell (jj d 3) (.s g7 (lH.length+1) c7)):=de (((s2.tr u7).trans (sM sW (by have:=s2.size;omega))).grown hgrow (by have:=s2.size;omega) (fun q hq=>by simp at hq;omega)) om;clear hown hgrow hat W7 OB7 p3 p3d f3 k2d k2;go_wp2;go_roundw
            case rel=>exact⟨j+1,g5,c5,g7,c7,gN,cN,In,Rd,Out,_,_,xN,zs,om,by go_num,S9,GA9,ae (fun _=>HIN.out om),ae (fun h=>by have:=HLEN.out;have:=HJB.out;omega)⟩
            case measure=>simp[intOf];omega
         by_cases hjn:j<=bs.length+ns.length
         . obtain⟨i,hi⟩:∃i,j-1-bs.length=i:=⟨_,rfl⟩
           have hin:i<ns.length:=om
           have eb:bs.take (j-1)=bs:=List.take_of_length_le om;have eb2:Hid (bs.take (j+1-1)=bs):=ae (List.take_of_length_le om);obtain⟨n,hn⟩:∃n,(ns[i]).1=n:=⟨_,rfl⟩;obtain⟨ws,hws⟩:∃ws,(ns[i]).2=ws:=⟨_,rfl⟩;have hok:eW ws:=by rw[<-hws];exact HGS.out.nod _ (List.getElem_mem hin)
           have hng:ns[i]?=some (n,ws):=by rw[List.getElem?_eq_getElem hin,<-hn,<-hws]
           have hg:ls[j]?=some (n,ws):=by
            rw[HEL.out,show j=(j-1)+1 by omega,List.getElem?_cons_succ,List.append_assoc,List.getElem?_append_right om,hi,List.getElem?_append_left hin];exact hng
           have ET:Hid (ns.take (j+1-1-bs.length)=ns.take i++[(n,ws)]):=ae (by
            rw[show j+1-1-bs.length=i+1 by omega,List.take_add_one,hng]
            rfl)
           have GA0:rN w wr d lo gN In Rd Out (sL bs) (sH bs) (ns.take i) gL cL gH cH cN xL xH xN zs:=by
            have:=HGA.out;rw[eb,hi] at this;exact this
           obtain⟨nt,ent⟩:∃t,ns.take i=t:=⟨_,rfl⟩
           have hnt:nt.length<=100001:=by
            have h9:=HLEN.out;rw[<-ent,List.length_take];omega
           rw[ent] at GA0 ET;have HJN:=ae hjn;obtain⟨q,cq,hq,c1,C⟩:=HKC.out wr s2 j n ws hg;have dr:=sT wr;have JM:=@abu q cq ws wr.drew (C.aA dr) hok;obtain⟨kd,hkd,hhd,-⟩:=hok.head;have k0:=C.c 0 kd.word (by rw[<-List.head?_eq_getElem?];exact hhd);have hwl:=C.p;obtain⟨x',hx'⟩:∃x,kd.word=x:=⟨_,rfl⟩;rw[hx'] at k0
           have hbg:(x'.toList==[103,114,97,112,104])=false:=by
            rw[<-hx']
            rcases hkd with rfl | rfl | rfl | rfl | rfl | rfl | rfl<;>decide+kernel
           have hbb:(x'.toList==[98,111,120])=false:=by
            rw[<-hx']
            rcases hkd with rfl | rfl | rfl | rfl | rfl | rfl | rfl<;>decide+kernel
           have hbo:(x'.toList==[111,117,116,112,117,116])=false:=by
            rw[<-hx']
            rcases hkd with rfl | rfl | rfl | rfl | rfl | rfl | rfl<;>decide+kernel
           obtain⟨W,hW⟩:∃n,ws.length=n:=⟨_,rfl⟩;rw[hW] at c1 hwl JM;have hwl':(0:Int)<W:=om
           have hqd:q≠d:=om
           have JM:Cl 31 #[.s q W cq] wr.drew fun e w'=>wk wr.drew w' (nD ws).op (nD ws).a (nD ws).b (nD ws).k (nD ws).s (vw ws) e:=JM
           have GX:=ae GA0;obtain⟨iN,hiN,hiN0,hiN1,hiN2⟩:=pT;have p4:=GA0.B.c4;have f4:=GA0.B.f 4;have gNl:=GA0.N.own.lt gN rfl;have lo0:=GA0.lo0;have dN:=GA0.dN;have p4d:wr.drew.cell? (jj d 4)=some (.s gN nt.length cN):=p4;obtain⟨M,hM⟩:∃m,(vw ws).length=m:=⟨_,rfl⟩;have HM:=ae hM;clear hx' C hg hn hws hng hok hhd hW hin eb hjn hjb HGA GA0 hi hM ent hkd;go_wp2_with fail
           go_region_law
            (first
              | (refine j8 (by rfl) _ _ 24 (by rfl) lo 48 iN _ 6 64 Tryz.underlying24 hiN hiN0 hiN1 hiN2 (by rfl) qd gN cN nt.length xN (by rfl) OB7.out (jj w7.heap.size 0) 1 1 [.i (nD ws).op,.i (nD ws).a,.i (nD ws).b,.i (nD ws).k,.i (nD ws).s,.slice ad (vw ws).length cap] (by rfl) (by rfl) (agq _ _ _ _ _ _ _ _) (age _ _ _ _ _ _ _ _) (by unfold maxLen;omega) om (by simp;omega) (w7.heap.size+1) qz ?_
                 intro g7 c7 w8 hown hgrow hat hlt8;have BX8:=(BX7.aA sW).aR (jP.aJ hgrow) (fun e=>dN (by simpa using e));have p8:=BX8.c4;have f8:=BX8.f 4)
              | (go_simp
                 go_at_call 31;with_reducible refine JM.mono ?_
                 rintro e w7 ⟨ad,cap,xV,rfl,OV,s7⟩;have OV:=ae OV;have u7:=dr.tr s7;have sW:=bJ w7 (.cells #[.i (nD ws).op,.i (nD ws).a,.i (nD ws).b,.i (nD ws).k,.i (nD ws).s,.slice ad (vw ws).length cap] 48);have BX7:=GX.out.B.aA u7;have p7:=BX7.c4;have p7':=(BX7.aA sW).c4;have OB7:Hid ((w7.alloc (.cells #[.i (nD ws).op,.i (nD ws).a,.i (nD ws).b,.i (nD ws).k,.i (nD ws).s,.slice ad (vw ws).length cap] 48)).ownsRow lo 48 6 (.s gN nt.length cN) nt.length xN):=ae (((GX.out.N.aA u7).aA sW).own);have z7:=u7.size;clear s7))
           all_goals
            have zW:(w7.alloc (.cells #[.i (nD ws).op,.i (nD ws).a,.i (nD ws).b,.i (nD ws).k,.i (nD ws).s,.slice ad (vw ws).length cap] 48)).heap.size=w7.heap.size+1:=by simp
            have GA9:Hid (rN w (w8.setCell (jj d 4) (.s g7 (nt.length+1) c7)) d lo g7 In Rd Out (sL (bs.take (j+1-1))) (sH (bs.take (j+1-1))) (ns.take (j+1-1-bs.length)) gL cL gH cH c7 xL xH (xN++[.i (nD ws).op,.i (nD ws).a,.i (nD ws).b,.i (nD ws).k,.i (nD ws).s,.slice ad (vw ws).length cap]) (zs++[.slice ad (vw ws).length cap::xV])):=ae (by
             rw[eb2.out,ET.out];exact GX.out.addN u7 OV.out hgrow hown hat)
            have S9:w1.S (w8.setCell (jj d 4) (.s g7 (nt.length+1) c7)):=de (((s2.tr u7).trans (sM sW (by have:=s2.size;omega))).grown hgrow (by have:=s2.size;omega) (fun q hq=>by simp at hq;omega)) om;clear hown hgrow hat OV OB7 p4 p4d f4;go_wp2;go_roundw
            case rel=>exact⟨j+1,gL,cL,gH,cH,g7,c7,In,Rd,Out,xL,xH,_,_,om,by go_num,S9,GA9,ae (fun _=>HIN.out om),ae (fun h=>by have:=HLEN.out;have:=HJN.out;omega)⟩
            case measure=>simp[intOf];omega
         have ej:j=k:=by have:=HLEN.out;omega
         subst ej
         have hg:ls[j]?=some (no,[cj,xo]):=by
          have h9:=HLEN.out;rw[HEL.out,<-h9,List.getElem?_cons_succ,List.getElem?_append_right qz]
          simp
         have eb:bs.take (j-1)=bs:=List.take_of_length_le om;have eb2:bs.take (j+1-1)=bs:=List.take_of_length_le om;have en:ns.take (j-1-bs.length)=ns:=List.take_of_length_le om;have en2:ns.take (j+1-1-bs.length)=ns:=List.take_of_length_le om
         have GA0:Hid (rN w wr d lo gN In Rd Out (sL bs) (sH bs) ns gL cL gH cH cN xL xH xN zs):=ae (by
          have:=HGA.out;rw[eb,en] at this;exact this)
         obtain⟨q,cq,hq,c1,C⟩:=HKC.out wr s2 j no _ hg;have c1:wr.cell? (jj gl (j*2+1))=some (.s q 2 cq):=c1;have k0:=C.c 0 _ rfl;have k1:=C.c 1 _ rfl;obtain⟨x',hx'⟩:∃x,cj=x:=⟨_,rfl⟩;rw[hx'] at k0;have hbg:(x'.toList==[103,114,97,112,104])=false:=by rw[<-hx'];decide+kernel
         have hbb:(x'.toList==[98,111,120])=false:=by rw[<-hx'];decide+kernel
         have hbo:(x'.toList==[111,117,116,112,117,116])=true:=by rw[<-hx'];decide+kernel
         have hqd:q≠d:=om
         have EB2:=ae eb2;have EN2:=ae en2;clear hx' C hg hjn hjb eb eb2 en en2 HGA;go_wp2_with fail;refine (JI3 wr).mono ?_;rintro e w3 ⟨rfl,s3⟩;have GA3:=GA0.out.aA s3;have m0:=GA3.B.c5;have f0:=GA3.B.f 5;have t3:=s2.tr s3
         have GA4:Hid (rN w (w3.setCell (jj d 5) (.i (OT:Int))) d lo gN In Rd (OT:Int) (sL (bs.take (j+1-1))) (sH (bs.take (j+1-1))) (ns.take (j+1-1-bs.length)) gL cL gH cH cN xL xH xN zs):=ae (by
          rw[EB2.out,EN2.out];exact GA3.put (GA3.B.aO (.i (OT:Int))))
         have t4:w1.S (w3.setCell (jj d 5) (.i (OT:Int))):=de t3 om;clear c1 k0 k1 GA3 GA0;go_wp2;go_roundw
         case rel=>exact⟨j+1,gL,cL,gH,cH,gN,cN,In,Rd,_,xL,xH,xN,zs,om,by go_num,t4,GA4,ae (fun _=>HIN.out om),ae (fun _=>rfl)⟩
         case measure=>simp[intOf]
       . have e:j=k+1:=om
         subst e;have hzj:¬(((k:Int)+1<(k:Int)+1)):=om
         obtain⟨rfl,rfl⟩:=HIN.out om;have hout:=HOUT.out rfl;subst hout
         have GA0:rN w wr d lo gN (I:Int) (RD:Int) (OT:Int) (sL bs) (sH bs) ns gL cL gH cH cN xL xH xN zs:=by
          have h9:=HLEN.out;have:=HGA.out;rw[List.take_of_length_le om,List.take_of_length_le om] at this;exact this
         have esL:(sL bs).length=bs.length:=by unfold sL;rw[List.length_map]
         have esH:(sH bs).length=bs.length:=by unfold sH;rw[List.length_map]
         have GX:=ae GA0;have hB:=GA0.B;rw[esL,esH] at hB;obtain⟨p0,p1,p2,p3,p4,p5⟩:=hB.g;have b2:=GA0.R;have a0:=b2.c0;have fa0:=b2.f 0;have a1:=b2.c1;have fa1:=b2.f 1;have a2:=b2.c2;have fa2:=b2.f 2;have a3:=b2.c3;have fa3:=b2.f 3;have a4:=b2.c4;have fa4:=b2.f 4;have a5:=b2.c5;have fa5:=b2.f 5;have BB:=ae b2;have ESL:=ae esL;have ESH:=ae esH;clear hB b2 GA0 HGA esL esH;go_wp2;obtain⟨B9,S9⟩:=FIN.out _ GX.out.S BB.out (.i (I:Int)) (.i (RD:Int)) (.s gL bs.length cL) (.s gH bs.length cH) (.s gN ns.length cN) (.i (OT:Int));have l0:=GX.out.lo0;have BS:=((((((cF.refl w.heap.size wr).set 0 (.i (I:Int))).set 1 (.i (RD:Int))).set 2 (.s gL bs.length cL)).set 3 (.s gH bs.length cH)).set 4 (.s gN ns.length cN)).set 5 (.i (OT:Int))
         have T9:=GX.out.T.low.put BS.c (fun q e=>by
          have e':w.heap.size=q:=by simpa using e.symm
          show q<lo
          omega)
         have N9:=GX.out.N.n.aR BS.c (fun q e=>by have e':w.heap.size=q:=(by simpa using e.symm);omega)
         rw[ESL.out,ESH.out] at T9;refine bodyPost_ret (eF rfl _ _ _ _ _ _ _ _ _ rfl B9) rfl ⟨S9,Or.inr (Or.inr (Or.inr ⟨hle,x1,x2,xo,bs,ns,_,cL,_,cH,_,cN,xL,xH,xN,zs,lo,_,HGS.out, ?_,T9,N9⟩))⟩;rw[EI.out,ER.out,EO.out]
         rfl
theorem aei(bs:List (Nat×List ByteArray)):(sL bs).length=bs.length:=by unfold sL;rw[List.length_map]
theorem aej(bs:List (Nat×List ByteArray)):(sH bs).length=bs.length:=by unfold sH;rw[List.length_map]
theorem air{bs:List (Nat×List ByteArray)}(h:vs bs):∀x∈sL bs,dI x:=fun x hx=>by
 unfold sL at hx;obtain⟨b,hb,rfl⟩:=List.mem_map.1 hx;obtain⟨x1,x2,e,h1,h2⟩:=h b hb;rw[e];exact h1
theorem ais{bs:List (Nat×List ByteArray)}(h:vs bs):∀x∈sH bs,dI x:=fun x hx=>by
 unfold sH at hx;obtain⟨b,hb,rfl⟩:=List.mem_map.1 hx;obtain⟨x1,x2,e,h1,h2⟩:=h b hb;rw[e];exact h2
theorem afM{bs:List (Nat×List ByteArray)}(h:vs bs):ue bs=3*bs.length:=by
 induction bs with
 | nil=>simp[ue]
 | cons b bs ih=>
   obtain⟨x1,x2,e,-⟩:=h b qz;rw[ud,ih (fun b' hb=>h b' (by simp[hb])),e]
   simp
   omega
theorem qi{fs:List Nat}{ws:List ByteArray}(h:∀k,k<fs.length->isInt (wd ws (1+k)))(g:Nat):∀k,k<=fs.length->0<=fV fs ws k g/\fV fs ws k g<=999999:=by
 intro k
 induction k with
 | zero=>intro _;unfold fV;omega
 | succ k ih=>
   intro hk;unfold fV
   split
   . have:=jz (h k om);omega
   . exact ih om
theorem wK{ws:List ByteArray}(h:eW ws):(ef (nD ws).op/\ef (nD ws).a/\ef (nD ws).b/\ef (nD ws).k/\ef (nD ws).s)/\(∀x∈vw ws,dI x)/\(vw ws).length+1<=ws.length:=by
 obtain⟨hk,ho⟩:=xT h;obtain⟨is,ns,ew,h1,h2,h3,h4,h5⟩:=iT.1 ho;obtain⟨nm,ew'⟩:∃nm,ws=nm::(is++ns):=⟨_,ew⟩
 have ev:vw ws=ns:=by
  have h9:ws.drop (1+is.length)=ns:=by rw[ew',Nat.add_comm,List.drop_succ_cons,List.drop_left]
  unfold vw;rw[<-h1];exact h9
 have hint:∀k,k<(kF ws).fs.length->isInt (wd ws (1+k)):=fun k hk=>by
  have e:wd ws (1+k)=wd is k:=by
   rw[ew'];unfold wd;rw[List.getD_eq_getElem?_getD,List.getD_eq_getElem?_getD,Nat.add_comm,List.getElem?_cons_succ,List.getElem?_append_left om]
  rw[e];exact h2 _ (oW om)
 have f1:=qi hint 1 _ (Nat.le_refl _);have f2:=qi hint 2 _ (Nat.le_refl _);have f3:=qi hint 3 _ (Nat.le_refl _);have f4:=qi hint 4 _ (Nat.le_refl _)
 have hop:0<=(kF ws).op/\(kF ws).op<=7:=by
  rcases hk with e | e | e | e | e | e | e<;>rw[e]<;>decide
 refine⟨⟨?_, ?_, ?_, ?_, ?_⟩,by rw[ev];exact h3, ?_⟩
 . show ef (kF ws).op;unfold ef;omega
 . show ef (fV (kF ws).fs ws (kF ws).fs.length 1);unfold ef;omega
 . show ef (fV (kF ws).fs ws (kF ws).fs.length 2);unfold ef;omega
 . show ef (fV (kF ws).fs ws (kF ws).fs.length 3);unfold ef;omega
 . show ef (fV (kF ws).fs ws (kF ws).fs.length 4);unfold ef;omega
 . rw[ev]
   have:=congrArg List.length ew';rw[List.length_cons,List.length_append] at this;omega
theorem ae9{ns:List (Nat×List ByteArray)}{i:Nat}(h:i<ns.length):ns[i].2=lw ns i:=by
 unfold lw;rw[List.getD_eq_getElem?_getD,List.getElem?_eq_getElem h]
 rfl
theorem ahc{ns:List (Nat×List ByteArray)}(h:vn ns){i:Nat}(hi:i<ns.length):eW (lw ns i):=by
 rw[<-ae9 hi];exact h _ (List.getElem_mem hi)
def ab3(x1 x2 xo:ByteArray)(bs ns:List (Nat×List ByteArray)):ax:=⟨((dv x1 x1.size:Nat):Int),((dv x2 x2.size:Nat):Int),bs.length,sU (sL bs),bs.length,sU (sH bs),ns.length,fun i=>nD (lw ns i),((dv xo xo.size:Nat):Int)⟩
theorem aiC(ws:List ByteArray):(nD ws).V=sU (vw ws):=by unfold nD vw pK;rfl
theorem uA{ns:List (Nat×List ByteArray)}(h:vn ns):∀k,k<=ns.length->vt (fun i=>nD (lw ns i)) k+k<=85*ue (ns.take k)/\psN (fun i=>(vw (lw ns i)).length) k<=ue (ns.take k)/\k<=ue (ns.take k):=by
 intro k
 induction k with
 | zero=>intro _;simp[vt,psN,ue]
 | succ k ih=>
   intro hk;obtain⟨i1,i2,i3⟩:=ih om;obtain⟨-,hn,hl⟩:=wK (ahc h (i:=k) om);have e1:ns.take (k+1)=ns.take k++[ns[k]]:=by rw[List.take_add_one,List.getElem?_eq_getElem om];rfl
   have e2:ue (ns.take (k+1))=ue (ns.take k)+(lw ns k).length:=by
    rw[e1,kS,<-ae9 om]
    simp[ue]
   have h1:=xn (l:=vw (lw ns k)) (n:=(vw (lw ns k)).length) (fun i hi=>hn _ (oW hi))
   have e3:vt (fun i=>nD (lw ns i)) (k+1)=vt (fun i=>nD (lw ns i)) k+((vw (lw ns k)).length+mj (sU (vw (lw ns k))) (vw (lw ns k)).length):=by
    rw[i8,<-aiC];rfl
   have e4:psN (fun i=>(vw (lw ns i)).length) (k+1)=psN (fun i=>(vw (lw ns i)).length) k+(vw (lw ns k)).length:=rfl;rw[e2,e3,e4];omega
theorem ke.lims{s:ByteArray}{x1 x2 xo:ByteArray}{bs ns:List (Nat×List ByteArray)}(hs:s.size<=20000)(h:ke (cK 0 (fN 10 s)) x1 x2 xo bs ns):(ab3 x1 x2 xo bs ns).size<=1700085/\bs.length<=20001/\ns.length<=20001/\(∀i,i<=ns.length->psN (fun i=>(vw (lw ns i)).length) i<=20001):=by
 obtain⟨n0,no,e⟩:=h.ex;have h1:=aeL 0 (fN 10 s);rw[afW,e,ud,kS,kS,afM h.box] at h1;have h2:=uA h.nod ns.length (Nat.le_refl _);rw[List.take_length] at h2;have hL:=xn (l:=sL bs) (n:=bs.length) (fun i hi=>air h.box _ (oW (by rw[aei];exact hi)));have hH:=xn (l:=sH bs) (n:=bs.length) (fun i hi=>ais h.box _ (oW (by rw[aej];exact hi)));refine⟨?_,om,om,fun i hi=> ?_⟩
 . show (bs.length+mj (sU (sL bs)) bs.length)+(bs.length+mj (sU (sH bs)) bs.length)+(ns.length+vt (fun i=>nD (lw ns i)) ns.length)<=1700085
   omega
 . have h3:=(uA h.nod i hi).2.1
   have h4:ue ns=ue (ns.take i)+ue (ns.drop i):=by rw[<-kS,List.take_append_drop]
   omega
theorem kM.nods{w:World}{lo:Nat}{v:Value}{ns:List (Nat×List ByteArray)}{xs:List Value}{zs:List (List Value)}(h:kM w lo v ns.length (lw ns) xs zs)(hN:vn ns)(hl:∀i,i<ns.length->(vw (lw ns i)).length<=1000000):∃a g cap,v=.slice a ns.length cap/\ns.length<=cap/\qG w 0 a g 0 ns.length (fun i=>nD (lw ns i)):=by
 have hc:= @World.ownsRow.cells _ _ _ _ _ _ _ h.own;have hat:=h.at_;obtain⟨_,⟨e,e0⟩ | ⟨g,cap,cur,e,hg,hb',hn,_⟩⟩:=h.own
 . exact⟨none,0,0,by rw[e,e0],om,fun i hi=>absurd hi om⟩
 . subst e
   refine⟨_,g,cap,rfl,hn,fun i hi=>⟨rfl, ?_⟩⟩;obtain⟨a,ca,xV,h1,h2,h3,h4,h5,h6,O,-,-⟩:=hat i hi;obtain⟨a1,g1,k1,e1,n1,L1⟩:=O.rats;have L1:fw w 0 a1 g1 0 (vw (lw ns i)).length (nD (lw ns i)).V:=by rw[aiC];exact L1
   simp only[Value.slice.injEq,true_and] at e1;obtain⟨rfl,rfl⟩:=e1;obtain⟨⟨i1,i2,i3,i4,i5⟩,-,-⟩:=wK (ahc hN hi);have c1:=hc (g:=g) rfl _ _ h1;have c2:=hc (g:=g) rfl _ _ h2;have c3:=hc (g:=g) rfl _ _ h3;have c4:=hc (g:=g) rfl _ _ h4;have c5:=hc (g:=g) rfl _ _ h5;have c6:=hc (g:=g) rfl _ _ h6;rw[Go.WideShapes.add_plain] at c1 c2 c3 c4 c5 c6;have:=hl i hi;exact⟨a,ca,⟨c1,by rw[Nat.add_assoc];exact c2,by rw[Nat.add_assoc];exact c3,by rw[Nat.add_assoc];exact c4,by rw[Nat.add_assoc];exact c5,by rw[Nat.add_assoc];exact c6,⟨n1,⟨g1,0,fun _=>Nat.zero_le _,L1⟩,i1,i2,i3,i4,i5,by show (vw (lw ns i)).length<=9223372036854775807;omega⟩⟩⟩
theorem ag5{w:World}{lo lo' lo'':Nat}{pL pH:Nat->Nat->Prop}{x1 x2 xo:ByteArray}{bs ns:List (Nat×List ByteArray)}{aL aH aN:Option Addr}{cL cH cN:Nat}{xL xH xN:List Value}{zs:List (List Value)}{s:ByteArray}(hs:s.size<=20000)(G:ke (cK 0 (fN 10 s)) x1 x2 xo bs ns)
 (L:cU w lo (.slice aL bs.length cL) (sL bs).length (wd (sL bs)) pL xL)(H:cU w lo' (.slice aH bs.length cH) (sH bs).length (wd (sH bs)) pH xH)(N:kM w lo'' (.slice aN ns.length cN) ns.length (lw ns) xN zs):
 gj w 0 (ab3 x1 x2 xo bs ns) aL aH aN cL cH cN:=by
 obtain⟨l1,l2,l3,l4⟩:=G.lims hs;obtain⟨a1,g1,k1,e1,n1,R1⟩:=L.rats;obtain⟨a2,g2,k2,e2,n2,R2⟩:=H.rats;rw[aei] at e1 n1 R1;rw[aej] at e2 n2 R2;simp only[Value.slice.injEq,true_and] at e1 e2;obtain⟨rfl,rfl⟩:=e1;obtain⟨rfl,rfl⟩:=e2
 obtain⟨a3,g3,k3,e3,n3,R3⟩:=N.nods G.nod (fun i hi=>by
  have h1:=l4 (i+1) om;have h2:psN (fun i=>(vw (lw ns i)).length) (i+1)=psN (fun i=>(vw (lw ns i)).length) i+(vw (lw ns i)).length:=rfl;omega)
 simp only[Value.slice.injEq,true_and] at e3;obtain⟨rfl,rfl⟩:=e3;have i1:=jz G.i1;have i2:=jz G.i2;have i3:=jz G.io;refine⟨n1,n2,n3,⟨g1,0,fun _=>Nat.zero_le _,R1⟩,⟨g2,0,fun _=>Nat.zero_le _,R2⟩,⟨g3,0,fun _=>Nat.zero_le _,R3⟩, ?_, ?_, ?_, ?_, ?_, ?_⟩
 . show ef ((dv x1 x1.size:Nat):Int);unfold ef;omega
 . show ef ((dv x2 x2.size:Nat):Int);unfold ef;omega
 . show ef ((dv xo xo.size:Nat):Int);unfold ef;omega
 . show bs.length<=_;omega
 . show bs.length<=_;omega
 . show ns.length<=_;omega
end Go.Proofs.YtclgkofcooibfaaGreatDoor
