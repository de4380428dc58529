import Derived.Test.YtclgkofcooibfaaGreatDoorOwnP33
import Derived.Deep.RegionLaw
set_option maxHeartbeats 6400000
set_option maxRecDepth 100000
namespace Go.Proofs.YtclgkofcooibfaaGreatDoor
open Go.RowKit
theorem iX.aM{w w':World}{c d:Nat}{x:Value}(h:iX w d x)(s:cF c w w')(hn:d≠c):iX w' d x:=by
 have k:=s.block d h.lt (by simpa using hn);refine⟨(fa (a:=jj d 0) k).trans h.c0,fun j=> ?_⟩;have:=h.f j;unfold World.frozen? at this⊢;rw[k];exact this
end Go.Proofs.YtclgkofcooibfaaGreatDoor
namespace Go.Proofs.YtclgkofcooibfaaGreatDoor
open Go.RowKit
theorem vu{n:Int}{w:World}:Cl 37 #[.iface 132 (.agg #[.i n])] w fun e w'=>e=.returned (.i n)/\w.S w':=by
 have sA:=bJ w (.cells #[.i n] 132);have hta:∀w:World,(Instr.typeAssert (.iface 132 (.agg #[.i n])) 20 132 true).run Tryz.prog w=.ok (.tuple #[.agg #[.i n],.bool true]) w:=fun _=>by kernel_rfl
 go_enter Tryz.func37,Tryz.ntmps37;go_wp2;go_ret;exact⟨rfl,sA⟩
theorem gi.can0{w:World}{p:Nat->Prop}{v:Value}{neg:Bool}{N D M:Nat}(h:gi w p v neg N D M)(hM:M<=9223372036854775807):∃a1 a2 k1 k2,v=.agg #[.bool (mx neg N D).neg,.slice a1 (mx neg N D).n k1,.slice a2 (mx neg N D).m k2]/\nu w 0 (mx neg N D) a1 a2 k1 k2:=by
 obtain⟨v1,v2,g,h',rfl,h1,h2,-⟩:=h;obtain⟨a1,k1,rfl,p1,p2,p3,p4,p5⟩:=h1.can;obtain⟨a2,k2,rfl,q1,q2,q3,q4,q5⟩:=h2.can;exact⟨a1,a2,k1,k2,rfl,⟨p1,q1,p3,q3,⟨g,0,fun _=>Nat.zero_le _,p4⟩,⟨h',0,fun _=>Nat.zero_le _,q4⟩,p5,q5,Nat.le_trans p2 hM,Nat.le_trans q2 hM⟩⟩
def sU(l:List ByteArray):Nat->br:=fun i=>xE (wd l i)
theorem cU.rats{w:World}{lo:Nat}{v:Value}{l:List ByteArray}{p:Nat->Nat->Prop}{xs:List Value}(h:cU w lo v l.length (wd l) p xs):∃a g cap,v=.slice a l.length cap/\l.length<=cap/\fw w 0 a g 0 l.length (sU l):=by
 have hc:= @World.ownsRow.cells _ _ _ _ _ _ _ h.own;have hat:=h.at_;obtain⟨_,⟨e,e0⟩ | ⟨g,cap,cur,e,hg,hb,hn,_⟩⟩:=h.own
 . exact⟨none,0,0,by rw[e,e0],om,fun i hi=>absurd hi om⟩
 . subst e
   refine⟨_,g,cap,rfl,hn,fun i hi=>⟨rfl, ?_⟩⟩;obtain⟨u1,u2,h1,h2,h3,h4⟩:=hat i hi;obtain⟨a1,a2,k1,k2,e,L⟩:=gi.can0 h4 om;simp only[Value.agg.injEq,Array.mk.injEq,List.cons.injEq,and_true] at e;obtain⟨e1,rfl,rfl⟩:=e;have c1:=hc (g:=g) rfl _ _ h1;have c2:=hc (g:=g) rfl _ _ h2;have c3:=hc (g:=g) rfl _ _ h3;rw[Go.WideShapes.add_plain] at c1 c2 c3;exact⟨a1,a2,k1,k2,⟨c1,by rw[Nat.add_assoc];exact c2,by rw[Nat.add_assoc];exact c3,L⟩⟩
def ue(rest:List (Nat×List ByteArray)):Nat:=(rest.map fun r=>r.2.length).sum
theorem kS(a b:List (Nat×List ByteArray)):ue (a++b)=ue a+ue b:=by simp[ue]
theorem ud(a:Nat×List ByteArray)(b:List (Nat×List ByteArray)):ue (a::b)=a.2.length+ue b:=by simp[ue]
theorem aeL(t:Nat)(L:List ByteArray):ue (cK t L)<=(L.map fun l=>l.size+1).sum:=by
 induction L generalizing t with
 | nil=>simp[cK,ue]
 | cons x xs ih=>
   have h1:=ih (t+1);have h2:=nE x;rw[cK];simp only[List.map_cons,List.sum_cons]
   split
   . omega
   . rw[ud]
     show (cS x).length+_<=_
     omega
theorem aay(c:UInt8):∀l:List UInt8,((gQ c l).map fun p=>p.length+1).sum=l.length+1
 | []=>by simp[gQ]
 | x::xs=>by
   have h:=aay c xs;unfold gQ
   split
   . simp only[List.map_cons,List.sum_cons,List.length_nil,List.length_cons,h];omega
   . cases e:gQ c xs with
     | nil=>exact absurd e (tN c xs)
     | cons p ps=>
       rw[e] at h;simp only[List.map_cons,List.sum_cons,List.length_cons] at h⊢;omega
theorem afW(c:UInt8)(s:ByteArray):((fN c s).map fun l=>l.size+1).sum=s.size+1:=by
 have h:=aay c s.data.toList;unfold fN;rw[List.map_map];rw[<-Lib.size_eq] at h;rw[<-h]
 congr 1
theorem aa1{N k:Nat}(h:N<2^(32*k)):(iE N).1<=k:=by
 obtain⟨p,hp⟩:∃p,tU N p:=⟨_,gh N⟩;obtain⟨e1,-,-⟩:=qx hp;rw[e1]
 rcases Nat.eq_zero_or_pos p.1 with h0 | h0
 . omega
 . have h1:=jU p.2 p.1 h0 (hp.2.1 h0)
   rw[hp.2.2] at h1;have h2:=Nat.lt_of_le_of_lt h1 h;have h3:=(Nat.pow_lt_pow_iff_right (show 1<2 by omega)).1 h2;omega
theorem afU:10^400<2^(32*42):=by decide+kernel
theorem aex{x:ByteArray}(h:dI x):(xE x).n<=42/\(xE x).m<=42:=by
 obtain⟨K,E,hK,hE,pw⟩:∃K E,K=42/\E=400/\10^E<2^(32*K):=⟨42,400,rfl,rfl,afU⟩;unfold dI at h
 have key:(ak x).2.1<2^(32*K)/\(ak x).2.2.1<2^(32*K):=by
  unfold ak at h⊢;simp only at h⊢
  split at h
  . cases h
  . rename_i h1
    split at h
    . cases h
    . rename_i h2
      split at h
      . cases h
      . rename_i h3
        simp only[if_neg h1,if_neg h2,if_neg h3];simp only[Bool.not_eq_true',Bool.and_eq_false_iff,not_or,Bool.not_eq_false] at h1;simp only[not_or,Nat.not_lt] at h2;have b1:=uU (x:=d9 (runs x)) (k:=(d9 (runs x)).size) (fun j hj=>jH h1.1 j hj);have b2:=uU (x:=dj (runs x)) (k:=(dj (runs x)).size) (fun j hj=>jH h1.2 j hj);have p1:10^(d9 (runs x)).size<=10^E:=Nat.pow_le_pow_right om om;have p2:10^(dj (runs x)).size<=10^E:=Nat.pow_le_pow_right om om;have:=pw;have d1:=Nat.div_le_self (dv (d9 (runs x)) (d9 (runs x)).size) (Nat.gcd (dv (d9 (runs x)) (d9 (runs x)).size) (dv (dj (runs x)) (dj (runs x)).size));have d2:=Nat.div_le_self (dv (dj (runs x)) (dj (runs x)).size) (Nat.gcd (dv (d9 (runs x)) (d9 (runs x)).size) (dv (dj (runs x)) (dj (runs x)).size));exact⟨Nat.lt_of_le_of_lt d1 (Nat.lt_trans (Nat.lt_of_lt_of_le b1 p1) this),Nat.lt_of_le_of_lt d2 (Nat.lt_trans (Nat.lt_of_lt_of_le b2 p2) this)⟩
 rw[<-hK];exact⟨aa1 key.1,aa1 key.2⟩
theorem xn{l:List ByteArray}{n:Nat}(h:∀i,i<n->dI (wd l i)):mj (sU l) n<=84*n:=by
 induction n with
 | zero=>simp[mj]
 | succ n ih=>
   have h1:=ih (fun i hi=>h i om);have h2:=aex (h n om);rw[ky];have e:sU l n=xE (wd l n):=rfl;rw[e];omega
theorem oW{l:List ByteArray}{i:Nat}(h:i<l.length):wd l i∈l:=by
 unfold wd;rw[List.getD_eq_getElem?_getD,List.getElem?_eq_getElem h];exact List.getElem_mem h
theorem cF.c{c:Nat}{w w':World}(B:cF c w w'):jP (fun q=>q=c) w w':=⟨B.os,B.tape,B.output,B.size,fun q hq hn=>B.block q hq (by simpa using hn)⟩
theorem fY{w w1 w':World}{B:Nat}{R:Nat->Prop}(s:w.Since B w1)(hB:B<=w.heap.size)(h:jP R w1 w')(hn:∀q,q<B->¬R q):w.Since B w':=
 ⟨h.os.trans s.os,h.tape.trans s.tape,h.output.trans s.output,Nat.le_trans s.size h.size,fun q hq=>(h.block q (by have:=s.size;omega) (hn q hq)).trans (s.block q hq)⟩
def iH(w:World)(P:Prop)(e:Ending)(w':World):Prop:=∃r:Bool,e=.returned (.bool r)/\(r=true↔P)/\w.Since w.heap.size w'
theorem iH.yes{w w':World}{P:Prop}(h:P)(s:w.S w'):iH w P (.returned (.bool true)) w':=⟨true,rfl,by simp[h],s⟩
theorem iH.no{w w':World}{P:Prop}(h:¬P)(s:w.S w'):iH w P (.returned (.bool false)) w':=⟨false,rfl,by simp[h],s⟩
theorem ads{x:ByteArray}{w:World}(hx:x.size<=100000):
 Cl 121 #[.string x] w fun e w'=>iH w (isInt x) e w':=by
 go_enter Tryz.func121,Tryz.ntmps121;go_wp2_with fail;refine (pS om).mono ?_;rintro e w1 ⟨rfl,sm⟩;have s1:w.S w1:=sm.since _;cases hd:ix x
 . have HD:=ae hd
   go_wp2;go_ret;exact⟨_,rfl,by unfold isInt;rw[HD.out];simp,s1⟩
 . have HD:=ae hd
   go_wp2;go_ret;exact⟨_,rfl,by unfold isInt;rw[HD.out];simp;omega,s1⟩
theorem afr{x y:ByteArray}{k:Nat}(h:∀j,j<k->bt x j=bt y j):dv x k=dv y k:=by
 induction k with
 | zero=>rfl
 | succ k ih=>rw[dv,dv,ih (fun j hj=>h j om),h k om]
theorem agx:∀(n:Nat) (x:ByteArray) (w:World),x.size=n->n<=6->(∀j,j<n->48<=bt x j/\bt x j<=57)->
 Cl 29 #[.string x] w fun e w'=>e=.returned (.i ((dv x n:Nat):Int))/\w.S w':=by
 intro n
 induction n with
 | zero=>
   intro x w hx _ _;have hz:(x.size:Int)=0:=om
   go_enter Tryz.func29,Tryz.ntmps29;go_wp2;go_ret;exact⟨by simp[dv],eg _ _⟩
 | succ n ih=>
   intro x w hx hn hd;have dr:=sT w;have hxs:=iQ x (i:=0) (j:=n) (Nat.zero_le _) om;have J:=ih (x.extract 0 n) w.drew om om (fun j hj=>by rw[jn x om,Nat.zero_add];exact hd j om);have HE:dv (x.extract 0 n) n=dv x n:=afr (fun j hj=>by rw[jn x om,Nat.zero_add]);rw[HE] at J;have hln:n<x.size:=om
   have hb:=jI hln;have hxd:=hd n om;obtain⟨y,hy⟩:∃y,bt x n=y+48:=⟨bt x n-48,om⟩;have HS:Hid (dv x (n+1)=dv x n*10+y):=ae (by rw[dv,hy,Nat.add_sub_cancel]);rw[hy] at hb hxd
   have hdl:dv x n<=1000000:=by
    have h1:=uU (x:=x) (k:=n) (fun j hj=>hd j om);have h2:10^n<=10^6:=Nat.pow_le_pow_right om om;omega
   obtain⟨V,hV⟩:∃V,dv x n=V:=⟨_,rfl⟩;rw[hV] at hdl HS J;have hw2:((y+48:Nat):Int)-48=(y:Int):=om
   have hw3:(y:Int)+48-48=(y:Int):=om
   have hw1:IntKind.u8.wrap (y:Int)=y:=by have:=aaF (y+48) om om;rw[hw2] at this;rw[this];omega
   have hw4:IntKind.i64.wrap ((V:Int)*10)=(V:Int)*10:=by rw[IntKind.wrap_i64];omega
   have hw5:IntKind.i64.wrap (y:Int)=y:=by rw[IntKind.wrap_i64];omega
   have hw6:IntKind.i64.wrap ((V:Int)*10+(y:Int))=(V:Int)*10+(y:Int):=by rw[IntKind.wrap_i64];omega
   have hz:¬(x.size:Int)=0:=om
   have hz1:IntKind.i64.wrap ((x.size:Int)-1)=(n:Int):=by rw[IntKind.wrap_i64];omega
   have hle:n<=x.size:=om
   have hle':(n:Int)<=(x.size:Int):=om
   have hnn:¬((x.size:Int)<n):=om
   have hn0:¬((n:Int)<0):=om
   have HX:=ae hx;clear hy hV HE ih hx;go_enter Tryz.func29,Tryz.ntmps29;go_wp2_with fail
   go_region_held_law (fun _=>True) (go_keep)
    (first
      | (go_at_call 29
         with_reducible refine J.mono ?_
         rintro e w2 ⟨rfl,s2⟩;have v2:=dr.tr s2))
   all_goals
    go_wp2;go_ret;exact⟨by rw[HS.out];simp,v2⟩
theorem li{x:ByteArray}{w:World}(h:isInt x):
 Cl 29 #[.string x] w fun e w'=>e=.returned (.i ((dv x x.size:Nat):Int))/\w.S w':=
 agx x.size x w rfl h.2 (fun j hj=>jH h.1 j hj)
theorem adr{x:ByteArray}{w:World}(hx:x.size<=100000):
 Cl 122 #[.string x] w fun e w'=>iH w (dI x) e w':=by
 have J:=@kz x w om;have HN:dI x↔(ak x).2.2.2=0:=Iff.rfl;obtain⟨c,hc⟩:∃c,(ak x).2.2.2=c:=⟨_,rfl⟩;rw[hc] at J HN;go_enter Tryz.func122,Tryz.ntmps122;go_wp2_with fail;refine J.mono ?_;rintro e w1 ⟨v,rfl,⟨v1,v2,g1,g2,rfl,N1,N2,-⟩,s1⟩;obtain⟨a1,q1,c1,Y1,rfl,-⟩:=N1;obtain⟨a2,q2,c2,Y2,rfl,-⟩:=N2;have sB:=bJ w1 (.cells #[.bool (ak x).1,.slice a1 q1 c1,.slice a2 q2 c2] 44);have SB:=s1.tr sB;go_wp2;go_ret;exact⟨_,rfl,by rw[HN];simp,SB⟩
theorem xQ{x:ByteArray}{w:World}(hx:x.size<=100000):
 Cl 30 #[.string x] w fun e w'=>∃v,e=.returned v/\iG w' (fun g=>w.heap.size<=g) v x/\w.S w':=by
 have sA:=bJ w (.cells #[.bool false,.n,.n] 44);have rA:=bj.new w (.bool false) (.n) (.n) 44;have zA:Hid ((w.alloc (.cells #[.bool false,.n,.n] 44)).heap.size=w.heap.size+1):=ae qz;go_enter Tryz.func30,Tryz.ntmps30;go_wp2_with fail;generalize w.alloc _=wA at*;refine (kz om).mono ?_;rintro e w1 ⟨v,rfl,RV,s1⟩;have W1:=RV.w;obtain⟨v1,v2,g1,g2,rfl,N1,N2,-,-,-⟩:=RV;obtain⟨a1,q1,c1,Y1,rfl,-⟩:=N1;obtain⟨a2,q2,c2,Y2,rfl,-⟩:=N2;have W1:iG w1 (fun q=>wA.heap.size<=q) (.agg #[.bool (ak x).1,.slice a1 q1 c1,.slice a2 q2 c2]) x:=W1;obtain⟨nb,hnb⟩:∃b,(ak x).1=b:=⟨_,rfl⟩;rw[hnb] at W1⊢;have S1:=sA.tr s1;have sB:=bJ w1 (.cells #[.bool nb,.slice a1 q1 c1,.slice a2 q2 c2] 44);have SB:=S1.tr sB;have W2:=gi.aA W1 sB;have nB:=bj.new w1 (.bool nb) (.slice a1 q1 c1) (.slice a2 q2 c2) 44;have r:=(rA.aA s1).aA sB;obtain⟨r0,r1,r2⟩:=r.g;obtain⟨f0,f1,f2⟩:=r.k;obtain⟨n0,n1,n2⟩:=nB.g;go_wp2;have rC:=((r.aE (.bool nb)).aG (.slice a1 q1 c1)).aF (.slice a2 q2 c2);refine bodyPost_ret (mu rfl _ _ _ _ _ _ rfl rC) rfl ?_;have M:af (w1.alloc (.cells #[.bool nb,.slice a1 q1 c1,.slice a2 q2 c2] 44)) _ w.heap.size:=(((af.refl _ _).setCell 0 (.bool nb)).setCell 1 (.slice a1 q1 c1)).setCell 2 (.slice a2 q2 c2);have zA':=zA.out;exact⟨_,rfl,gi.imp (gi.blocks W2 (Nat.le_of_eq M.size.symm) (fun g hg hp=>M.other g om)) (fun g _ h=>by omega),SB.trans (M.since om)⟩
def cE(ws:List ByteArray)(nm:ByteArray)(ints least:Nat)(most:Int):Prop:=
 ws.head?=some nm/\1+ints+least<=ws.length/\(0<=most->(ws.length:Int)<=1+ints+most)/\∀i,1<=i->i<ws.length->(i<=ints->isInt (wd ws i))/\(ints<i->dI (wd ws i))
theorem aaE{ws:List ByteArray}{i:Nat}(h:i<ws.length):ws[i]?=some (wd ws i):=by
 unfold wd;rw[List.getD_eq_getElem?_getD,List.getElem?_eq_getElem h];rfl
theorem adp{nm:ByteArray}{ints least:Nat}{most:Int}{a:Option Addr}{wb off cap:Nat}{ws:List ByteArray}{w:World}(hc:∀(j:Nat) (x:ByteArray),ws[j]?=some x->a=jp wb off/\w.cell? (jj wb (off+j))=some (.string x))(hz:∀x∈ws,x.size<=100000)(h0:0<ws.length)(hl:ws.length<=100001)
 (hi:ints<=10)(hle:least<=10)(hm:-1<=most)(hm':most<=10):
 Cl 69 #[.slice a ws.length cap,.string nm,.i (ints:Int),.i (least:Int),.i most] w fun e w'=>iH w (cE ws nm ints least most) e w':=by
 have hx0:=aaE h0;obtain⟨rfl,c0⟩:=hc 0 _ hx0;have HC:Hid (∀i,i<ws.length->w.cell? (jj wb (off+i))=some (.string (wd ws i))):=ae (fun i hi=>(hc i _ (aaE hi)).2);have HZ:Hid (∀i,i<ws.length->(wd ws i).size<=100000):=ae (fun i hi=>hz _ (oW hi));have HH:Hid (ws.head?=some (wd ws 0)):=ae (by rw[<-hx0];cases ws<;>rfl);have HS:Hid (∀P:Prop,P=cE ws nm ints least most->P=(ws.head?=some nm/\1+ints+least<=ws.length/\(0<=most->(ws.length:Int)<=1+ints+most)/\∀i,1<=i->i<ws.length->(i<=ints->isInt (wd ws i))/\(ints<i->dI (wd ws i)))):=ae (fun P h=>h);obtain⟨x0,hx⟩:∃x,wd ws 0=x:=⟨_,rfl⟩;obtain⟨L,hL⟩:∃L,ws.length=L:=⟨_,rfl⟩;obtain⟨SH,hSH⟩:∃P,P=cE ws nm ints least most:=⟨_,rfl⟩;have HS:=ae (HS.out _ hSH);rw[<-hSH];rw[hx] at c0 HH;rw[hL] at h0 hl HC HZ HS⊢;clear hx0 hc hz hSH hx;have HL:=ae hL;clear hL;rw[Nat.add_zero] at c0;have hL0:(0:Int)<L:=om
 by_cases hn:x0.toList=nm.toList
 rotate_left
 . have hbe:(x0.toList==nm.toList)=false:=by simpa using hn
   have HN:=ae (fun e:x0=nm=>hn (mr.2 e));clear hn;go_enter Tryz.func69,Tryz.ntmps69;go_wp2;go_ret
   exact iH.no (by
    rw[HS.out,HH.out];exact fun h=>HN.out (by simpa using h.1)) (eg _ _)
 have hbe:(x0.toList==nm.toList)=true:=by simpa using hn
 have HN:=ae (mr.1 hn);clear hn
 by_cases h1:L<1+ints+least
 . have h1':(L:Int)<1+(ints:Int)+(least:Int):=om
   go_enter Tryz.func69,Tryz.ntmps69;go_wp2;go_ret
   exact iH.no (by
    rw[HS.out];exact fun h=>by have:=h.2.1;omega) (eg _ _)
 have h1':¬(L:Int)<1+(ints:Int)+(least:Int):=om
 have hmm:most=-1∨(0<=most/\1+(ints:Int)+most<(L:Int))∨(0<=most/\¬1+(ints:Int)+most<(L:Int)):=om
 rcases hmm with hm0 | ⟨hm0,hm1⟩ | ⟨hm0,hm1⟩
 rotate_left
 . go_enter Tryz.func69,Tryz.ntmps69
   go_wp2;go_ret
   exact iH.no (by
    rw[HS.out];exact fun h=>by have:=h.2.2.1 hm0;omega) (eg _ _)
 rotate_left
 focus
  subst hm0;have HM:Hid ((0:Int)<=-1->(L:Int)<=1+(ints:Int)+ -1):=ae (fun h=>absurd h qd)
 rotate_left
 focus
  have HM:Hid (0<=most->(L:Int)<=1+(ints:Int)+most):=ae (fun h=>by omega)
 all_goals
  go_enter Tryz.func69,Tryz.ntmps69;go_wp2_with fail
  go_loopw [11] (fun i wr=>∃(k:Nat),1<=k/\k<=L/\i=.i (k:Int)/\w.S wr/\Hid (∀i,1<=i->i<k->(i<=ints->isInt (wd ws i))/\(ints<i->dI (wd ws i)))) (fun i _=>L-(intOf i).toNat)
  case atStart=>exact⟨1,Nat.le_refl _,om,rfl,eg _ _,ae (fun i h1 h2=>absurd h1 om)⟩
  case round=>
   obtain⟨k,hk1,hkL,rfl,S,HK⟩:=hrel
   by_cases hlt:k<L
   . have hzk:(k:Int)<L:=om
     have ck:wr.cell? (jj wb (off+k))=some (.string (wd ws k)):=(S.cell (a:=jj wb (off+k)) (gz _ _ (HC.out k hlt))).trans (HC.out k hlt);have hsz:=HZ.out k hlt;obtain⟨x,hx⟩:∃x,wd ws k=x:=⟨_,rfl⟩;rw[hx] at ck hsz;have HX:=ae hx;clear hx
     by_cases hki:k<=ints
     . have hk2:(k:Int)<=ints:=om
       have hk3:¬(ints:Int)<k:=om
       go_wp2_with fail;refine (ads hsz).mono ?_;rintro e w2 ⟨r,rfl,ir,s2⟩;have S2:=S.tr s2;have IR:=ae ir;clear ir;cases r
       . go_wp2
         go_ret
         exact iH.no (by
          rw[HS.out]
          exact fun h=>by
           have h:=h.2.2.2 k hk1 hlt;have:=h.1 hki;rw[HX.out] at this;have:=IR.out.2 this
           simp at this) S2
       . have HK2:Hid (∀i,1<=i->i<k+1->(i<=ints->isInt (wd ws i))/\(ints<i->dI (wd ws i))):=ae (fun i h1 h2=>by
          by_cases e:i=k
          . subst e
            exact⟨fun _=>by rw[HX.out];exact IR.out.1 qz,fun h=>absurd h om⟩
          . exact HK.out i h1 om)
         go_wp2;go_roundw
         case rel=>exact⟨k+1,om,om,by go_num,S2,HK2⟩
         case measure=>simp[intOf];omega
     . have hk2:¬(k:Int)<=ints:=om
       have hk3:(ints:Int)<k:=om
       go_wp2_with fail;refine (adr hsz).mono ?_;rintro e w2 ⟨r,rfl,ir,s2⟩;have S2:=S.tr s2;have IR:=ae ir;clear ir;cases r
       . go_wp2
         go_ret
         exact iH.no (by
          rw[HS.out]
          exact fun h=>by
           have h:=h.2.2.2 k hk1 hlt;have:=h.2 om;rw[HX.out] at this;have:=IR.out.2 this
           simp at this) S2
       . have HK2:Hid (∀i,1<=i->i<k+1->(i<=ints->isInt (wd ws i))/\(ints<i->dI (wd ws i))):=ae (fun i h1 h2=>by
          by_cases e:i=k
          . subst e
            exact⟨fun h=>absurd h om,fun _=>by rw[HX.out];exact IR.out.1 qz⟩
          . exact HK.out i h1 om)
         go_wp2;go_roundw
         case rel=>exact⟨k+1,om,om,by go_num,S2,HK2⟩
         case measure=>simp[intOf];omega
   . have e:k=L:=om
     subst e;have hzk:¬((k:Int)<k):=om
     go_wp2;go_ret
     exact iH.yes (by
      rw[HS.out];exact⟨by rw[HH.out,HN.out],om,HM.out,HK.out⟩) S
theorem aeX:∃i,Tryz.prog.info? 78=some i/\i.zero=some (.agg #[.i 0,.n])/\i.size=2/\i.bytes=32:=by
 have h:(Tryz.prog.info? 78).map (fun i=>(i.zero,i.size,i.bytes))=some (some (.agg #[.i 0,.n]),2,32):=by kernel_rfl
 obtain⟨i,hi,h⟩:=Option.map_eq_some_iff.1 h;simp only[Prod.mk.injEq] at h;exact⟨i,hi,h.1,h.2.1,h.2.2⟩
structure wm(w:World)(lo:Nat)(v:Value)(ls:List (Nat×List ByteArray))(xs:List Value):Prop where
 own:w.ownsRow lo 78 2 v ls.length xs
 at_:∀(j n:Nat) (ws:List ByteArray),ls[j]?=some (n,ws)->∃g cap,xs[j*2]?=some (.int .i64 (n:Int))/\xs[j*2+1]?=some (.slice (some ⟨g,0,none⟩) ws.length cap)/\(∀(i:Nat) (x:ByteArray),ws[i]?=some x->w.cell? ⟨g,i,none⟩=some (.string x))/\g<w.heap.size/\v.ownBlock≠some g/\ws.length<=cap
section
variable{w w' w1:World}{lo:Nat}{v v':Value}{ls:List (Nat×List ByteArray)}{xs:List Value}
theorem wm.aA(h:wm w lo v ls xs)(s:w.S w'):wm w' lo v ls xs:=by
 refine⟨dS h.own s,fun j n ws hj=> ?_⟩;obtain⟨g,cap,h1,h2,h3,h4,h5⟩:=h.at_ j n ws hj;exact⟨g,cap,h1,h2,fun i x hx=>(s.cell (a:=jj g i) h4).trans (h3 i x hx),Nat.lt_of_lt_of_le h4 s.size,h5⟩
theorem wm.snoc(h:wm w lo v ls xs)(s1:w.S w1)(hs:w.heap.size<w1.heap.size)(g:w1.grownBy w' v.ownBlock){n b cap:Nat}{ws:List ByteArray}(own:w'.ownsRow lo 78 2 v' (ls.length+1) (xs++[.i (n:Int),.s b ws.length cap]))
 (hat:v'.ownBlock=v.ownBlock∨v'.ownBlock=some w1.heap.size)(hw:∀(i:Nat) (x:ByteArray),ws[i]?=some x->w.cell? (jj b i)=some (.string x))(hb:b<w.heap.size)(hv:v.ownBlock≠some b)(hcap:ws.length<=cap):wm w' lo v' (ls++[(n,ws)]) (xs++[.i (n:Int),.s b ws.length cap]):=by
 have hl:=h.own.1;have z:=g.size
 have mv:∀ {b:Nat} {ws:List ByteArray},(∀(i:Nat) (x:ByteArray),ws[i]?=some x->w.cell? (jj b i)=some (.string x))->b<w.heap.size->v.ownBlock≠some b->(∀(i:Nat) (x:ByteArray),ws[i]?=some x->w'.cell? (jj b i)=some (.string x))/\b<w'.heap.size/\v'.ownBlock≠some b:=fun {b ws} hw hb hv=>by
  have hk:=(g.block b om (fun e=>hv e.symm)).trans (s1.block b hb);refine⟨fun i x hx=>(fa (a:=jj b i) hk).trans (hw i x hx),om,fun e=> ?_⟩
  rcases hat with h | h
  . exact hv (h.symm.trans e)
  . rw[e] at h;simp at h;omega
 refine⟨by rw[List.length_append];exact own,fun j m ws' hj=> ?_⟩
 by_cases e:j=ls.length
 . subst e
   rw[List.getElem?_append_right (Nat.le_refl _),Nat.sub_self] at hj;simp only[List.getElem?_cons_zero,Option.some.injEq,Prod.mk.injEq] at hj;obtain⟨rfl,rfl⟩:=hj;obtain⟨a1,a2,a3⟩:=mv hw hb hv;refine⟨b,cap, ?_, ?_,a1,a2,a3,hcap⟩
   . rw[List.getElem?_append_right om,hl];simp
   . rw[List.getElem?_append_right om,hl];simp
 . have hlt:j<ls.length:=by
    have:=(List.getElem?_eq_some_iff.1 hj).1;rw[List.length_append] at this
    simp at this
    omega
   rw[List.getElem?_append_left hlt] at hj;obtain⟨g',cap',h1,h2,h3,h4,h5,h6⟩:=h.at_ j m ws' hj;obtain⟨a1,a2,a3⟩:=mv h3 h4 h5;exact⟨g',cap',by rw[List.getElem?_append_left om];exact h1,by rw[List.getElem?_append_left om];exact h2,a1,a2,a3,h6⟩
end
def aa8(w:World)(g:Nat)(ls:List (Nat×List ByteArray)):Prop:=
 ∀(j n:Nat) (ws:List ByteArray),ls[j]?=some (n,ws)->w.cell? ⟨g,j*2,none⟩=some (.int .i64 (n:Int))/\∃q cap,w.cell? ⟨g,j*2+1,none⟩=some (.slice (some ⟨q,0,none⟩) ws.length cap)/\ws.length<=cap/\∀(i:Nat) (x:ByteArray),ws[i]?=some x->w.cell? ⟨q,i,none⟩=some (.string x)
theorem aa8.aA{w w':World}{g:Nat}{ls:List (Nat×List ByteArray)}(h:aa8 w g ls)(s:w.S w'):aa8 w' g ls:=fun j n ws hj=>by
 obtain⟨h1,q,cap,h2,h4,h3⟩:=h j n ws hj;exact⟨(s.cell (a:=jj g (j*2)) (gz _ _ h1)).trans h1,q,cap,(s.cell (a:=jj g (j*2+1)) (gz _ _ h2)).trans h2,h4,fun i x hx=>(s.cell (a:=jj q i) (gz _ _ (h3 i x hx))).trans (h3 i x hx)⟩
theorem wm.l{w:World}{lo g cap:Nat}{ls:List (Nat×List ByteArray)}{xs:List Value}(h:wm w lo (.s g ls.length cap) ls xs):aa8 w g ls:=fun j n ws hj=>by
 have hc:= @World.ownsRow.cells _ _ _ _ _ _ _ h.own;obtain⟨q,c,h1,h2,h3,-,-,h4⟩:=h.at_ j n ws hj;have c1:=hc (g:=g) rfl _ _ h1;have c2:=hc (g:=g) rfl _ _ h2;rw[Go.WideShapes.add_plain,Nat.zero_add] at c1 c2;exact⟨c1,q,c,c2,h4,h3⟩
theorem newL(w:World)(x y:Value)(t:TypeId):∀j u,([x,y]:List Value)[j]?=some u->(w.alloc (.cells #[x,y] t)).cell? (((jj w.heap.size 0):Addr).add j)=some u:=fun j u hu=>by
 rw[Go.WideShapes.add_plain,Nat.zero_add]
 rcases j with _ | _ | j
 . simp at hu;subst hu;simp[go_sem]
 . simp at hu;subst hu;simp[go_sem]
 . simp at hu
theorem oneL(z:Int)(a:Option Addr)(n c:Nat):∀u∈([.i z,.slice a n c]:List Value),u.oneCell'=true:=by
 intro u hu
 simp at hu
 rcases hu with rfl | rfl<;>rfl
theorem adj{P:List ByteArray}{k:Nat}{x:ByteArray}(h:P[k]?=some x):cK 0 (P.take (k+1))=cK 0 (P.take k)++(if cS x=[] then [] else [(k+1,cS x)]):=by
 have hk:=(List.getElem?_eq_some_iff.1 h).1;rw[List.take_add_one,h,zU,List.length_take,Nat.min_eq_left om,Nat.zero_add];simp only[Option.toList,cK]
def afG(w w':World)(P:List ByteArray)(e:Ending):Prop:=
 ∃g cap,e=.returned (.tuple #[.slice (some ⟨g,0,none⟩) (cK 0 P).length cap,.int .i64 (P.length:Int)])/\aa8 w' g (cK 0 P)/\w.Since w.heap.size w'/\(cK 0 P).length<=cap
theorem adq{s:ByteArray}{w:World}(hs:s.size<=100000):
 Cl 27 #[.string s] w fun e w'=>afG w w' (fN 10 s) e:=by
 obtain⟨i0,hi,hz0,hz1,hz2⟩:=aeX;have sA:=bJ w (.cells #[] 78);have oA:(w.alloc (.cells #[] 78)).ownsRow w.heap.size 78 2 (.s w.heap.size 0 0) 0 []:=pv w #[] 0 (Nat.le_refl _) (Nat.zero_le _) rfl;have ZA:=ae (show (w.alloc (.cells #[] 78)).heap.size=w.heap.size+1 by simp);have HPL:=jT 10 s;obtain⟨P,hP⟩:∃P,fN 10 s=P:=⟨_,rfl⟩;have HZ:Hid (∀x∈P,x.size<=s.size):=ae (fun x hx=>qV (by rw[hP];exact hx));rw[hP] at HPL⊢;have HP:=ae hP;clear hP;go_enter Tryz.func27,Tryz.ntmps27;go_wp2_with fail;generalize w.alloc _=wA at*;have JC:Cl 67 #[.string s,.int .u8 10,.int .u8 10] wA fun e w'=>∃v,e=.returned v/\w'.ownsRow wA.heap.size 9 1 v (fN 10 s).length ((fN 10 s).map Value.string)/\wA.S w':=acr 10 s wA om
 refine JC.mono ?_;rintro e w1 ⟨v1,rfl,OP,s1⟩;have OP:w1.ownsRow wA.heap.size 9 1 v1 P.length (P.map Value.string):=by rw[<-HP.out];exact OP
 have hpp:0<P.length:=by rw[<-HP.out];exact xz 10 s
 obtain⟨gP,cP,rfl,hg1,-⟩:=OP.form hpp;obtain⟨cP',bP,lP,-⟩:=y9.cells OP;have CP:=ae cP';have HgP:Hid (w.heap.size<gP):=ae (by have:=ZA.out;omega);clear JC cP' OP;have S1:=sA.tr s1;have z1:=s1.size;have o1:wm w1 w.heap.size (.s w.heap.size 0 0) [] []:=⟨dS oA s1,fun j n ws h=>by simp at h⟩;go_wp2_with fail
 go_loopw [4,6] (fun u i wr=>∃k:Nat,k<=P.length/\i=.i (k:Int)/\w.S wr/\Hid (∀(j:Nat) (x:ByteArray),P[j]?=some x->wr.cell? (jj gP j)=some (.string x))/\gP<wr.heap.size/\∃(g cap m:Nat) (ls:List (Nat×List ByteArray)) (xs:List Value),u=.s g m cap/\g≠gP/\m<=k/\Hid (ls.length=m)/\Hid (ls=cK 0 (P.take k))/\wm wr w.heap.size (.s g m cap) ls xs) (fun _ i _=>P.length-(intOf i).toNat)
 case atStart=>exact⟨0,Nat.zero_le _,rfl,S1,CP,lP,w.heap.size,0,0,[],[],rfl,by have:=HgP.out;omega,Nat.le_refl _,ae rfl,ae (by simp[cK]),o1⟩
 case round=>
  obtain⟨k,hk,rfl,s2,cp,lp,g,cap,m,ls,xs,rfl,hne,hmk,HM,HL,O⟩:=hrel
  by_cases hlt:k<P.length
  . have hlt':(k:Int)<(P.length:Int):=om
    obtain⟨x,hx⟩:∃x,P[k]?=some x:=⟨_,List.getElem?_eq_getElem hlt⟩;have g0:=cp.out k x hx;have hxz:x.size<=s.size:=HZ.out x (List.mem_of_getElem? hx);have tf:=adj hx;have hwl:=nE x;have JW:=@ado x wr om;have lg:=O.own.lt g rfl;clear hx
    by_cases hx0:cS x=[]
    . rw[if_pos hx0,List.append_nil] at tf
      have TF:=ae tf;rw[hx0] at JW;have JW:Cl 68 #[.string x,.int .u8 32,.int .u8 32] wr fun e w'=>∃g cap,e=.returned (.s g 0 cap)/\wr.S w':=JW.mono (fun e w' h=>by obtain⟨g,cap,e,-,s⟩:=h;exact⟨g,cap,e,s⟩)
      clear tf hx0;go_wp2_with fail;refine JW.mono ?_;rintro e w3 ⟨g3,c3,rfl,s3⟩;have S3:=s2.tr s3;have O3:=O.aA s3;have z3:=s3.size;have C3:Hid (∀(j:Nat) (x:ByteArray),P[j]?=some x->w3.cell? (jj gP j)=some (.string x)):=ae (fun j x h=>(s3.cell (a:=jj gP j) lp).trans (cp.out j x h));have HL3:Hid (ls=cK 0 (P.take (k+1))):=ae (by rw[TF.out];exact HL.out);clear JW;go_wp2;go_roundw
      case rel=>exact⟨k+1,om,by go_num,S3,C3,om,g,cap,m,ls,xs,rfl,hne,om,HM,HL3,O3⟩
      case measure=>simp[intOf];omega
    . rw[if_neg hx0] at tf
      have TF:=ae tf;have hw0:0<(cS x).length:=List.length_pos_iff.2 hx0;obtain⟨W,hW⟩:∃W,cS x=W:=⟨_,rfl⟩;rw[hW] at JW hwl hw0 TF;have hw1:(0:Int)<(W.length:Int):=om
      clear tf hx0 hW;go_wp2_with fail;refine JW.mono ?_;rintro e w3 ⟨g3,c3,rfl,o3,s3⟩;have S3:=s2.tr s3;have O3:=O.aA s3;have z3:=s3.size;have z2:=s2.size;obtain⟨cw,bw,lw,lcap⟩:=o3.cells;have hk1:IntKind.i64.wrap ((k:Int)+1)=((k+1:Nat):Int):=by rw[IntKind.wrap_i64];omega
      have CW:=ae cw;clear JW cw o3
      go_wp2_with (at_builtin;refine wpList_append_own_at _ rfl _ _ 73 rfl w.heap.size 78 i0 _ 2 32 Tryz.underlying73 hi hz0 hz1 hz2 rfl qd _ m xs rfl (by have:=O3.own;rw[HM.out] at this;exact this.alloc _) (jj w3.heap.size 0) 1 1 [.i ((k:Int)+1),.s g3 W.length c3] rfl rfl (newL _ _ _ _) (oneL _ _ _ _) (by unfold maxLen;omega) om (by simp;omega) ?_)
      intro v' w5 hown' hgrow hnn hat;replace hgrow:(w3.alloc (.cells #[.i ((k:Int)+1),.s g3 W.length c3] 78)).grownBy w5 (Value.s g m cap).ownBlock:=hgrow;obtain⟨g',capn,rfl,hg1,hg2⟩:=hown'.form om;have sW:=bJ w3 (.cells #[.i ((k:Int)+1),.s g3 W.length c3] 78);have zW:(w3.alloc (.cells #[.i ((k:Int)+1),.s g3 W.length c3] 78)).heap.size=w3.heap.size+1:=by simp
      have z5:=hgrow.size;have S5:=(S3.tr sW).grown hgrow om (fun q hq=>(O.own.lt q hq).1);have kb:w5.heap[gP]?=wr.heap[gP]?:=((hgrow.block gP om (by simp[Value.ownBlock];omega)).trans (sW.block gP om)).trans (s3.block gP lp);have C5:Hid (∀(j:Nat) (x:ByteArray),P[j]?=some x->w5.cell? (jj gP j)=some (.string x)):=ae (fun j x h=>(fa (a:=jj gP j) kb).trans (cp.out j x h))
      have hne5:g'≠gP:=by
       rcases hat with h | h
       . simp[Value.ownBlock] at h;omega
       . simp[Value.ownBlock] at h;omega
      have O5:=O3.snoc (n:=k+1) (ws:=W) sW om hgrow (by rw[HM.out];exact hown') (by rw[zW];exact hat) CW.out lw (by simp[Value.ownBlock];omega) lcap;have HM5:Hid ((ls++[(k+1,W)]).length=m+1):=ae (by simp;exact HM.out);have HL5:Hid (ls++[(k+1,W)]=cK 0 (P.take (k+1))):=ae (by rw[TF.out,HL.out]);clear hnn hat hown' hgrow kb g0 O3 O;go_wp2;go_roundw
      case rel=>exact⟨k+1,om,by go_num,S5,C5,om,g',capn,m+1,_,_,rfl,hne5,om,HM5,HL5,O5⟩
      case measure=>simp[intOf];omega
  . have e:k=P.length:=om
    subst e;have hz1':¬((P.length:Int)<(P.length:Int)):=om
    have O5:=ae O;rw[List.take_length] at HL;clear O;go_wp2;go_ret2;refine⟨g,cap, ?_, ?_,s2, ?_⟩
    . rw[<-HL.out,HM.out];rfl
    . have:=O5.out
      rw[<-HM.out] at this;rw[<-HL.out];exact this.l
    . have h9:=O5.out.own
      obtain⟨-,⟨e9,-⟩ | ⟨g9,cap9,cur,e9,-,-,hn,-⟩⟩:=h9
      . cases e9
      . simp only[Value.slice.injEq] at e9
        rw[<-HL.out,HM.out];rw[HM.out] at hn;omega
def aiU(w w':World)(ws:List ByteArray)(e:Ending):Prop:=
 ∃(g cap:Nat) (xs:List Value),e=.returned (.slice (some ⟨g,0,none⟩) ws.length cap)/\cU w' w.heap.size (.slice (some ⟨g,0,none⟩) ws.length cap) ws.length (wd ws) (fun _ q=>w.heap.size<=q) xs/\w.Since w.heap.size w'
theorem pR{a:Option Addr}{wb off cap:Nat}{ws:List ByteArray}{w:World}(hc:∀(j:Nat) (x:ByteArray),ws[j]?=some x->a=jp wb off/\w.cell? (jj wb (off+j))=some (.string x))(hz:∀x∈ws,x.size<=100000)(hl:ws.length<=100001):
 Cl 72 #[.slice a ws.length cap] w fun e w'=>aiU w w' ws e:=by
 obtain⟨i0,hi,hz0,hz1,hz2⟩:=jY;have HC:Hid (∀i,i<ws.length->a=jp wb off/\w.cell? (jj wb (off+i))=some (.string (wd ws i))):=ae (fun i hi=>hc i _ (aaE hi));have HZ:Hid (∀i,i<ws.length->(wd ws i).size<=100000):=ae (fun i hi=>hz _ (oW hi));have sA:=bJ w (.cells #[] 44);have oA:(w.alloc (.cells #[] 44)).ownsRow w.heap.size 44 3 (.s w.heap.size 0 0) 0 []:=pv w #[] 0 (Nat.le_refl _) (Nat.zero_le _) rfl;go_enter Tryz.func72,Tryz.ntmps72;go_wp2_with fail
 go_loopw [3,4] (fun u i wr=>∃(k g cap:Nat) (xs:List Value),k<=ws.length/\i=.i (k:Int)/\u=.s g k cap/\w.S wr/\Hid (cU wr w.heap.size (.s g k cap) k (wd ws) (fun _ q=>w.heap.size<=q) xs)) (fun _ i _=>ws.length-(intOf i).toNat)
 case atStart=>exact⟨0,w.heap.size,0,[],Nat.zero_le _,rfl,rfl,sA,ae ⟨oA,fun i hi=>absurd hi om⟩⟩
 case round=>
  obtain⟨k,g,cp,xs,hk,rfl,rfl,S,O⟩:=hrel
  by_cases hlt:k<ws.length
  . have hzk:(k:Int)<(ws.length:Int):=om
    obtain⟨rfl,ck0⟩:=HC.out k hlt;have ck:=(S.cell (a:=jj wb (off+k)) (gz _ _ ck0)).trans ck0;have hsz:=HZ.out k hlt;have JN:=@xQ (wd ws k) wr hsz;obtain⟨x,hx⟩:∃x,wd ws k=x:=⟨_,rfl⟩;rw[hx] at ck hsz JN;have HX:=ae hx;go_wp2_with fail;refine JN.mono ?_;rintro e w1 ⟨v,rfl,RV,s1⟩;have W1:=RV;obtain⟨v1,v2,g1,g2,rfl,N1,N2,-,-,-⟩:=RV;obtain⟨a1,q1,c1,Y1,rfl,-⟩:=N1;obtain⟨a2,q2,c2,Y2,rfl,-⟩:=N2;have W1:iG w1 (fun q=>wr.heap.size<=q) (.agg #[.bool (ak (wd ws k)).1,.slice a1 q1 c1,.slice a2 q2 c2]) (wd ws k):=by rw[HX.out];exact W1
    have z1:=s1.size;have O1:=O.out.aA s1;have lg:=O.out.own.lt g rfl;obtain⟨nb,hnb⟩:∃b,(ak x).1=b:=⟨_,rfl⟩;have HNB:Hid ((ak (wd ws k)).1=nb):=ae (by rw[HX.out];exact hnb);rw[hnb];have hB:=S.size
    go_wp2_with (at_builtin;refine wpList_append_own_at _ rfl _ _ 23 rfl w.heap.size 44 i0 _ 3 56 Tryz.underlying23 hi hz0 hz1 hz2 rfl qd _ _ _ rfl (O1.own.alloc _) (jj w1.heap.size 0) 1 1 [.bool nb,.slice a1 q1 c1,.slice a2 q2 c2] rfl rfl (rb _ _ _ _ _) (qY _ _ _ _ _ _ _) (by unfold maxLen;omega) om (by simp;omega) ?_)
    intro v' w2 hown' hgrow hnn hat;replace hgrow:(w1.alloc (.cells #[.bool nb,.slice a1 q1 c1,.slice a2 q2 c2] 44)).grownBy w2 (Value.s g k cp).ownBlock:=hgrow;obtain⟨g',capn,rfl,hg1,hg2⟩:=hown'.form om;have sW:=bJ w1 (.cells #[.bool nb,.slice a1 q1 c1,.slice a2 q2 c2] 44);have zW:(w1.alloc (.cells #[.bool nb,.slice a1 q1 c1,.slice a2 q2 c2] 44)).heap.size=w1.heap.size+1:=by simp
    have z2:=hgrow.size;have S2:=((S.tr s1).trans (sM sW om)).grown hgrow om (fun q hq=>(O1.own.lt q hq).1);have O2:=O1.snoc sW om hgrow (by rw[HNB.out];exact hown') (by rw[zW];exact hat) (gi.imp W1 (fun q hq hp=>⟨om,fun e=>by simp[Value.ownBlock] at e;omega⟩));have HO2:=ae O2;go_wp2;go_roundw
    case rel=>exact⟨k+1,g',capn,_,om,by go_num,rfl,S2,HO2⟩
    case measure=>simp[intOf];omega
  . have e:k=ws.length:=om
    subst e;have hzk:¬((ws.length:Int)<(ws.length:Int)):=om
    go_wp2;go_ret;exact⟨g,cp,xs,rfl,O.out,S⟩
end Go.Proofs.YtclgkofcooibfaaGreatDoor
