import Derived.Test.YtinihjgnnlemmaaGreatDoorOwnP43
import Derived.Test.YtinihjgnnlemmaaGreatDoorOwnP58
import Derived.Test.YtinihjgnnlemmaaGreatDoorOwnP49
set_option maxHeartbeats 6400000
set_option maxRecDepth 100000
set_option linter.unusedVariables false
namespace Go.Proofs.YtinihjgnnlemmaaGreatDoor
open Tryz Go.RowKit
variable{w v W V:World}{n m c d k i j l o b p q t r s g h e:Nat}{a A B:Option Addr}{X Y Z:Nat->Nat}{G:eQ}{P:Nat->Prop}{Q:Rat}
theorem vz{T e:TypeId}{a:List Value}(h:Lib.IsBuilder T e n m a w)(s:w.S v):Lib.IsBuilder T e n m a v:=by
 have c:∀p,Lib.BuilderAt T e n m p a w->Lib.BuilderAt T e n m p a v:=fun p h=>by have hl:=h.lt;obtain⟨d,b,hb,g,f⟩:=h;exact⟨d,b,(s.block m hl).trans hb,uV g s,f⟩
 exact h.imp (c _) (c _)
theorem et{e T:TypeId}{cs:Array Value}{a:Nat×Nat}(h:w.heap[m]?=some (.cells cs T a))(k:Lib.OthersKept e (some n) w v)(hb:m≠n)(f:T≠e):v.heap[m]?=some (.cells cs T a):=
 k m _ h (by simpa using hb) (fun c g d=>by
  simp only[Obj.cells.injEq] at d;exact f d.2.1)
theorem acd{b:List (List UInt8)}(cs:Array Value)(h:cs=(uI b).toArray):∀j x,b[j]?=some x->(w.alloc (.cells cs 9)).cell? (jj w.heap.size (0+j))=some (.string ⟨x.toArray⟩):=fun j x a=>by
 subst h;rw[aZ,Lib.cell_of_heap (Go.heap_alloc_new w _) j]
 simpa using afg a
theorem acp{A:Nat->ic}(o:d<=1048576)(p:vK A d<=1048576)(H:sc w n a m c d A)(f:¬pH d A):
 Cl 8 #[.agg #[.slice a d k]] w fun e h=>e=.returned (.string ⟨#[]⟩)/\w.S h:=by
 have b:=fA w (.cells #[.slice a d k] 25);have l:=ix.new w (.slice a d k) 25;go_enter func8,ntmps8;go_wp2_with fail;generalize w.alloc (.cells #[.slice a d k] 25)=j at*;refine (@rZ a n m c d k A j (Nat.zero_le _) trivial om om (H.aA b)).mono ?_;rintro e q ⟨r,rfl,i,g⟩
 obtain rfl:r=false:=by
  cases r
  . rfl
  . exact absurd (i.1 rfl) f
 clear i f;go_wp2;go_ret;exact⟨rfl,b.trans (sM g b.size)⟩
theorem apG{n:Nat}{m c d k i j l o:Nat}{a:Option Addr}{W:Nat->fZ}{w:World}(z:d<m)(A:m<=20000)(v:c<=20000)(g:k=m*c)(N:k<=i)
 (B:eS w n (.i m) (.i c) (.slice a k i))(H:ph w j a l o k W):
 Cl 28 #[.p n 0,.i d] w fun e r=>∃h t C,e=.returned (.slice h c c)/\ph r j h t C c (fun q=>W (d*c+q))/\w.S r:=by
 have P:=B.c0;have Q:=B.c1;have R:=B.c2;obtain⟨F,hF⟩:∃F,F=d*c:=⟨_,rfl⟩;obtain⟨G,b⟩:∃G,G=(d+1)*c:=⟨_,rfl⟩;have p:G=F+c:=by rw[hF,b,Nat.add_mul,Nat.one_mul]
 have M:G<=k:=by rw[b,g];exact Nat.mul_le_mul_right _ z
 have O:k<=20000*20000:=by rw[g];exact Nat.mul_le_mul A v
 have D:(d:Int)*(c:Int)=(F:Int):=by rw[hF,Int.natCast_mul]
 have E:((d:Int)+1)*(c:Int)=(G:Int):=by rw[b,Int.natCast_mul];rfl
 have I:(F:Int)<=(G:Int):=om
 have K:(G:Int)<=(i:Int):=om
 have L:(G:Int)<=400000000:=om
 have s:=eI hF;have f:=eI p;clear hF b g p;go_enter func28,ntmps28;go_wp2_with fail
 go_quiet (fail)
 go_wp2
 case inl=>
  go_ret;have u:c=0:=by have:=f.out;omega
  refine⟨a, ?_,⟨l,o,fun q y=>absurd y om⟩,(Same.refl w).drewN _ |>.since _⟩
  show Ending.returned (.slice a 0 0)=_
  rw[u]
 case inr=>
  go_ret;refine⟨Option.map (fun x=>x.add (F*3)) a, ?_,⟨l,o+F*3, ?_⟩,(Same.refl w).drewN _ |>.since _⟩
  . show Ending.returned (.slice (Option.map (fun x=>x.add (F*3)) a) (G-F) (G-F))=_
    rw[f.out,Nat.add_sub_cancel_left]
  . rw[<-s.out]
    exact (H.sub F c (by have:=f.out;omega)).aA ((Same.refl w).drewN _ |>.since _)
theorem aaT{A:Nat->ic}(hP:Pow w)(hn:d<=1048576)(hs:vK A d<=1048576)(aq:sc w n (jp m c) m c d A)(Z:pH d A):
 Cl 8 #[.agg #[.slice (jp m c) d k]] w fun e o=>e=.returned (.string ⟨(wG d A).toArray⟩)/\w.S o:=by
 have W:=eI (dC.of (L:=100000000) Z hn hs om aq);have sA:=fA w (.cells #[.slice (jp m c) d k] 25);have bA:=ix.new w (.slice (jp m c) d k) 25;have NP:=eI Z;have n1:=Z.n1;obtain⟨i0,hi,co,a7,cp⟩:=ai6;go_enter func8,ntmps8;go_wp2_with fail;generalize w.alloc (.cells #[.slice (jp m c) d k] 25)=wA at*;refine (@rZ _ n m c d k A wA (Nat.zero_le _) trivial om om (aq.aA sA)).mono ?_;rintro e b ⟨r,rfl,i,s1⟩;obtain rfl:r=true:=i.2 Z;clear i Z;have z:=sA.trans (sM s1 sA.size);have B1:=bA.aA s1;have l1:=B1.lt;have sB:=fA b (.cells #[.pointer none,.n] 56);have ci:Hid (Lib.IsBuilder 56 5 b.heap.size b.heap.size (Lib.byteCells []) (b.alloc (.cells #[.pointer none,.n] 56))):=eI (Lib.fresh_isBuilder 56 5 b);have B2:=B1.aA sB;have q0:=B2.c0;have zB:(b.alloc (.cells #[.pointer none,.n] 56)).heap.size=b.heap.size+1:=by simp
 have a0:=hP.stay z;obtain⟨u,ay⟩:∃L,Lib.join [[110,101,116],iz (d:Int)] [32]++[10]=L:=⟨_,rfl⟩;have bi:Hid (uZ d=u):=eI (by rw[<-ay];simp[uZ,Lib.join]);have N:=eI ay;have du:u.length<=100:=by rw[<-bi.out];exact W.out.net
 clear ay;go_wp2_with fail;generalize b.alloc (.cells #[.pointer none,.n] 56)=wB at*;refine (@eR d wB om om (a0.stay sB)).mono ?_;rintro e F ⟨rfl,v3⟩;have E:=fA F (.cells #[.string ⟨#[110,101,116]⟩,.string ⟨(iz (d:Int)).toArray⟩] 9)
 have s:Cl 24 #[.s F.heap.size 2 2] (F.alloc (.cells #[.string ⟨#[110,101,116]⟩,.string ⟨(iz (d:Int)).toArray⟩] 9)) fun e o=>e=.returned (.string ⟨u.toArray⟩)/\(F.alloc (.cells #[.string ⟨#[110,101,116]⟩,.string ⟨(iz (d:Int)).toArray⟩] 9)).Since (F.alloc (.cells #[.string ⟨#[110,101,116]⟩,.string ⟨(iz (d:Int)).toArray⟩] 9)).heap.size o:=by
  have:=@dW F.heap.size 0 2 [[110,101,116],iz (d:Int)] (F.alloc (.cells #[.string ⟨#[110,101,116]⟩,.string ⟨(iz (d:Int)).toArray⟩] 9)) (acd _ rfl) qz qz qz (by have:=congrArg List.length N.out;rw[List.length_append] at this;omega);rw[N.out] at this;exact this
 clear q0;go_wp2_with fail;refine s.mono ?_;rintro e w4 ⟨rfl,s4⟩;have v4:=(v3.trans (sM E v3.size)).trans (sM s4 (Nat.le_trans v3.size E.size));have u4:=sB.trans (sM v4 sB.size);have Q:=@rF b.heap.size b.heap.size [] u w4 (vz ci.out v4) (by simp;omega) u4.size;clear s;go_wp2_with fail;refine Q.mono ?_;rintro e w5 ⟨⟨x5,rfl⟩,a4,s5,-⟩;have u5:b.S w5:=u4.trans s5;have a4:=eI a4;have q0:=(B1.aA u5).c0;have z5:b.heap.size<w5.heap.size:=by have:=v4.size;have:=s5.size;omega
 clear Q;go_wp2_with fail;clear q0
 go_loopw [23] (fun i wr=>∃a:Nat,a<=d/\i=.i (a:Int)/\b.S wr/\b.heap.size<wr.heap.size/\Hid (Lib.IsBuilder 56 5 b.heap.size b.heap.size (Lib.byteCells (u++oq A a)) wr)) (fun i _=>d-(intOf i).toNat)
 case atStart=>exact⟨0,om,rfl,u5,z5,eI (by rw[oq,List.append_nil];exact a4.out)⟩
 case round=>
  obtain⟨a,hk,rfl,aa,ds,hb⟩:=hrel;have SS:=z.trans (sM aa z.size);have cl:=W.out.maps a hk
  by_cases H:a<d
  . have dn:(a:Int)<(d:Int):=om
    obtain⟨-,g,x,h,t,ae⟩:=aq a H;obtain⟨bW,cz,-,LW⟩:=ae.L.LW;obtain⟨bB,oB,-,LB⟩:=ae.L.LB;have b0:=ae.L.nc;have mp:=NP.out.map H;have hh:=W.out.head a H;have bz:=fun r=>W.out.rows a r H
    have bw:=fun r=>W.out.row a r H
    have bq:(A a).size<=1048576:=by have:=xu (A:=A) H;omega
    obtain⟨R,ah⟩:∃R,(A a).rows.toNat=R:=⟨_,rfl⟩;obtain⟨C,ax⟩:∃C,(A a).cols.toNat=C:=⟨_,rfl⟩;rw[ah,ax] at mp;rw[ah] at bz bw;have U:=ae.aA SS;have g0:=U.c0;have g1:=U.c1;have g2:=U.c2;have g3:=U.c3;rw[mp.r] at g0;rw[mp.c] at g1;have c6:=mp.r1;have cC:=mp.c1;have vW:=mp.vW;have vB:=mp.vB;obtain⟨f,aj⟩:∃al,(A a).nw=al:=⟨_,rfl⟩;obtain⟨nb,ai⟩:∃al,(A a).nb=al:=⟨_,rfl⟩;rw[aj] at g2 LW vW b0;rw[ai] at g3 LB vB;have bn:f=R*C:=by rw[<-aj];exact mp.nw
    have bm:nb=R:=by rw[<-ai];exact mp.nb
    have HW:=eI bn;have HB:=eI bm;have bf:Hid (f+nU (A a).W f+(nb+nU (A a).B nb)<=1048576):=eI (by rw[<-aj,<-ai];exact bq);obtain⟨X,hX⟩:∃X,u++oq A a=X:=⟨_,rfl⟩;have dk:X.length<=100000200:=by rw[<-hX,List.length_append];omega
    have cj:Hid (Lib.IsBuilder 56 5 b.heap.size b.heap.size (Lib.byteCells (X)) wr):=eI (by rw[<-hX];exact hb.out);obtain⟨v,az⟩:∃L,Lib.join [[109,97,112],iz (R:Int),iz (C:Int)] [32]++[10]=L:=⟨_,rfl⟩;have aw:aE (A a)=v:=by rw[<-az,aE,mp.r,mp.c];simp[Lib.join]
    have dw:v.length<=200:=by rw[<-aw];exact hh
    have HE:Hid (u++oq A (a+1)=X++v++l8 (A a) R):=eI (by rw[<-hX,oq,aw,ah];simp);have HX:=eI hX;have HC:=eI ax;have N:=eI az;clear hX az aw aj ai hb cl mp U ah ax bq hh;have sN:=fA wr (.cells #[.i (R:Int),.i (C:Int),.slice g f h,.slice x nb t] 52);have cg:Hid ((wr.alloc (.cells #[.i (R:Int),.i (C:Int),.slice g f h,.slice x nb t] 52)).heap[wr.heap.size]?=some (.cells #[.i (R:Int),.i (C:Int),.slice g f h,.slice x nb t] 52)):=eI (Go.heap_alloc_new wr _);have y:=ie.new wr (.i (R:Int)) (.i (C:Int)) (.slice g f h) (.slice x nb t) 52;have zN:(wr.alloc (.cells #[.i (R:Int),.i (C:Int),.slice g f h,.slice x nb t] 52)).heap.size=wr.heap.size+1:=by simp
    clear bn bm;go_wp2_with fail;clear g0 g1 g2 g3;generalize wr.alloc (.cells #[.i (R:Int),.i (C:Int),.slice g f h,.slice x nb t] 52)=wC at*;have q0:=y.c0;have q1:=y.c1;have K:=aa.trans (sM sN aa.size);have dr:=uB wC;have O:=@eR (R:Int) wC.drew om om (a0.stay (K.trans (sM dr K.size)))
    go_region_held3 (fun o=>o.cell? (jj wr.heap.size 0)=some (.i (R:Int))/\o.cell? (jj wr.heap.size 1)=some (.i (C:Int))) (go_keep)
     (first
       | (go_at_call 25
          with_reducible refine O.mono ?_
          rintro e w6 ⟨rfl,s6⟩;have v6:=dr.trans (sM s6 dr.size);have p0:=(y.aA v6).c0;have p1:=(y.aA v6).c1;have P:=@eR (C:Int) w6 om om (a0.stay (K.trans (sM v6 K.size))))
       | (go_at_call 25
          with_reducible refine P.mono ?_
          rintro e G ⟨rfl,s7⟩;have v7:=v6.trans (sM s7 v6.size);have t0:=(y.aA v7).c0;have t1:=(y.aA v7).c1;have E:=fA G (.cells #[.string ⟨#[109,97,112]⟩,.string ⟨(iz (R:Int)).toArray⟩,.string ⟨(iz (C:Int)).toArray⟩] 9)
          have s:Cl 24 #[.s G.heap.size 3 3] (G.alloc (.cells #[.string ⟨#[109,97,112]⟩,.string ⟨(iz (R:Int)).toArray⟩,.string ⟨(iz (C:Int)).toArray⟩] 9)) fun e o=>e=.returned (.string ⟨v.toArray⟩)/\(G.alloc (.cells #[.string ⟨#[109,97,112]⟩,.string ⟨(iz (R:Int)).toArray⟩,.string ⟨(iz (C:Int)).toArray⟩] 9)).Since (G.alloc (.cells #[.string ⟨#[109,97,112]⟩,.string ⟨(iz (R:Int)).toArray⟩,.string ⟨(iz (C:Int)).toArray⟩] 9)).heap.size o:=by
           have:=@dW G.heap.size 0 3 [[109,97,112],iz (R:Int),iz (C:Int)] (G.alloc (.cells #[.string ⟨#[109,97,112]⟩,.string ⟨(iz (R:Int)).toArray⟩,.string ⟨(iz (C:Int)).toArray⟩] 9)) (acd _ rfl) qz qz qz (by have:=congrArg List.length N.out;rw[List.length_append] at this;omega);rw[N.out] at this;exact this)
       | (go_at_call 24
          with_reducible refine s.mono ?_
          rintro e w8 ⟨rfl,s8⟩;have M:=(v7.trans (sM E v7.size)).trans (sM s8 (Nat.le_trans v7.size E.size));have m0:=(y.aA M).c0;have m1:=(y.aA M).c1;have u8:=K.trans (sM M K.size);have Q:=@rF b.heap.size b.heap.size X v w8 (vz (vz cj.out sN) M) om u8.size)
       | (go_at_call 23
          with_reducible refine Q.mono ?_
          rintro e w9 ⟨⟨x9,rfl⟩,a5,s9,k9⟩;have u9:b.S w9:=u8.trans s9;have D:=et (lG cg.out M) k9 om qd;have n0:=(ie.of_heap D).c0;have cy:=(ie.of_heap D).c1;have n2:=(ie.of_heap D).c2;have n3:=(ie.of_heap D).c3;have D:=eI D;have k9:=eI k9;have z9:=s9.size;have z8:=M.size;have a5:=eI a5))
    all_goals clear q0 q1 p0 p1 t0 t1 m0 m1 O P s Q k9
    all_goals go_wp2_with fail
    refine (@acE (R:Int) (C:Int) g x f h nb t w9).mono ?_;rintro e q ⟨rfl,a8⟩;have c9:=fA q (.cells #[.i (R:Int),.i (C:Int),.slice g f h] 64);have h6:Hid ((q.alloc (.cells #[.i (R:Int),.i (C:Int),.slice g f h] 64)).heap[q.heap.size]?=some (.cells #[.i (R:Int),.i (C:Int),.slice g f h] 64)):=eI (Go.heap_alloc_new q _);have zM:(q.alloc (.cells #[.i (R:Int),.i (C:Int),.slice g f h] 64)).heap.size=q.heap.size+1:=by simp
    have ba:w9.S (q.alloc (.cells #[.i (R:Int),.i (C:Int),.slice g f h] 64)):=a8.trans (sM c9 a8.size);have bp:=eI (lG D.out ba);have r0:=(ie.of_heap bp.out).c0;clear n0 cy n2 n3;go_wp2_with fail;clear r0;generalize q.alloc (.cells #[.i (R:Int),.i (C:Int),.slice g f h] 64)=de at*;have dc:=u9.trans (sM ba u9.size);have d1:=a8.size;generalize wr.heap.size=c5 at*
    go_loopw [40] (fun i wr=>∃r:Nat,r<=R/\i=.i (r:Int)/\b.S wr/\de.heap.size<=wr.heap.size/\Hid (wr.heap[c5]?=some (.cells #[.i (R:Int),.i (C:Int),.slice g f h,.slice x nb t] 52))/\Hid (wr.heap[q.heap.size]?=some (.cells #[.i (R:Int),.i (C:Int),.slice g f h] 64))/\Hid (Lib.IsBuilder 56 5 b.heap.size b.heap.size (Lib.byteCells (X++v++l8 (A a) r)) wr)) (fun i _=>R-(intOf i).toNat)
    case atStart=>exact⟨0,om,rfl,dc,Nat.le_refl _,bp,h6,eI (by rw[l8,List.append_nil];exact vz a5.out ba)⟩
    case round=>
     obtain⟨r,hr,rfl,ux,dt,B,f6,a6⟩:=hrel;have p:=z.trans (sM ux z.size)
     by_cases I:r<R
     . have cn:(r:Int)<(R:Int):=om
       have dq:(r:Int)<(nb:Int):=by rw[HB.out];exact cn
       obtain⟨ca,c1,c2,m1,m2,l⟩:=LB r (by rw[HB.out];exact I);subst ca;have c0:=vB r (by rw[HB.out];exact I);have da:((A a).B r).n+((A a).B r).m<=1048576:=by have:=qo (R:=(A a).B) (n:=nb) (k:=r) (by rw[HB.out];exact I);have:=bf.out;omega
       have cf:r*C+C<=f:=by
        rw[HW.out];have:=Nat.mul_le_mul_right C (show r+1<=R from I);rw[Nat.add_mul,Nat.one_mul] at this;exact this
       have ce:C+nU (fun j=>(A a).W (r*C+j)) C<=1048576:=by
        have e:=cD (A a).W (r*C) C;have al:=qm (R:=(A a).W) cf;have:=bf.out;omega
       have c3:ke (fun j=>(A a).W (r*C+j)) C:=fun j hj=>vW _ om
       have bo:re (A a) r=ty (fun j=>(A a).W (r*C+j)) C++[((A a).B r).dH]:=by
        unfold re a2;rw[HC.out]
       have cm:=bz r om;have bu:=bw r I;obtain⟨T,hT⟩:∃T,((A a).B r).dH=T:=⟨_,rfl⟩;obtain⟨Y,hY⟩:∃Y,X++v++l8 (A a) r=Y:=⟨_,rfl⟩;have dl:Y.length<=300000400:=by rw[<-hY,List.length_append,List.length_append];omega
       have ck:Hid (Lib.IsBuilder 56 5 b.heap.size b.heap.size (Lib.byteCells (Y)) wr):=eI (by rw[<-hY];exact a6.out);obtain⟨L3,ag⟩:∃L,Lib.join (re (A a) r) [32]++[10]=L:=⟨_,rfl⟩;have dy:L3.length<=100000000:=by rw[<-ag];exact bu
       have b4:Hid (X++v++l8 (A a) (r+1)=Y++L3):=eI (by rw[<-hY,l8,bH,ag];simp);have bh:=eI ag;have HT:=eI hT;have b5:=eI bo;clear hY ag hT bo cm bu a6;have dx:=uB wr;have SD:=p.trans (sM dx p.size);have O:=@apG q.heap.size R C r f h n bW cz g (A a).W wr.drew I c6 cC HW.out b0 (eS.of_heap (lG f6.out dx)) (LW.aA SD);have q3:=(ie.of_heap B.out).c3;have MX:=l.aA p;have h0:=MX.c0;have h1:=MX.c1;have h2:=MX.c2;clear MX;go_wp2_with fail
       go_region_held3 (fun o=>o.cell? (jj c5 3)=some (.slice (jp bB oB) nb t)/\o.cell? (jj bB (oB+r*3))=some (.bool ((A a).B r).neg)/\o.cell? (jj bB (oB+r*3+1))=some (.slice c1 ((A a).B r).n m1)/\o.cell? (jj bB (oB+r*3+2))=some (.slice c2 ((A a).B r).m m2)) (go_keep)
        (first
          | (go_at_call 28
             with_reducible refine O.mono ?_
             rintro e bb ⟨ar,br,or,rfl,LR,c7⟩;have ab:=dx.trans (sM c7 dx.size);have af:=p.trans (sM ab p.size);have e3:=(ie.of_heap (lG B.out ab)).c3;have l0:=(l.aA af).c0;have cr:=(l.aA af).c1;have l2:=(l.aA af).c2;have P:=@aiX ar n br or C C (fun j=>(A a).W (r*C+j)) bb ce LR c3 (hP.stay af))
          | (go_at_call 27
             with_reducible refine P.mono ?_
             rintro e dz ⟨gt,ct,rfl,OT,b1⟩;have am:=ab.trans (sM b1 ab.size);have V:=p.trans (sM am p.size);have b8:=(ie.of_heap (lG B.out am)).c3;have cq:=(l.aA V).c0;have cu:=(l.aA V).c1;have cx:=(l.aA V).c2;have s:=aeZ (l.aA V).L c0 da (hP.stay V);rw[HT.out] at s)
          | (go_at_call 29
             with_reducible refine s.mono ?_
             rintro e bc ⟨rfl,a9⟩;have ac:=am.trans (sM a9 am.size);have au:=p.trans (sM ac p.size);have b9:=(ie.of_heap (lG B.out ac)).c3;have o0:=(l.aA au).c0;have o1:=(l.aA au).c1;have o2:=(l.aA au).c2;have b6:=uV OT a9;have d2:=ab.size;have d3:=ac.size;have d7:=a9.size;have d6:=b1.size;have bl:=l.lt;have di:=p.size;have dj:=am3 B.out)
          | (refine step_append_lies _ rfl _ _ 36 rfl bb.heap.size 9 i0 _ 1 16 underlying36 hi co a7 cp rfl qd _ C (uI (ty (fun j=>(A a).W (r*C+j)) C)) rfl (b6.alloc _) (jj bc.heap.size 0) 1 1 [.string ⟨T.toArray⟩] rfl rfl (iq _ _ _) (one_one _ rfl) qd (by unfold maxLen;omega) om (by simp;omega) (bc.heap.size+1) qz ?_
             intro gw cw ao OW bs ch dp;have E:=fA bc (.cells #[.string ⟨T.toArray⟩] 9);have lg:=OT.lt gt rfl;have an:=(ac.trans (sM E ac.size)).grown bs (by simp;omega) (fun c4 hq=>by have:=(OT.lt c4 hq).1;omega);have av:=p.trans (sM an p.size);have y3:=(ie.of_heap (lG B.out an)).c3;have y0:=(l.aA av).c0;have y1:=(l.aA av).c1;have y2:=(l.aA av).c2;have OW:=eI OW))
       all_goals clear q3 h0 h1 h2 e3 l0 cr l2 b8 cq cu cx b9 o0 o1 o2 y0 y1 y2 y3 O P s bs ch
       all_goals go_wp2_with fail
       have bj:ao.ownsRow bb.heap.size 9 1 (.s gw (C+1) cw) (C+1) (uI (re (A a) r)):=by
        rw[b5.out,HT.out,show ∀L:List (List UInt8),uI (L++[T])=uI L++[.string ⟨T.toArray⟩] from fun L=>by simp[uI]];exact OW.out
       obtain⟨tc,tl,-,db,tn⟩:=ajv bj
       have S:Cl 24 #[.s gw (C+1) cw] ao fun e o=>e=.returned (.string ⟨L3.toArray⟩)/\ao.S o:=by
        have:=@dW gw 0 cw (re (A a) r) ao (fun j dh cd=>by rw[Nat.zero_add];exact tc j dh cd) tl om om (by have:=congrArg List.length bh.out;rw[List.length_append] at this;omega);rw[bh.out,tn] at this;exact this
       clear bj tc db;refine S.mono ?_;rintro e df ⟨rfl,c8⟩;have ad:=an.trans (sM c8 an.size);have b3:=ux.trans (sM ad ux.size);have J6:=@rF b.heap.size b.heap.size Y L3 df (vz ck.out ad) om b3.size;clear S;go_wp2_with fail;refine J6.mono ?_;rintro e dg ⟨⟨d0,rfl⟩,a3,b2,ak⟩;have dd:b.S dg:=b3.trans b2;have d4:=ad.size;have d5:=b2.size;have cb:=eI (et (lG B.out ad) ak om qd);have cc:=eI (et (lG f6.out ad) ak om qd);have a3:=eI a3;have ak:=eI ak;clear J6;go_wp2;go_roundw
       case rel=>exact⟨r+1,om,by go_num,dd,om,cb,cc,eI (by rw[b4.out];exact a3.out)⟩
       case measure=>simp[intOf];omega
     . have er:r=R:=om
       subst er;have a7:¬((r:Int)<(r:Int)):=om
       go_wp2;go_roundw
       case rel=>exact⟨a+1,om,by go_num,ux,om,eI (by rw[HE.out];exact a6.out)⟩
       case measure=>simp[intOf];omega
  . have ek:a=d:=om
    subst ek;have a7:¬((a:Int)<(a:Int)):=om
    have S:=Builder_String_any b.heap.size b.heap.size (u++oq A a) wr hb.out aa.size;go_wp2_with fail;refine S.mono ?_;rintro e q ⟨rfl,b7⟩;clear S;go_wp2;go_ret;rw[wG,bi.out];exact⟨rfl,z.trans (sM (aa.trans (ky b7)) z.size)⟩
def ay(n:Nat)(A:Nat->ic)[Decidable (pH n A)]:List UInt8:=if pH n A then wG n A else []
open Classical in
theorem uu(a:Option Addr)(n m c d k:Nat)(A:Nat->ic)(w:World)(f:d<=1048576)(g:vK A d<=68719476736)(b:∀h,h<d->(A h).few)(H:sc w n a m c d A):
 Cl 9 #[.agg #[.slice a d k]] w fun e i=>e=.returned (.string ⟨(ay d A).toArray⟩)/\w.S i:=by
 by_cases E:pH d A
 . rw[ay,aY E];have:=(H 0 (by have:=E.n0;omega)).1;subst this;exact aaN f g b H E
 . rw[ay,aM E];exact abG f b H E
open Classical in
theorem aaO(a:Option Addr)(n m c d k:Nat)(A:Nat->ic)(w:World)(g:d<=1048576)(i:vK A d<=16777216)(H:sc w n a m c d A):
 Cl 9 #[.agg #[.slice a d k]] w fun e h=>e=.returned (.string ⟨(ay d A).toArray⟩)/\w.S h:=
 uu a n m c d k A w g om (fun b f=>ic.few_of (by have:=xu (A:=A) f;omega)) H
open Classical in
theorem aaU(a:Option Addr)(n m c d k:Nat)(A:Nat->ic)(w:World)(g:Pow w)(b:d<=1048576)(f:vK A d<=1048576)(H:sc w n a m c d A):
 Cl 8 #[.agg #[.slice a d k]] w fun e i=>e=.returned (.string ⟨(ay d A).toArray⟩)/\w.S i:=by
 by_cases E:pH d A
 . rw[ay,aY E];have:=(H 0 (by have:=E.n0;omega)).1;subst this;exact aaT g b f H E
 . rw[ay,aM E];exact acp b f H E
theorem ap1(E:pg G)(j:G.size<=1048576)(hl:∀k,k<G.nn->∀c,c<(G.N k).nv->((G.N k).V c).lim)(h:t<=(gR G).length):∀q,q∈(a1 G t).2.2.1∨q∈(a1 G t).2.2.2->Qb q 8388608:=by
 have d:∀(z:Int) r,r<(bY G t).length->Qb ((kF G t (i9 z)).getD r 0) 2097281:=fun z r a=>by
  have f:r<(kF G t (i9 z)).length:=by rw[afx G t _ (i9 (-1))];exact a
  have e:(kF G t (i9 z)).getD r 0=(kF G t (i9 z))[r]:=by simp[List.getD,aK f]
  rw[e];exact ais E j hl h z _ (jB f)
 intro q b;unfold a1 at b;simp only[dT,dU] at b;rcases b with ⟨x,i,rfl⟩ | ⟨r,a,rfl⟩
 . have a:=Nat.div_lt_of_lt_mul (by rw[cJ];exact i);unfold wF;exact Qb.diffk (d _ _ a) (d (-1) _ a) qd
 . exact Qb.more (d (-1) r a) qd
structure aj(L:List (Nat×Nat×List Rat×List Rat)):Prop where
 n:L.length<=20000
 c:cs L L.length<=3000
 m:∀k,k<L.length->bF (L.getD k dm)
theorem aqh{L:List (AfQ)}(a:n<L.length):(L.getD n dm).1*((L.getD n dm).2.1+1)<=cs L L.length:=by
 have:=aiK L (show n+1<=L.length from a);rw[cs] at this;omega
theorem aqa(B:GB G)(h:cp G):aj (lnL G):=by
 obtain⟨E,r,l⟩:=h;have s:=tU E;have o:=B.n;have p:=vV G;refine⟨by have:999*G.nn<=999*12:=dE _ o;omega,l,fun k a=> ?_⟩;have f:=aqh a;have c:=(al6 E k a).2;have d:=ap1 (t:=k) E (by have:=B.sz;omega) (fun j n i m=>by
  obtain⟨q,e,-⟩:=B.V j n i m;rw[e];exact⟨(j8 _).1,(j8 _).1⟩) om
 rw[al7 G a] at f c⊢;exact⟨by unfold a1;simp,by unfold a1;simp,om,c,fun x b=>d x (.inl b),fun x b=>d x (.inr b)⟩
section
variable{X:Nat->Nat}{n:Nat}
theorem apX(h:∀j,j<n->X j<256)(m:Nat)(g:c<=4)(f:d<=4):bF (mpD X n m c d).1/\(mpD X n m c d).1.1*((mpD X n m c d).1.2.1+1)<=20:=by
 have e:c*(d+1)<=4*5:=dF g om;have b:∀m,Qb (rq X n m) 8388608:=fun m=>((rU h m).2).more qd;refine⟨⟨by simp[mpD],by simp[mpD], ?_, ?_,fun x a=> ?_,fun x a=> ?_⟩,e⟩
 . show c*(d+1)<=20000;omega
 . show d<=6000000;omega
 . unfold mpD at a;simp only[dT,dU] at a;obtain⟨i,-,rfl⟩:=a;unfold mzQ;split
   . exact aiP qd
   . exact b _
 . unfold mpD at a;simp only[dT,dU] at a;obtain⟨i,-,rfl⟩:=a;exact b _
theorem apq(f:∀j,j<n->X j<256)(b:m<=4)(c d:Nat):(∀e∈(dnF X n m c d).1,bF e/\e.1*(e.2.1+1)<=20)/\(dnF X n m c d).2.1<=4:=by
 induction d with
 | zero=>exact⟨fun e a=>by simp[dnF] at a,b⟩
 | succ d ih=>
   refine⟨fun e a=> ?_, ?_⟩
   . rw[dnF] at a;simp only[iX,List.mem_singleton] at a;rcases a with a | rfl
     . exact ih.1 e a
     . exact apX f _ (eU _) ih.2
   . rw[dnF];exact eU _
theorem amk(g:∀j,j<n->X j<256)(m c:Nat):aj (dnB X n m c).1:=by
 have h:=(apq g (show 1+nV X n c % 4<=4 by omega) (nP n c) (dnK m)).1;have hl:=anF X n (1+nV X n c % 4) (nP n c) (dnK m);have a:dnK m<=8:=by unfold dnK;split<;>omega
 unfold dnB;simp only;generalize (dnF X n (1+nV X n c % 4) (nP n c) (dnK m)).1=L at*;have b:∀m,m<L.length->bF (L.getD m dm)/\(L.getD m dm).1*((L.getD m dm).2.1+1)<=20:=fun m a=>by rw[List.getD,aK a];exact h _ (jB a)
 have d:∀m,m<=L.length->cs L m<=20*m:=by
  intro m
  induction m with
  | zero=>intro _;exact aJ _
  | succ m ih=>
    intro a;have e:=ih om;have f:=(b m a).2;rw[cs];omega
 exact⟨om,by have:=d L.length zR;omega,fun m a=>(b m a).1⟩
open Classical in
theorem aov(a:∀j,j<n->X j<256)(m:Nat):aj (dnO X n m).1:=by
 unfold dnO dnQ;split
 . split
   . exact aqa (aou a _) yE
   . exact amk a _ _
 . exact amk a _ _
end
def adF(L:List (Nat×Nat×List Rat×List Rat)):Nat->ic:=fun k=>⟨((L.getD k dm).1:Int),((L.getD k dm).2.1:Int),(L.getD k dm).2.2.1.length,fun i=>rd ((L.getD k dm).2.2.1.getD i 0),(L.getD k dm).2.2.2.length,fun i=>rd ((L.getD k dm).2.2.2.getD i 0)⟩
theorem aih{L:List Rat}(h:ML KQ w P a n m L)(H:∀x∈L,Qb x 8388608):ph w 0 a n m L.length (fun i=>rd (L.getD i 0)):=fun i t=>by
 obtain⟨G,x,y,b,E,F,k,v,p,l,u,o,C,K,D,M,X,Y,e,I,r,s,-,-⟩:=h.qs i t;simp only[Value.agg.injEq,Array.mk.injEq,List.cons.injEq,fM,fI] at e;obtain⟨rfl,rfl⟩:=e;have hb:=oL H t;simp only at r s b⊢;generalize L.getD i 0=q at*;obtain⟨d,A,N⟩:=ct (N:=q.num.natAbs) (p:=(v,X)) ⟨I.lX,I.pX,r⟩;obtain⟨f,B,O⟩:=ct (N:=q.den) (p:=(u,Y)) ⟨I.lY,I.pY,s⟩;have z:=th hb.1;have Q:=th hb.2;simp only at d A f B;refine⟨G,k,l,p,o,b, ?_, ?_, ?_⟩
 . show _=some (Value.slice k (nT q.num.natAbs).1 p)
   rw[d];exact E
 . show _=some (Value.slice l (nT q.den).1 o)
   rw[f];exact F
 . exact⟨by show (nT q.num.natAbs).1<=_;rw[d];exact I.nc,by show (nT q.den).1<=_;rw[f];exact I.mc,I.ac,I.bc,
    ⟨C,K,fun _=>aJ _,fun j g=>by
      have c:j<v:=by rw[<-d];exact g
      show _/\_=some (Value.int .u32 ((nT q.num.natAbs).2 j:Int))
      rw[A j c];exact I.LX j c⟩,
    ⟨D,M,fun _=>aJ _,fun j g=>by
      have c:j<u:=by rw[<-f];exact g
      show _/\_=some (Value.int .u32 ((nT q.den).2 j:Int))
      rw[B j c];exact I.LY j c⟩,N.1,O.1,by show (nT q.num.natAbs).1<=_;omega,by show (nT q.den).1<=_;omega⟩
theorem anU{L:List (AfQ)}(N:aj L)(h:ML KA w P a n m L):sc w 0 a n m L.length (adF L):=fun i k=>by
 have v:L[i]?=some (L.getD i dm):=by rw[List.getD,aK k];rfl
 have M:=N.m i k;unfold adF;generalize L.getD i dm=b at*;obtain⟨t,z,⟨f,y,e,x,d,o,q,-,-,-,-,r,s⟩,l⟩:=h i b v;subst d;have c:=l;have g:=c 0 _ rfl;rw[fV] at g;have D:=M.c;have E:=M.k;have A:b.1<=b.1*(b.2.1+1):=jC _ om;have B:b.1*(b.2.1+1)=b.1*b.2.1+b.1:=by rw[fY,iF]
 have F:=M.w;have C:=M.b;exact⟨t,_,_,_,_,g,c 1 _ rfl,c 2 _ rfl,c 3 _ rfl,o,q,⟨f,0,fun _=>aJ _,aih r M.qw⟩,⟨e,0,fun _=>aJ _,aih s M.qb⟩,by simp only;omega,by simp only;omega,by simp only;omega,by simp only;omega,by simp only;omega,by simp only;omega⟩
theorem aog(h:Qb Q 8388608):(rd Q).n+(rd Q).m<=16777216:=by
 have a:=th h.1;have b:=th h.2;show (nT Q.num.natAbs).1+(nT Q.den).1<=_;omega
theorem am9{L:List (AfQ)}(N:aj L)(n:Nat)(e:n<L.length):(adF L n).few/\(adF L n).size<=(L.getD n dm).1*((L.getD n dm).2.1+1)*16777217:=by
 have M:=N.m n e;unfold adF;generalize L.getD n dm=m at*;have h:=M.c;have g:=M.w;have f:=M.b;have d:m.1*(m.2.1+1)=m.1*m.2.1+m.1:=by rw[fY,iF]
 have c:∀i,i<m.2.2.1.length->(rd (m.2.2.1.getD i 0)).n+(rd (m.2.2.1.getD i 0)).m<=16777216:=fun i a=>aog (oL M.qw a);have b:∀i,i<m.2.2.2.length->(rd (m.2.2.2.getD i 0)).n+(rd (m.2.2.2.getD i 0)).m<=16777216:=fun i a=>aog (oL M.qb a);refine⟨⟨by simp only;omega,by simp only;omega,c,b⟩, ?_⟩;have j:=bq (R:=fun i=>rd (m.2.2.1.getD i 0)) c;have l:=bq (R:=fun i=>rd (m.2.2.2.getD i 0)) b;unfold ic.size;simp only;rw[d,<-g,bI];rw[<-f] at*;omega
theorem ao2{L:List (AfQ)}(N:aj L):vK (adF L) L.length<=50331651000:=by
 have h:∀k,k<=L.length->vK (adF L) k<=cs L k*16777217:=by
  intro k
  induction k with
  | zero=>intro _;exact aJ _
  | succ k ih=>
    intro c;have a:=ih om;have b:=(am9 N k c).2;rw[dp,cs,bI];omega
 have a:=h _ zR;have b:=aP 16777217 N.c;omega
def ntT[∀p:Prop,Decidable p](L:List (Nat×Nat×List Rat×List Rat)):ByteArray:=⟨(ay L.length (adF L)).toArray⟩
open Classical in
theorem aoU{L:List (AfQ)}(N:aj L):(ntT L).size<=1999999999999:=by
 have l:=ao2 N;have k:=N.n;unfold ntT ay;rw[bsz];split
 . rename_i E
   have hl:∀q:Rat,(rd q).lim:=fun q=>⟨(j8 _).1,(j8 _).1⟩;have h:=af1 (A:=adF L) (k:=L.length) (fun j d=>by
    have M:=E.map d;have c:=M.r;have e:=M.c;have f:=M.r1;have g:=M.c1;have a:=af2 (d:=adF L j) om om;have b:=aiy M (fun i _=>hl _) (fun i _=>hl _) zR;rw[aT];omega)
   have c:=nI (show ((L.length:Nat):Int)<=9223372036854775807 by omega);unfold wG uZ;simp only[aT,fS,mR];omega
 . exact aJ _
open Classical in
theorem aj5{a:Option Addr}{n m c:Nat}{P:Nat->Prop}{L:List (AfQ)}{w:World}(N:aj L)(H:ML KA w P a n m L):
 Cl 9 #[.agg #[.slice a L.length c]] w fun e g=>e=.returned (.string (ntT L))/\w.S g:=by
 have i:=ao2 N;have h:=N.n;exact uu a 0 n m L.length c (adF L) w om om (fun k f=>(am9 N k f).1) (anU N H)
def dtB(X:Nat->Nat)(n k m:Nat)(s:ByteArray):ByteArray:=
 if k % 11=10 then dlT s m
 else if k % 11=9∨k % 11=8 then chT X n (m % 7) s
 else if k % 22=7 then s++⟨(List.replicate (100000+m % 3-(s.size+1)) (32:UInt8)).toArray⟩
 else if k % 22=6 then ⟨#[110,101,116,32]⟩++aL (m % 3)++⟨#[10,109,97,112,32,50,32,49,10,49,32,48,10,48,32,49,10,109,97,112,32,49,32]⟩++aL (1+m/3 % 3)++⟨#[10,49,32,50,32,51,10]⟩
 else if k % 22=5 then ⟨#[110,101,116,32]⟩++aL (m % 2)++⟨#[10,109,97,112,32,48,32]⟩++aL (20000+m/2 % 3-1)++⟨#[10]⟩
 else if k % 44=4 then ⟨#[110,101,116,32,49,10,109,97,112,32,49,32,49,10]⟩++⟨(lgB (400+m % 3-1) k).toArray⟩++⟨#[32,32,45,48,48,47,55,10]⟩
 else s
def dtS[∀p:Prop,Decidable p](X:Nat->Nat)(n m:Nat)(L:List (Nat×Nat×List Rat×List Rat)):ByteArray:=if m % 3=2 then (bX X n 0 L).1 else ntT L
def dtT[∀p:Prop,Decidable p](X:Nat->Nat)(n p:Nat):ByteArray:=dtB X n (nV X n p) (nV X n (nP n p)) (dtS X n (nV X n (nP n p)) (dnO X n (nP n (nP n p))).1)
theorem aln{L:List (AfQ)}(N:aj L):(bX X n m L).1.size<=2000000000000:=by
 have e:=dh (X:=X) (n:=n) N.m (nHd X n m L.length) _ zR;have a:=N.c;have f:=N.n;have g:(nHd X n m L.length).1.size<=100:=by have b:=nk (show L.length<=9223372036854775807 by omega);have d:=sK (nV X n m);have c:=sP (nV X n (nP n m));have i:(⟨#[110,101,116]⟩:ByteArray).size=3:=rfl;unfold nHd;simp only[ByteArray.size_append];omega
 have h:=aP 536871200 a;unfold bX;omega
open Classical in
theorem aiE{L:List (AfQ)}(N:aj L)(X:Nat->Nat)(n m:Nat):(dtS X n m L).size<=2000000000000:=by
 unfold dtS;split
 . exact aln N
 . have:=aoU N;omega
theorem anG(s:ByteArray)(n:Nat):(dlT s n).size<=5*s.size+4:=by
 have d:=pm 10 s;have c:=ai0 s (n/3 % (jP 10 s).length);have a:=aiG (lnF s) (n/3 % (jP 10 s).length) n (jP 10 s).length;have b:=akH s _ zR;unfold dlT;split
 . rw[ByteArray.size_append];omega
 . omega
theorem anE{s:ByteArray}(g:s.size<=2000000000000):(dtB X n m c s).size<=10000000000100:=by
 have e:=anG s c;have f:=anN (nV X n (c % 7)) (nV X n (nP n (c % 7))*256+nV X n (nP n (nP n (c % 7)))) s;have a:=nk (show c % 3<=9223372036854775807 by omega);have b:=nk (show 1+c/3 % 3<=9223372036854775807 by omega);have i:=nk (show c % 2<=9223372036854775807 by omega);have d:=nk (show 20000+c/2 % 3-1<=9223372036854775807 by omega);have h:(lgB (400+c % 3-1) m).length=400+c % 3-1:=by simp[lgB]
 unfold dtB;repeat' split
 all_goals (try simp only[ByteArray.size_append,bsz,List.length_replicate,fS,mR])
 . omega
 . unfold chT;omega
 all_goals omega
open Classical in
theorem anD(a:∀j,j<n->X j<256):(dtT X n p).size<=10000000000100:=anE (aiE (aov a _) X n _)
open Classical in
theorem ada(G:d<=16777216)(R:Rp w n a m c d k X i):
 Cl 15 #[.p n 0,.bool true] w fun e w'=>e=.returned (.string (dtT X d i))/\il n w w':=by
 have bb:=R.R.lt;have hX:=eI R.hX;obtain⟨i0,hi,az,a0,a7⟩:=kT bN;obtain⟨T,hT⟩:∃a8,dtT X d i=a8:=⟨_,rfl⟩;rw[hT];have HT:=eI hT;go_enter func15,ntmps15;go_wp2_with fail;refine (jd G R).mono ?_;rintro e w1 ⟨b,ek,rfl,hk,R1,P⟩;have HK:=eI ek;go_wp2_with fail;refine (jd G R1).mono ?_;rintro e w2 ⟨p,em,rfl,hm,R2,O2⟩;have s:=aov hX.out (nP d (nP d i));have r:=@akf n a m c d k X _ w2 G R2;obtain⟨D,a1⟩:∃x,dnO X d (nP d (nP d i))=x:=⟨_,rfl⟩;rw[a1] at r s;have K:Hid (T=dtB X d b p (dtS X d p D.1)):=eI (by rw[<-HT.out,dtT,HK.out,em,a1]);have ae:=P.trans O2;obtain⟨L,P2⟩:=D;simp only at s r K;go_wp2_with fail
 (with_reducible refine r.mono ?_);rintro e w3 ⟨g,W,rfl,ak,hg,av,ab,R3,O3⟩;simp only at ab ak R3;have z2:=ae.size;have z3:=O3.size;have M:=fA w3 (.cells #[.s g L.length W] 25);have b4:=ix.new w3 (.s g L.length W) 25;have ac:=(ab.imp KA.ok (p':=fun q=>q≠n) (fun q _ H=>by omega)).aA KA.ok M;have R4:=R3.aA M;have O4:=(ae.trans O3).trans (il.aD n M);have JT:=@aj5 _ _ _ W _ L _ s ac;have af:=aiE s X d p;have q0:=b4.c0;have z4:=M.size;go_wp2_with fail;generalize w3.alloc _=w4 at*;refine mo JT fun w5 E=> ?_;have b5:=b4.aA E;have B:=R4.aA E;have a2:=O4.trans (il.aD n E);have ad:=ac.aA KA.ok E;have z5:=E.size;obtain⟨S,hS⟩:∃x,dtS X d p L=x:=⟨_,rfl⟩;rw[hS] at K af;have HS:=eI hS;go_upto_if 22 with fail;go_cut [8] (fun x wx=>x=.string S/\(∃ao,Rp wx n a m c d k X ao)/\il n w wx)
 case first=>
  by_cases a4:p % 3=2
  . have t1:((p:Int) % 3==2)=true:=(by simp;omega);have F:Hid ((bX X d 0 L).1=S):=eI (by rw[<-HS.out,dtS,aY a4]);have v:=B.put 0 (aJ _);have A:=(eM.refl w5 n).setCell 1 (.i 0);have l:=a2.trans (il.bL A);have ah:=ad.move KA.ok (by rw[A.size];exact aC _) (fun _=>A.other g om) (fun q _ H=>A.other q H);have b6:=b5.bR (il.bL A) om;have r:=@afw n a m c d k X 0 _ (jp g 0) g 0 W L G v s.n s.m (by have:=s.c;omega) ah (fun _=>by omega);have k1:=B.at_;have kf:=B.R.f 1;have q0:=b6.c0;rw[F.out] at r;go_wp2_with fail;refine mo r fun w7⟨V,U⟩=> ?_;have Z:=l.trans U;go_wp2;go_meet
    case rel=>exact⟨rfl,⟨_,V⟩,Z⟩
  . have t1:((p:Int) % 3==2)=false:=(by simp;omega);have F:Hid (ntT L=S):=eI (by rw[<-HS.out,dtS,aM a4]);go_wp2;go_meet
    case rel=>exact⟨by rw[F.out],⟨_,B⟩,a2⟩
 case rest=>
  obtain⟨rfl,⟨ao,v⟩,l⟩:=hcut;have bc:=v.R.lt;by_cases h:b % 11=10
  . have t1:((b:Int) % 11==10)=true:=(by simp;omega);have F:Hid (dlT S p=T):=eI (by rw[K.out,dtB,aY h]);have JD:=@apn S p wc af hm;rw[F.out] at JD;go_wp2_with fail;refine mo JD fun Y z=> ?_;go_wp2;go_ret;exact⟨rfl,l.trans (il.aD n z)⟩
  have t1:((b:Int) % 11==10)=false:=by simp;omega
  by_cases f:b % 11=9∨b % 11=8
  . obtain⟨q,H⟩:∃q,p % 7=q:=⟨_,rfl⟩;have t2:(p:Int) % 7=(q:Int):=om;have F:Hid (chT X d q S=T):=eI (by rw[K.out,dtB,aM h,aY f,H]);have V:=v.putq q om;have M7:=(eM.refl wc n).setCell 1 (.i (q:Int));have U:=l.trans (il.bL M7);have JC:=amv af G V;have k1:=v.at_;have kf:=v.R.f 1;rw[F.out] at JC;rcases f with f | f
    focus
     have t3:((b:Int) % 11==9)=true:=(by simp;omega);go_wp2_with fail
    rotate_left
    focus
     have t3:((b:Int) % 11==9)=false:=(by simp;omega);have t4:((b:Int) % 11==8)=true:=(by simp;omega);clear f;go_wp2_with fail
    all_goals
     refine mo JC fun Y Z=> ?_;go_wp2;go_ret;exact⟨rfl,U.trans Z⟩
  have t2:((b:Int) % 11==9)=false:=by simp;omega
  have t3:((b:Int) % 11==8)=false:=by simp;omega
  by_cases o:b % 22=7
  . have t4:((b:Int) % 22==7)=true:=(by simp;omega);obtain⟨N,hN⟩:∃N,100000+p % 3-(S.size+1)=N:=⟨_,rfl⟩;have F:Hid (S++⟨(List.replicate N (32:UInt8)).toArray⟩=T):=eI (by rw[K.out,dtB,aM h,aM f,aY o,hN]);obtain⟨D,a1⟩:∃D:Int,100000-(S.size:Int)+(p:Int) % 3-1=D:=⟨_,rfl⟩;have ai:∀j:Nat,j<N->(j:Int)<D:=fun j hj=>om;have a9:¬(N:Int)<D:=om;have ba:N<=100002:=om;have au:=eI ai;have sA:=fA wc (.cells #[] 5);have oA:(wc.alloc (.cells #[] 5)).ownsRow wc.heap.size 5 1 (.s wc.heap.size 0 0) 0 (Lib.byteCells []):=iP wc #[] 0 zR (aJ _) rfl;have u1:¬9223372036854775807<S.size+N:=om;go_wp2;go_loopw [10,11] (fun aq ag wr=>∃j:Nat,j<=N/\ag=.i (j:Int)/\wc.S wr/\Hid (aq≠ .n)/\wr.ownsRow wc.heap.size 5 1 aq j (Lib.byteCells (List.replicate j 32))) (fun _ ag _=>N-(intOf ag).toNat)
    case atStart=>exact⟨0,aJ _,rfl,sA,eI qz,oA⟩
    case round=>
     obtain⟨j,hj,rfl,Q,ax,O⟩:=hrel;by_cases aw:j<N
     . have hz:=au.out j aw;have bh:=Q.size;go_wp2_with (at_builtin;refine gK _ rfl _ _ 22 rfl wc.heap.size 5 i0 (.int .u8 0) 1 1 underlying22 hi az a0 a7 rfl qd _ _ _ rfl (O.alloc _) (jj wr.heap.size 0) 1 1 [.int .u8 32] rfl rfl (iq _ _ _) (one_one _ rfl) (by unfold maxLen;omega) om (by simp;omega) ?_);intro v1 w1 am aj al;have S1:=(Q.alloc Q.size _).grown aj (by simp;omega) (fun b hk=>(O.lt b hk).1);have ar:=eI al;have P:w1.ownsRow wc.heap.size 5 1 v1 (j+1) (Lib.byteCells (List.replicate (j+1) 32)):=by
        rw[show Lib.byteCells (List.replicate (j+1) 32)=Lib.byteCells (List.replicate j 32)++[.int .u8 32] by simp[Lib.byteCells,List.replicate_succ']];exact am
       go_wp2;go_roundw
       case rel=>exact⟨j+1,om,by go_num,S1,ar,P⟩
       case measure=>exact yI
     . obtain rfl:j=N:=om;obtain⟨g,n,rfl,bf⟩:=og O ax.out (show j=(List.replicate j (32:UInt8)).length by simp);go_wp2;go_ret;exact⟨by rw[<-F.out];rfl,l.trans (il.aD _ Q)⟩
  have t4:((b:Int) % 22==7)=false:=by simp;omega
  by_cases t:b % 22=6
  . have t5:((b:Int) % 22==6)=true:=(by simp;omega);obtain⟨x,u⟩:∃x,p % 3=x:=⟨_,rfl⟩;obtain⟨y,I⟩:∃y,1+p/3 % 3=y:=⟨_,rfl⟩;have ex:(p:Int) % 3=(x:Int):=om;have ey:1+(p:Int)/3 % 3=(y:Int):=om;have d1:=nI (show (x:Int)<=9223372036854775807 by omega);have d2:=nI (show (y:Int)<=9223372036854775807 by omega);have F:Hid ((⟨#[110,101,116,32]⟩:ByteArray)++⟨(iz (x:Int)).toArray⟩++⟨#[10,109,97,112,32,50,32,49,10,49,32,48,10,48,32,49,10,109,97,112,32,49,32]⟩++⟨(iz (y:Int)).toArray⟩++⟨#[10,49,32,50,32,51,10]⟩=T):=eI (by rw[K.out,dtB,aM h,aM f,aM o,aY t,u,I];rfl);have u1:¬9223372036854775807<4+(iz (x:Int)).length:=om;have u2:¬9223372036854775807<4+(iz (x:Int)).length+23:=om;have u3:¬9223372036854775807<4+(iz (x:Int)).length+23+(iz (y:Int)).length:=om;have u4:¬9223372036854775807<4+(iz (x:Int)).length+23+(iz (y:Int)).length+7:=om;have an:x<=2:=om;have ay:y<=3:=om;go_wp2_with fail;refine mo (pn om om) fun Y z=> ?_;go_wp2_with fail;refine mo (pn om om) fun w9 s9=> ?_;go_wp2;go_ret;exact⟨by rw[<-F.out];rfl,l.trans (il.aD n (z.tr s9))⟩
  have t5:((b:Int) % 22==6)=false:=by simp;omega
  by_cases C:b % 22=5
  . have t6:((b:Int) % 22==5)=true:=(by simp;omega);obtain⟨x,u⟩:∃x,p % 2=x:=⟨_,rfl⟩;obtain⟨y,I⟩:∃y,20000+p/2 % 3-1=y:=⟨_,rfl⟩;have ex:(p:Int) % 2=(x:Int):=om;have ey:20000+(p:Int)/2 % 3-1=(y:Int):=om;have d1:=nI (show (x:Int)<=9223372036854775807 by omega);have d2:=nI (show (y:Int)<=9223372036854775807 by omega);have F:Hid ((⟨#[110,101,116,32]⟩:ByteArray)++⟨(iz (x:Int)).toArray⟩++⟨#[10,109,97,112,32,48,32]⟩++⟨(iz (y:Int)).toArray⟩++⟨#[10]⟩=T):=eI (by rw[K.out,dtB,aM h,aM f,aM o,aM t,aY C,u,I];rfl);have u1:¬9223372036854775807<4+(iz (x:Int)).length:=om;have u2:¬9223372036854775807<4+(iz (x:Int)).length+7:=om;have u3:¬9223372036854775807<4+(iz (x:Int)).length+7+(iz (y:Int)).length:=om;have u4:¬9223372036854775807<4+(iz (x:Int)).length+7+(iz (y:Int)).length+1:=om;have an:x<=1:=om;have ay:y<=20001:=om;go_wp2_with fail;refine mo (pn om om) fun Y z=> ?_;go_wp2_with fail;refine mo (pn om om) fun w9 s9=> ?_;go_wp2;go_ret;exact⟨by rw[<-F.out];rfl,l.trans (il.aD n (z.tr s9))⟩
  have t6:((b:Int) % 22==5)=false:=by simp;omega
  by_cases a3:b % 44=4
  . have t7:((b:Int) % 44==4)=true:=(by simp;omega);obtain⟨x,u⟩:∃x,400+p % 3-1=x:=⟨_,rfl⟩;have ex:400+(p:Int) % 3-1=(x:Int):=om;have an:x<=401:=om;have hl:(lgB x b).length=x:=(by simp[lgB]);have F:Hid ((⟨#[110,101,116,32,49,10,109,97,112,32,49,32,49,10]⟩:ByteArray)++⟨(lgB x b).toArray⟩++⟨#[32,32,45,48,48,47,55,10]⟩=T):=eI (by rw[K.out,dtB,aM h,aM f,aM o,aM t,aM C,aY a3,u]);have u1:¬9223372036854775807<14+(lgB x b).length:=om;have u2:¬9223372036854775807<14+(lgB x b).length+8:=om;have HL:=eI hl;go_wp2_with fail;refine mo (apc om hk) fun Y z=> ?_;go_wp2;go_ret;exact⟨by rw[<-F.out];rfl,l.trans (il.aD n z)⟩
  have t7:((b:Int) % 44==4)=false:=by simp;omega
  have F:Hid (S=T):=eI (by rw[K.out,dtB,aM h,aM f,aM o,aM t,aM C,aM a3]);go_wp2;go_ret;exact⟨by rw[F.out];rfl,l⟩
open Classical in
theorem acZ{a:Option Addr}{n m c d:Nat}{X:Nat->Nat}{w:World}(k:c<=16777216)(j:Code w a n m c X):
 Cl 5 #[.slice a c d] w fun e l=>e=.returned (.string (dtT X c 0))/\w.S l:=by
 obtain⟨T,b⟩:∃t,dtT X c 0=t:=⟨_,rfl⟩;rw[b];have f:=eI b;go_enter func5,ntmps5;go_wp2_with fail;refine mo (aoS j) fun p⟨h,i⟩=> ?_;have J:=ada k h;rw[f.out] at J;go_wp2_with fail;refine mo J fun q g=> ?_;have o:=i.size;go_wp2;go_ret;exact⟨rfl,i.trans (g.since o)⟩
open Classical in
theorem afo{a:Option Addr}{n m c d:Nat}{X:Nat->Nat}{w:World}(hP:Pow w)(hn:c<=1048576)(x:Code w a n m c X):
 Cl 3 #[.slice a c d] w fun e w'=>e=.returned (.bool true)/\w.S w':=by
 have S:=fun w h=>@acZ a n m c d X w om h;have hT:=anD (p:=0) (fun ak hj=>(x ak hj).1);obtain⟨ai,k⟩:∃am,dtT X c 0=am:=⟨_,rfl⟩;rw[k] at S hT;have M:=eI S;obtain⟨N,A,aa,b⟩:=afq ai om;have RS:=b.spec;have RI:=b.impl;have P:=eI b;have aq:=b.c0;have ar:=b.c1;go_enter func3,ntmps3;go_wp2_with fail;refine mo (M.out w x) fun w1 s1=> ?_;go_wp2_with fail;refine (RS w1).mono ?_;rintro e C ⟨s,g1,u,rfl,h1,A1,s2⟩;have S2:=s1.tr s2;have sB:=fA C (.cells #[.slice s N u] 25);have bB:=ix.new C (.slice s N u) 25;have V:=S2.tr sB;have A3:=A1.aA sB;go_wp2_with fail;generalize C.alloc _=w3 at*;refine mo (M.out w3 (x.aA V)) fun w4 y=> ?_;have B4:=bB.aA y;have A4:=A3.aA y;have S4:=V.tr y;go_wp2_with fail;refine (RI w4).mono ?_;rintro e D ⟨t,g5,v,rfl,h5,I5,z⟩;have S5:=S4.tr z;have q:=fA D (.cells #[.slice t N v] 25);have L:=ix.new D (.slice t N v) 25;have I:=(B4.aA z).aA q;have F:=(A4.aA z).aA q;have R:=I5.aA q;have W:=S5.tr q;have q1:=I.c0;have q2:=L.c0;by_cases o:aa=0;rotate_left
 . have hN:=P.out.bad o;subst hN;have au:(aa==0)=false:=(by simpa using o);go_wp2;go_ret;exact⟨rfl,W⟩
 obtain⟨f,aw,av,ms,p,l,j⟩:=P.out.good o;have O:=eI (And.intro f (And.intro p (And.intro l j)));have ao:=f.n1;subst o;clear f p l j;go_wp2_with fail;generalize D.alloc _=w6 at*;refine mo (ady om om R F) fun w7 g=> ?_;have Y:=W.tr g;have B7:=I.aA g;have C7:=L.aA g;have A7:=F.aA g;have I7:=R.aA g;have q2:=C7.c0;have U:=aaU t 0 g5 0 N v A w7 (hP.stay Y) om om I7;have k:(open Classical in ay N A)=wG N A:=by unfold ay;rw[aY O.out.1]
 obtain⟨tl,ab⟩:∃an,wG N A=an:=⟨_,rfl⟩;rw[k,ab] at U;have Q:=eI ab;have af:=eI k;go_wp2_with fail;refine mo U fun w8 B=> ?_;have Z:=Y.tr B;have K:=B7.aA B;have G:=A7.aA B;have q1:=K.c0;by_cases hl:100000<tl.length
 . have aj:(100000:Int)<(tl.length:Int):=om;have T:=aaO s 0 g1 0 N u A w8 om om G;rw[af.out,Q.out] at T;go_wp2_with fail;refine mo T fun E i=> ?_;go_wp2;go_ret;exact⟨rfl,Z.tr i⟩
 . have aj:¬(100000:Int)<(tl.length:Int):=om;have RA:RnN ⟨tl.toArray⟩ N A 0:=by
    obtain⟨f,p,l,j⟩:=O.out;have h:=Q.out;subst l j;rw[<-h];exact aj4 p f (by rw[h];omega)
   have JR:=RA.impl w8;go_wp2_with fail;refine JR.mono ?_;rintro e E ⟨a9,g9,c9,rfl,h9,I9,i⟩;have S9:=Z.tr i;have r:=fA E (.cells #[.slice a9 N c9] 25);have ae:=ix.new E (.slice a9 N c9) 25;have ad:=(K.aA i).aA r;have ac:=(G.aA i).aA r;have ag:=I9.aA r;have ah:=S9.tr r;have q1:=ad.c0;have q2:=ae.c0;go_wp2_with fail;refine mo (ady om om ag ac) fun ax al=> ?_;go_wp2;go_ret;exact⟨rfl,ah.tr al⟩
theorem aeh{a:Option Addr}{n m:Nat}{w:World}(d:1048576<n)(f:n<=9223372036854775807):
 Cl 3 #[.slice a n m] w fun e c=>e=.returned (.bool true)/\w.S c:=by
 have h:(1048576:Int)<n:=om;go_enter func3,ntmps3;go_wp2;go_ret;exact⟨rfl,aF _ _⟩
end Go.Proofs.YtinihjgnnlemmaaGreatDoor
