import Derived.Test.YtinihjgnnlemmaaGreatDoorOwnP57
import Derived.Test.YtinihjgnnlemmaaGreatDoorOwnP46
set_option maxHeartbeats 6400000
set_option maxRecDepth 100000
set_option linter.unusedVariables false
namespace Go.Proofs.YtinihjgnnlemmaaGreatDoor
open Tryz Go.RowKit
variable{w v W V:World}{n m c d k i j l o b p q t r s g h e:Nat}{a A B:Option Addr}{X Y Z:Nat->Nat}{G:eQ}
def lnL(g:eQ):List (Nat×Nat×List Rat×List Rat):=(List.range ((gR g).length+1)).map (a1 g)
def cp(g:eQ):Prop:=pg g/\bP g<=20000/\cs (lnL g) (lnL g).length<=3000
theorem vV(G:eQ):(lnL G).length=(gR G).length+1:=by simp[lnL]
theorem al7(G:eQ)(h:n<(lnL G).length):(lnL G).getD n dm=a1 G n:=by
 rw[vV] at h;unfold lnL;rw[List.getD,cY,fK h];rfl
theorem al6(E:pg G):∀k,k<(lnL G).length->((lnL G).getD k dm).1<=6000000/\((lnL G).getD k dm).2.1<=6000000:=fun k a=>by
 rw[al7 G a];rw[vV] at a;refine⟨ait E om _, ?_⟩
 show (kG G).getD k 0<=_
 have h:=af5 E ((kG G).getD k 0) (by
  rw[List.getD,aK (by rw[ad9];omega)];exact jB _)
 omega
def dnW(q:Nat):Nat:=if q % 16=15 then 0 else 1+q % 4
def dnF(X:Nat->Nat)(n C p:Nat):Nat->List (Nat×Nat×List Rat×List Rat)×Nat×Nat
 | 0=>([],C,p)
 | i+1=>
   ((dnF X n C p i).1++[(mpD X n (nP n (dnF X n C p i).2.2) (dnW (nV X n (dnF X n C p i).2.2)) (dnF X n C p i).2.1).1],dnW (nV X n (dnF X n C p i).2.2),(mpD X n (nP n (dnF X n C p i).2.2) (dnW (nV X n (dnF X n C p i).2.2)) (dnF X n C p i).2.1).2)
def dnK(k:Nat):Nat:=if 128<=k then 1+k % 8 else 1+k/2 % 4
def dnB(X:Nat->Nat)(n k p:Nat):List (Nat×Nat×List Rat×List Rat)×Nat:=((dnF X n (1+nV X n p % 4) (nP n p) (dnK k)).1,(dnF X n (1+nV X n p % 4) (nP n p) (dnK k)).2.2)
theorem anF(X:Nat->Nat)(n m c d:Nat):(dnF X n m c d).1.length=d:=by
 induction d with
 | zero=>rfl
 | succ d ih=>rw[dnF];simp[ih]
theorem eU(n:Nat):dnW n<=4:=by unfold dnW;split<;>omega
theorem yi{d:Func}{p:Tmp}(h:d.results= #[.cell p 25])(b:Array Value)(w:World)(n:Nat)(u:Value)
 (e:b.getD p undef=.p n 0)(B:ix w n u):(results d b).run Tryz.prog w=.ok (.agg #[u]) w:=by
 have f:b[p]?.getD undef=.p n 0:=by simpa using e
 have hl:=run_loadVar_mid (P:=Tryz.prog) w n 0 25 [u] _ (fun j v a=>by
  rcases j with _ | j
  . simp at a;subst a;exact B.c0
  . simp at a) underlying25 rfl kr
 simp[results,h,f,asAddr,hl]
def DnR(c:Nat)(a:Option Addr)(b off n cap:Nat)(X:Nat->Nat)(D:List (Nat×Nat×List Rat×List Rat)×Nat)(w:World)(e:Ending)(w':World):Prop:=
 ∃g k,e=.returned (.agg #[.slice (some ⟨g,0,none⟩) D.1.length k])/\D.1.length<=k/\w.heap.size<=g/\g<w'.heap.size/\ML KA w' (fun q=>w.heap.size<=q) (some ⟨g,0,none⟩) g 0 D.1/\Rp w' c a b off n cap X D.2/\il c w w'
def dnQ[∀p:Prop,Decidable p](X:Nat->Nat)(n k p1:Nat):List (Nat×Nat×List Rat×List Rat)×Nat:=
 if k % 2=1 then (if cp (drG X n p1).1 then (lnL (drG X n p1).1,(drG X n p1).2) else dnB X n k (drG X n p1).2) else dnB X n k p1
def dnO[∀p:Prop,Decidable p](X:Nat->Nat)(n p:Nat):List (Nat×Nat×List Rat×List Rat)×Nat:=dnQ X n (nV X n p) (nP n p)
open Classical in
theorem akf{n:Nat}{a:Option Addr}{m c d k:Nat}{X:Nat->Nat}{i:Nat}{w:World}(G:d<=16777216)(bn:Rp w n a m c d k X i):
 Calls Tryz.prog 44 #[.pointer (some ⟨n,0,none⟩)] w fun e w'=>DnR n a m c d k X (dnO X d i) w e w':=by
 have ba:=bn.R.lt;have hX:=eI bn.hX;obtain⟨ad,hD⟩:∃x,dnO X d i=x:=⟨_,rfl⟩;rw[hD];have HD:=eI hD;clear hD;have sA:=fA w (.cells #[.slice none 0 0] 25);have bA:=ix.new w (.slice none 0 0) 25;have RA:=bn.aA sA;have zA:(w.alloc (.cells #[.slice none 0 0] 25)).heap.size=w.heap.size+1:=by simp
 go_enter func44,ntmps44;go_wp2_with fail;generalize w.alloc _=wA at*;refine (jd G RA).mono ?_;rintro e w1 ⟨P,ek,rfl,hv,M,O1⟩;obtain⟨y,a1⟩:∃x,nP d i=x:=⟨_,rfl⟩;rw[a1] at M;have ah:Hid (dnQ X d P y=ad):=eI (by rw[<-HD.out,dnO,ek,a1]);have U:=bA.bR O1 om;have aa:=(il.aD n sA).trans O1;have z1:=O1.size;replace zA:w.heap.size<w1.heap.size:=om;clear ek O1 RA bA sA z1 HD a1 bn;obtain⟨K,hK⟩:∃x,dnK P=x:=⟨_,rfl⟩;have al:=eI hK;have ce:K<=8:=by rw[<-hK];unfold dnK;split<;>omega
 clear hK;go_upto_if 17 with fail;go_cut [4,5,6] (fun _ _ _ wx=>∃ac,Hid (dnB X d P ac=ad)/\ix wx w.heap.size (.slice none 0 0)/\il n w wx/\Rp wx n a m c d k X ac/\w.heap.size<wx.heap.size)
 case first=>
  by_cases h2:P % 2=1;rotate_left
  . have t1:((P:Int) % 2==1)=false:=(by simp;omega);have I:Hid (dnB X d P y=ad):=eI (by rw[<-ah.out,dnQ,aM h2]);go_wp2;go_meet
    case rel=>exact⟨y,I,U,aa,M,zA⟩
  have t1:((P:Int) % 2==1)=true:=by simp;omega
  have JG:=anA G M;have aq:=aou hX.out y;have ai:Hid ((cp (drG X d y).1->(lnL (drG X d y).1,(drG X d y).2)=ad)/\(¬cp (drG X d y).1->dnB X d P (drG X d y).2=ad)):=eI ⟨fun h=>by rw[<-ah.out,dnQ,aY h2,aY h],fun h=>by rw[<-ah.out,dnQ,aY h2,aM h]⟩;obtain⟨b,hd⟩:∃x,(drG X d y).1=x:=⟨_,rfl⟩;obtain⟨p2,bm⟩:∃x,(drG X d y).2=x:=⟨_,rfl⟩;rw[hd,bm] at JG ai;rw[hd] at aq;clear hd bm ah M h2;have V:=eI aq;clear aq;go_wp2_with fail;refine JG.mono ?_;clear JG;rintro e f ⟨bo,rfl,⟨gL,cL,gH,cH,gN,cN,cn,rfl,K2,bc⟩,R2,B⟩;have s3:=fA f (.cells #[.int .i64 b.inn,.int .i64 b.rounds,.slice (some ⟨gL,0,none⟩) b.nl cL,.slice (some ⟨gH,0,none⟩) b.nh cH,.slice (some ⟨gN,0,none⟩) b.nn cN,.int .i64 b.out] 115);have g3:=fO.new f (.int .i64 b.inn) (.int .i64 b.rounds) (.slice (some ⟨gL,0,none⟩) b.nl cL) (.slice (some ⟨gH,0,none⟩) b.nh cH) (.slice (some ⟨gN,0,none⟩) b.nn cN) (.int .i64 b.out) 115;have bi:=V.out.i;have bl:=V.out.l;have o:=V.out.n;have L3:aV _ w1.heap.size b (some ⟨gL,0,none⟩) (some ⟨gH,0,none⟩) (some ⟨gN,0,none⟩) cL cH cN:=(K2.aA s3).gral bc V.out.ni (by unfold I64;omega) (by unfold I64;omega) (by unfold I64;omega) om om om;have D:=(aa.trans B).trans (il.aD n s3);have R3:=R2.aA s3;have A3:=(U.bR B om).aA s3;have z2:=B.size;have z3:=s3.size;obtain⟨q0,q1,q2,q3,q4,q5⟩:=g3.g;clear K2 bc R2 B aa U s3 bi bl o;go_wp2_with fail;generalize f.alloc _=z at*;refine (acK (by have:=V.out.sz;omega) L3).mono ?_;clear q0 q1 q2 q3 q4 q5 L3 g3;rintro e w4 ⟨s4,LR⟩;have O4:=D.trans (il.aD n s4);have E:=R3.aA s4;have A4:=A3.aA s4;have z4:=s4.size;clear D R3 A3;have bq:(∃am,e=.returned (.tuple #[.agg #[.slice none 0 0],.int .i64 am])/\am≠0/\¬cp b)∨(pg b/\bP b<=20000/\∃n P,e=.returned (.tuple #[.agg #[.slice (some ⟨n,0,none⟩) (lnL b).length P],.int .i64 0])/\z.heap.size<=n/\(lnL b).length<=P/\ML KA w4 (fun q=>z.heap.size<=q) (some ⟨n,0,none⟩) n 0 (lnL b)):=by
   rcases LR with ⟨n',X',v,a',hO,hc,he⟩ | ⟨ae,⟨h1,he⟩ | ⟨h1,v,k',he,h2,h3,h4⟩⟩
   . exact .inl ⟨v,he,hc,fun h=>hc (h.1.outc hO).1⟩
   . exact .inl ⟨17,he,om,fun h=>by have:=h.2.1;omega⟩
   . exact .inr ⟨ae,h1,v,k',by rw[vV];exact he,h2,by rw[vV];exact h3,h4⟩
  clear LR;rcases bq with ⟨am,rfl,hc,b3⟩ | ⟨ae,hs,O,ab,rfl,ci,bb,au⟩
  . have cg:(am==0)=false:=(by simpa using hc);have s:=fA w4 (.cells #[.slice none 0 0] 25);have z5:=s.size;have I:=eI (ai.out.2 b3);have HA:=eI (A4.aA s);have Y:=eI (O4.trans (il.aD n s));have A:=eI (E.aA s);clear A4 O4 E s;go_wp2;go_meet
    case rel=>exact⟨p2,I,HA.out,Y.out,A.out,om⟩
  . obtain⟨L,hL⟩:∃x,lnL b=x:=⟨_,rfl⟩;have bf:=vV b;have b7:=tU ae;have bj:=V.out.n;have b1:∀P,P<L.length->(L.getD P dm).1<=6000000/\(L.getD P dm).2.1<=6000000:=(by rw[<-hL];exact al6 ae);have LO:cp b↔cs L L.length<=3000:=(by rw[<-hL];exact⟨fun h=>h.2.2,fun h=>⟨ae,hs,h⟩⟩);rw[hL] at au bb ai bf⊢;have ag:L.length<=20000:=by
     have:999*b.nn<=999*12:=dE _ bj;omega
    have b4:0<L.length:=om;clear hL bf b7 bj V ae hs;have s:=fA w4 (.cells #[.slice (some ⟨O,0,none⟩) L.length ab] 25);have b5:=ix.new w4 (.slice (some ⟨O,0,none⟩) L.length ab) 25;have z5:=s.size;have A5:=A4.aA s;have u:=O4.trans (il.aD n s);have R5:=E.aA s;have av:=au.aA KA.ok s;have q0:=b5.c0;clear A4 O4 E s au;go_wp2_with fail;generalize w4.alloc _=S at*;refine mo (amM _ _ _ ab _ L S ag b1 av) fun w6 s6=> ?_;have z6:=s6.size;have t:=A5.aA s6;have l:=u.trans (il.aD n s6);have R:=R5.aA s6;have aj:=av.aA KA.ok s6;have b6:=b5.aA s6;have b9:=aj;clear A5 u R5 av q0 b5 b9;have y0:=b6.c0;have a0:=t.c0;have af:=t.f 0;by_cases hT:cs L L.length<=3000
    . have bz:(cs L L.length:Int)<=3000:=om;have hD:=ai.out.1 (LO.2 hT);have ar:=eI hD;have bh:O<w6.heap.size:=aj.lt KA.ok b4;have j:Gr (fun q=>q=w.heap.size) w6 _:=Gr.put (T:=fun q=>q=w.heap.size) (Gr.refl _ _) (.inl rfl) 0 (.slice (some ⟨O,0,none⟩) L.length ab);have T:=j.size;have AF:=eI (t.bE (.slice (some ⟨O,0,none⟩) L.length ab));have GW:=eI ((aj.move KA.ok T (fun _=>j.block _ bh om) (fun q g hp=>j.block q g om)).imp KA.ok (p':=fun q=>w.heap.size<=q) (fun q _ g=>by omega));have lF:=eI (aS bh T);have Y:=eI (show il n w _ from⟨j.os.trans l.os,j.tape.trans l.tape,j.output.trans l.output,aU l.size T,fun q g G=>(j.block q om om).trans (l.block q g G)⟩);have A:=eI (R.marked ((eM.refl _ w.heap.size).setCell 0 (.slice (some ⟨O,0,none⟩) L.length ab)) ba);have az:w.heap.size<=O:=om;clear j T aj t l R hD;go_wp2;refine bO (yi rfl _ _ w.heap.size _ rfl AF.out) rfl ?_;rw[<-ar.out];exact⟨O,ab,rfl,bb,az,lF.out,GW.out,A.out,Y.out⟩
    . have bz:¬(cs L L.length:Int)<=3000:=om;have I:=eI (ai.out.2 (fun h=>hT (LO.1 h)));have HA:=eI t;have Y:=eI l;have A:=eI R;clear t l R aj;go_wp2;go_meet
      case rel=>exact⟨p2,I,HA.out,Y.out,A.out,om⟩
 case rest=>
  clear U aa M zA ah;obtain⟨ac,I,U,aa,M,zA⟩:=hcut;clear hX;go_upto_if 38 with fail;go_cut [7] (fun x wx=>x=.int .i64 K/\wx=wc)
  case first=>
   by_cases a6:128<=P
   . have t2:(128:Int)<=P:=om;have t3:1+(P:Int) % 8=(K:Int):=(by have:=al.out;unfold dnK at this;rw[aY a6] at this;omega);go_wp2;go_meet
     case rel=>exact⟨by first | rfl | rw[t3],rfl⟩
   . have t2:¬(128:Int)<=P:=om;have t3:1+(P:Int)/2 % 4=(K:Int):=(by have:=al.out;unfold dnK at this;rw[aM a6] at this;omega);go_wp2;go_meet
     case rel=>exact⟨by first | rfl | rw[t3],rfl⟩
  case rest=>
   obtain⟨rfl,rfl⟩:=hcut;go_wp2_with fail;refine (@jd n a m c d k X ac _ G M).mono ?_;rintro e f ⟨q,eq,rfl,g,R2,B⟩;obtain⟨C,hC⟩:∃x,1+q % 4=x:=⟨_,rfl⟩;have t4:1+(q:Int) % 4=(C:Int):=om;have bu:C<=4:=om;have HD:Hid (ad=((dnF X d C (nP d ac) K).1,(dnF X d C (nP d ac) K).2.2)):=eI (by rw[<-I.out];unfold dnB;rw[eq,hC,al.out]);have A2:=U.bR B om;have a4:=aa.trans B;have z2:=B.size;generalize nP d ac=p2 at*;have gL:GL KA (fun _=>False) (f.alloc (.cells #[] 52)) f.heap.size (.slice (some ⟨f.heap.size,0,none⟩) 0 0) [] []:=GL.new KA _ f;have sB:=fA f (.cells #[] 52);have zB:(f.alloc (.cells #[] 52)).heap.size=f.heap.size+1:=(by simp);have bM:=ix.new (f.alloc (.cells #[] 52)) (.slice (some ⟨f.heap.size,0,none⟩) 0 0) 25;have a2:=(aF _ (f.alloc (.cells #[] 52))).alloc zR (.cells #[.slice (some ⟨f.heap.size,0,none⟩) 0 0] 25);have zM:((f.alloc (.cells #[] 52)).alloc (.cells #[.slice (some ⟨f.heap.size,0,none⟩) 0 0] 25)).heap.size=f.heap.size+1+1:=(by simp);rw[zB] at bM;clear eq hC I al B aa U M;go_wp2;have gM:=gL.aA KA.ok a2;have S3:=sB.trans (sM a2 om);have A3:=A2.aA S3;have R3:=R2.aA S3;have D:=a4.trans (il.aD n S3);generalize (f.alloc _).alloc _=z at*;obtain⟨o,ay⟩:∃x,f.heap.size+1=x:=⟨_,rfl⟩;obtain⟨N,ax⟩:∃x,f.heap.size=x:=⟨_,rfl⟩;have l1:w.heap.size<N/\N<o/\o<z.heap.size:=om;rw[ay,ax] at bM;rw[ax] at gM;rw[ay];clear ay ax zM zB gL sB a2 S3 R2 A2 a4 zA z2 t4;go_loopw [8,10] (fun bo q wr=>∃(p H p':Nat) (L:List (AfQ)),p<=K/\q=.int .i64 p/\bo=.int .i64 H/\H<=4/\L.length=p/\Hid (dnF X d C p2 p=(L,H,p'))/\Gr (fun q=>q=o∨q=N∨q=n) z wr/\Rp wr n a m c d k X p'/\∃r k1 x1,ix wr o (.slice (some ⟨r,0,none⟩) p k1)/\(r=N∨z.heap.size<=r)/\GL KA (fun q=>z.heap.size<=q) wr N (.slice (some ⟨r,0,none⟩) p k1) L x1) (fun _ q _=>K-(intOf q).toNat)
   case atStart=>exact⟨0,C,p2,[],aJ _,rfl,rfl,bu,rfl,eI rfl,Gr.refl _ _,R3,N,0,[],bM,.inl rfl,⟨gM.own,fun p x hx=>by simp at hx⟩⟩
   case round=>
    obtain⟨p,H,p',L,hi,rfl,rfl,cd,ag,HF,F,E,r,ak,x1,M1,ch,G1⟩:=hrel;clear R3 bM gM;have b8:=G1.lt;have zg:=F.size;by_cases cj:p<K
    . have hz:(p:Int)<K:=om;go_wp2_with fail;refine (@jd n a m c d k X p' wr G E).mono ?_;rintro e S ⟨q5,a5,rfl,cl,R5,u⟩;obtain⟨W,hW⟩:∃x,dnW q5=x:=⟨_,rfl⟩;have b0:W<=4:=(by rw[<-hW];exact eU _);have a3:Hid (dnF X d C p2 (p+1)=(L++[(mpD X d (nP d p') W H).1],W,(mpD X d (nP d p') W H).2)):=eI (by rw[dnF,HF.out];simp only[a5,hW]);have M5:=M1.bR u om;have g5:Gr (fun q=>q=n) wr S:=⟨u.os,u.tape,u.output,u.size,fun q g h=>u.block q g h⟩;have G5:=G1.gr KA.ok g5 (fun m hb=>by simp[Value.ownBlock] at hb;omega) (fun q g hp=>by omega);have z5:=u.size;have a9:=eI hW;clear a5 hW E M1 G1 u HF;by_cases ao:q5 % 16=15
      focus
       have r1:((q5:Int) % 16==15)=true:=(by simp;omega);have r2:(W:Int)=0:=(by have:=a9.out;unfold dnW at this;rw[aY ao] at this;omega);have HV:=eI r2;clear r2 ao;go_wp2_with fail
      rotate_left
      focus
       have r1:((q5:Int) % 16==15)=false:=(by simp;omega);have r2:1+(q5:Int) % 4=(W:Int):=(by have:=a9.out;unfold dnW at this;rw[aM ao] at this;omega);have HV:Hid ((W:Int)=W):=eI rfl;clear ao;go_wp2_with fail
      rotate_left
      all_goals
       have dr:=uB S;have zd:S.drew.heap.size=S.heap.size:=rfl;have Md:=M5.aA dr;have G6:=G5.aA KA.ok dr;have JM:=@akg n a m c d k X _ W H S.drew G (R5.aA dr) om om;obtain⟨DM,a7⟩:∃x,mpD X d (nP d p') W H=x:=⟨_,rfl⟩;rw[a7] at JM a3
       (try rw[HV.out] at JM)
       clear a7;refine jZ 9 (fun w'=>w'.cell? ⟨o,0,none⟩=some (.slice (some ⟨r,0,none⟩) p ak)) kr Md.c0 (fun bw=> ?_);refine vX 0 61 ?_;refine vX 1 62 ?_;refine vX 2 63 ?_;refine vX 3 64 ?_;refine vX 4 65 ?_;refine sX 5 fun Z Q=> ?_;go_simp;go_wp2_with (go_at_call 74;(with_reducible refine JM.mono ?_);rintro e w6 ⟨cw,kw,cb,kb,rfl,v1,v2,v3,v4,v5,v6,MW,MB,R,l⟩);have g6:Gr (fun q=>q=n) S.drew w6:=⟨l.os,l.tape,l.output,l.size,fun q g h=>l.block q g h⟩;have z6:=g6.size;have sV:=fA w6 (.cells #[.int .i64 (DM.1.1:Int),.int .i64 (DM.1.2.1:Int),.slice (some ⟨cw,0,none⟩) DM.1.2.2.1.length kw,.slice (some ⟨cb,0,none⟩) DM.1.2.2.2.length kb] 52);have M6:=Md.bR l om;have G7:=G6.gr KA.ok g6 (fun m hb=>by simp[Value.ownBlock] at hb;omega) (fun q g hp=>by omega);refine Q.out _ _ (fun _=>M6.c0) ?_;clear Q Z bw;refine sX 6 fun Z Q=> ?_;go_simp;have M7:=M6.aA sV;refine Q.out _ _ (fun _=>M7.c0) ?_;clear Q Z;refine sX 7 fun Z Q=> ?_;refine oH (m:=1) KA.ok (G7.aA KA.ok sV) ag (ML.one (p:=fun q=>(fun q=>z.heap.size<=q) q/\q≠r) KA.ok (c:=[.int .i64 (DM.1.1:Int),.int .i64 (DM.1.2.1:Int),.slice (some ⟨cw,0,none⟩) DM.1.2.2.1.length kw,.slice (some ⟨cb,0,none⟩) DM.1.2.2.2.length kb]) (x:=DM.1) ⟨cw,kw,cb,kb,rfl,v1,v2,⟨om,om⟩,⟨om,om⟩,v5,v6,MW.imp KQ.ok (fun q _ g=>⟨om,om⟩),MB.imp KQ.ok (fun q _ g=>⟨om,om⟩)⟩ 52) rfl rfl _ _ rfl rfl rfl om ?_;rintro v k' w' ⟨⟨cc,G'⟩,an,cf,ck⟩;have M8:=M7.blk1 (ig an M7.lt om);refine Q.out _ _ (fun _=>M8.c0) ?_;clear Q Z;refine sX 8 fun Z Q=> ?_;go_simp;refine Q.out _ _ (fun _=>M8.c0) ?_;clear Q Z;refine sX 9 fun Z Q=> ?_;have ca:=M8.c0;have bs:=M8.f 0;go_simp;refine Q.out _ _ (fun h=>absurd rfl h) ?_;clear Q Z ca bs;refine mZ kr ?_ _;have hg:Gr (fun q=>q=o∨q=N∨q=n) z (w'.setCell ⟨o,0,none⟩ (.slice (some ⟨v,0,none⟩) (p+1) k')):=(((((F.trans g5 (fun q _ e=>.inr (.inr e))).trans (Gr.of dr) (T':=fun _=>False) (fun _ _ h=>h.elim)).trans g6 (fun q _ e=>.inr (.inr e))).trans (Gr.of sV) (T':=fun _=>False) (fun _ _ h=>h.elim)).trans (Gr.gb an) (fun q g e=>by omega)).put (.inl (.inl rfl)) 0 _;have hM:=M8.bE (.slice (some ⟨v,0,none⟩) (p+1) k');have hG:=G'.gr KA.ok (T:=fun q=>q=o) (Gr.put (T:=fun q=>q=o) (Gr.refl _ _) (.inl rfl) 0 (.slice (some ⟨v,0,none⟩) (p+1) k')) (fun m hb=>by simp[Value.ownBlock] at hb;have:=sV.size;omega) (fun q _ g=>by omega);have a8:Rp (w'.setCell ⟨o,0,none⟩ (.slice (some ⟨v,0,none⟩) (p+1) k')) n a m c d k X DM.2:=((R.aA sV).grown an (fun q e=>by simp at e;omega)).marked ((eM.refl _ o).setCell 0 _) om;have HG:=eI hg;have HM:=eI hM;have bp:=eI hG;have A:=eI a8;have b2:v=N∨z.heap.size<=v:=(by have:=sV.size;omega);clear hg hM hG a8 an G' M8 M7 M6 G7 G6 Md R g6 MW MB F g5;go_wp2;go_roundw
       case rel=>exact⟨p+1,W,DM.2,L++[DM.1],om,by go_num,(by first | rfl | rw[HV.out]),b0,by simp[ag],a3,HG.out,A.out,v,k',cc,HM.out,b2,bp.out⟩
       case measure=>exact yI
    . obtain rfl:p=K:=om;have cm:¬((p:Int)<p):=om;have br:=G1.cap;have m0:=M1.c0;have t:=A3.blk1 (F.block _ A3.lt om);have a0:=t.c0;have af:=t.f 0;have AF:=eI (t.bE (.slice (some ⟨r,0,none⟩) p ak));have j:Gr (fun q=>q=w.heap.size) wr _:=Gr.put (T:=fun q=>q=w.heap.size) (Gr.refl _ _) (.inl rfl) 0 (.slice (some ⟨r,0,none⟩) p ak);have T:=j.size;have z3:=D.size;have GW:=eI (((G1.gr KA.ok j (fun m hb=>by simp[Value.ownBlock] at hb;omega) (fun q _ g=>by omega)).ml KA.ok).imp KA.ok (p':=fun q=>w.heap.size<=q) (fun q _ g=>by have:=g.1;omega));have lF:=eI (aS b8.2 T);have Y:=eI (show il n w _ from⟨j.os.trans (F.os.trans D.os),j.tape.trans (F.tape.trans D.tape),j.output.trans (F.output.trans D.output),aU (show w.heap.size<=wr.heap.size by omega) T,fun q g G=>(j.block q om om).trans ((F.block q om om).trans (D.block q g G))⟩);have A:=eI (E.marked ((eM.refl _ w.heap.size).setCell 0 (.slice (some ⟨r,0,none⟩) p ak)) ba);have aw:=HD.out;rw[HF.out] at aw;have ar:=eI aw;have az:w.heap.size<=r:=om;clear j T G1 F M1 t A3 D E aw;go_wp2;refine bO (yi rfl _ _ w.heap.size _ rfl AF.out) rfl ?_;rw[ar.out];exact⟨r,ak,by rw[ag],by rw[ag];exact br,az,lF.out,GW.out,A.out,Y.out⟩
def chB(k q:Nat)(s:ByteArray):ByteArray:=
 if s.size=0 then ⟨#[45]⟩
 else if k % 3=0 then s.extract 0 (q % s.size)++s.extract (q % s.size+1) s.size
 else if k % 3=1 then s.extract 0 (q % s.size+1)++s.extract (q % s.size) s.size
 else s.extract 0 (q % s.size)++a7 (k/3)++s.extract (q % s.size+1) s.size
def chT(X:Nat->Nat)(n p:Nat)(s:ByteArray):ByteArray:=chB (nV X n p) (nV X n (nP n p)*256+nV X n (nP n (nP n p))) s
theorem yK(s:ByteArray)(n m:Nat):(s.extract n m).size<=s.size:=by rw[ByteArray.size_extract];omega
theorem anN(n m:Nat)(s:ByteArray):(chB n m s).size<=2*s.size+2:=by
 have a:=afv (n/3);have e:=yK s;unfold chB;repeat' split
 . show 1<=_;omega
 all_goals
  simp only[ByteArray.size_append];have:=e 0 (m % s.size);have:=e 0 (m % s.size+1);have:=e (m % s.size) s.size;have:=e (m % s.size+1) s.size;omega
def Rq(w:World)(c:Nat)(a:Option Addr)(b off n cap:Nat)(X:Nat->Nat)(p:Nat):Prop:=
 Rp w c a b off n cap X p∨(n<p/\p<=1000/\w.cell? ⟨c,0,none⟩=some (.slice a n cap)/\w.cell? ⟨c,1,none⟩=some (.int .i64 (p:Int)))
theorem Rp.put(h:Rp w n a b m c d X k)(i:Nat)(f:i<=c):Rp (w.setCell ⟨n,1,none⟩ (.i (i:Int))) n a b m c d X i:=by
 have M:=(eM.refl w n).setCell 1 (.i (i:Int));have O:=il.bL M;have e:(w.setCell (jj n 1) (.i (i:Int))).cell? (jj n 1)=some (.i (i:Int)):=aQ _ _ _ h.at_;exact⟨⟨by rw[lM];exact h.R.c0,⟨i,f,e⟩,fun g=>by rw[M.frozen];exact h.R.f g,h.R.code.bR O h.R.ne,h.R.ne⟩,f,e,h.bl⟩
theorem Rp.putq(h:Rp w n a m c d k X i)(j:Nat)(g:j<=1000):Rq (w.setCell ⟨n,1,none⟩ (.i (j:Int))) n a m c d k X j:=by
 by_cases f:j<=d
 . exact .inl (h.put j f)
 . exact .inr ⟨om,g,by rw[lM];exact h.R.c0,aQ _ _ _ h.at_⟩
theorem eK{n:Nat}{a:Option Addr}{m c d k:Nat}{X:Nat->Nat}{i:Nat}{w:World}(r:d<=16777216)(R:Rq w n a m c d k X i):
 Cl 43 #[.p n 0] w fun e b=>∃v:Nat,nV X d i=v/\e=.returned (.i v)/\v<256/\Rq b n a m c d k X (nP d i)/\il n w b:=by
 rcases R with R | ⟨o,q,s,t⟩
 . exact (jd r R).mono fun e b ⟨v,f,j,h,l,p⟩=>⟨v,f,j,h,.inl l,p⟩
 unfold nV nP;have g:¬i<d:=om;rw[aM g,aM g];go_enter func43,ntmps43;go_wp2;go_quiet (fail);go_wp2;go_ret;exact⟨0,rfl,rfl,om,.inr ⟨o,q,by rw[((Same.refl w).drewN _).cell];exact s,by rw[((Same.refl w).drewN _).cell];exact t⟩,il.cI n ((Same.refl _).drewN _)⟩
theorem amv{s:ByteArray}(hs:s.size<=2000000000000)(z:d<=16777216)(R:Rq w n a m c d k X i):
 Cl 47 #[.string s,.p n 0] w fun e w'=>e=.returned (.string (chT X d i s))/\il n w w':=by
 have j:∀b x y,nV X d i=b->nV X d (nP d i)=x->nV X d (nP d (nP d i))=y->chT X d i s=chB b (x*256+y) s:=fun b x y h1 h2 h3=>by unfold chT;rw[h1,h2,h3]
 have B:=eI j;obtain⟨T,j⟩:∃ac,chT X d i s=ac:=⟨_,rfl⟩;rw[j];have C:=eI j;go_enter func47,ntmps47;go_wp2_with fail;refine (eK z R).mono ?_;rintro e w1 ⟨b,M,rfl,hk,I,F⟩;have A:=eI M;go_wp2_with fail;refine (eK z I).mono ?_;rintro e w2 ⟨x,O,rfl,hx,K,G⟩;have D:=eI O;go_wp2_with fail;refine (@eK n a m c d k X _ w2 z K).mono ?_;rintro e w3 ⟨y,P,rfl,hy,R3,H⟩;have g:Hid (T=chB b (x*256+y) s):=eI (by rw[<-C.out];exact B.out b x y A.out D.out P);have r:=(F.trans G).trans H;obtain⟨Q,S⟩:∃Q,x*256+y=Q:=⟨_,rfl⟩;rw[S] at g;have ae:(x:Int)*256+(y:Int)=Q:=om;have af:Q<65536:=om;by_cases p:s.size=0
 . have z0:((s.size:Int)==0)=true:=(by simp[p]);have f:Hid (T=⟨#[45]⟩):=eI (by rw[g.out];unfold chB;rw[aY p]);go_wp2;go_ret;exact⟨by rw[f.out];rfl,r⟩
 have z0:((s.size:Int)==0)=false:=by simp[p]
 obtain⟨N,u⟩:∃N,s.size=N:=⟨_,rfl⟩;obtain⟨q,o⟩:∃q,Q % N=q:=⟨_,rfl⟩;have ag:q<N:=by rw[<-o];exact iS _ om
 have ab:(Q:Int) % (N:Int)=q:=by rw[<-o];simp
 have ah:(Q:Int).tmod (N:Int)=q:=by rw[Int.tmod_eq_emod_of_nonneg om];exact ab
 have f1:(q:Int)<=N:=om;have f2:(q:Int)+1<=(N:Int):=om;have f3:(0:Int)<=q:=om;have f4:(0:Int)<=q+1:=om;have x1:=yK s 0 q;have x2:=yK s 0 (q+1);have x3:=yK s q s.size;have W:=yK s (q+1) s.size;rw[u] at x3 W;by_cases U:b % 3=0
 . have k0:((b:Int) % 3==0)=true:=(by simp;omega);have f:Hid (T=s.extract 0 q++s.extract (q+1) N):=eI (by rw[g.out];unfold chB;rw[aM p,aY U,u,o]);clear p U g;go_wp2;go_quiet (fail);go_wp2;go_ret;exact⟨by rw[f.out];rfl,r.trans (il.cI n ((Same.refl _).drewN _))⟩
 have k0:((b:Int) % 3==0)=false:=by simp;omega
 by_cases t:b % 3=1
 . have k1:((b:Int) % 3==1)=true:=(by simp;omega);have f:Hid (T=s.extract 0 (q+1)++s.extract q N):=eI (by rw[g.out];unfold chB;rw[aM p,aM U,aY t,u,o]);clear p U t g;go_wp2;go_quiet (fail);go_wp2;go_ret;exact⟨by rw[f.out];rfl,r.trans (il.cI n ((Same.refl _).drewN _))⟩
 have k1:((b:Int) % 3==1)=false:=by simp;omega
 have ol:=afv (b/3);obtain⟨l,v⟩:∃x,b/3=x:=⟨_,rfl⟩;have f:Hid (T=s.extract 0 q++a7 l++s.extract (q+1) N):=eI (by rw[g.out];unfold chB;rw[aM p,aM U,aM t,u,o,v]);have kt:(b:Int).tdiv 3=(l:Int):=by rw[qT om];omega
 have E:=@apR l w3.drew om;rw[v] at ol;generalize a7 l=V at*;generalize ai:s.extract 0 q=Y at*;have u1:¬9223372036854775807<Y.size+V.size:=om;obtain⟨L,ak⟩:∃x,q+1=x:=⟨_,rfl⟩;rw[ak] at f W;have wq:IntKind.i64.wrap ((q:Int)+1)=(L:Int):=by rw[show (q:Int)+1=(L:Int) by omega];exact gU om om
 have wk:IntKind.i64.wrap (l:Int)=l:=gU om om;have y1:(0:Int)<=L:=om;have y2:(L:Int)<=N:=om;have u2:¬9223372036854775807<Y.size+V.size+(s.extract L N).size:=om;generalize aj:s.extract L N=s2 at*;go_wp2_with fail;refine jZ 12 (fun _=>True) kr trivial (fun ad=> ?_);refine vX 0 44 ?_;refine vX 1 45 ?_;refine vX 2 46 ?_;refine vX 3 47 ?_;refine vX 4 48 ?_;refine vX 7 51 ?_;refine vX 8 52 ?_;refine vX 9 53 ?_;refine vX 10 54 ?_;refine sX 5 fun Z h=> ?_;go_simp;go_wp2_with (go_at_call 78;with_reducible refine mo E fun w4 s4=> ?_);refine h.out _ _ (fun _=>trivial) ?_;refine vX 6 50 ?_;refine sX 11 fun Z h=> ?_;go_simp;refine h.out _ _ (fun _=>trivial) ?_;refine sX 12 fun Z h=> ?_;go_simp;refine h.out _ _ (fun aa=>absurd rfl aa) ?_;refine mZ kr ?_ _;go_wp2;go_ret;exact⟨by rw[f.out];rfl,(r.trans (il.cI n ((Same.refl _).drewN 1))).trans (il.cI n s4)⟩
def dlF(P:Nat->ByteArray)(p k:Nat):Nat->ByteArray
 | 0=>⟨#[]⟩
 | i+1=>
   if i=p/\k % 3=0 then dlF P p k i
   else if i=p/\k % 3=1 then (if 0<i/\(dlF P p k i).toList.isEmpty=false then dlF P p k i++⟨#[10]⟩ else dlF P p k i)++P i++⟨#[10]⟩++P i
   else (if 0<i/\(dlF P p k i).toList.isEmpty=false then dlF P p k i++⟨#[10]⟩ else dlF P p k i)++P i
def lnF(s:ByteArray)(i:Nat):ByteArray:=(jP 10 s).getD i ⟨#[]⟩
def dlT(s:ByteArray)(k:Nat):ByteArray:=
 if k % 3=2 then dlF (lnF s) (k/3 % (jP 10 s).length) k (jP 10 s).length++lnF s (k/3 % (jP 10 s).length)
 else dlF (lnF s) (k/3 % (jP 10 s).length) k (jP 10 s).length
def sZ(P:Nat->ByteArray):Nat->Nat
 | 0=>0
 | i+1=>sZ P i+(P i).size
theorem aiG(P:Nat->ByteArray)(n m c:Nat):(dlF P n m c).size<=2*sZ P c+2*c:=by
 induction c with
 | zero=>exact aJ _
 | succ c ih=>
   have a:(⟨#[10]⟩:ByteArray).size=1:=rfl;unfold dlF sZ;repeat' split
   all_goals
    (try simp only[ByteArray.size_append])
    omega
theorem aiJ(c:UInt8):∀l,((lV c l).map List.length).sum<=l.length
 | []=>by simp[lV]
 | x::xs=>by
   have h:=aiJ c xs;unfold lV
   split
   . simp;omega
   . cases e:lV c xs with
     | nil=>simp
     | cons q qs=>
       rw[e] at h;simp only[dG,qI,fS] at h⊢;omega
theorem amQ(L:List ByteArray):∀i,i<=L.length->sZ (fun i=>L.getD i ⟨#[]⟩) i<=(L.map ByteArray.size).sum:=by
 induction L with
 | nil=>intro i a;rw[show i=0 by simpa using a];exact aJ _
 | cons x L ih=>
   intro i a;have b:∀i,sZ (fun i=>(x::L).getD i ⟨#[]⟩) (i+1)=x.size+sZ (fun i=>L.getD i ⟨#[]⟩) i:=by
    intro i
    induction i with
    | zero=>simp[sZ]
    | succ i ih2=>rw[sZ,ih2,sZ];simp;omega
   cases i with
   | zero=>exact aJ _
   | succ i=>
     rw[b,dG,qI];have:=ih i (by simpa using a);omega
theorem akH(s:ByteArray)(n:Nat)(c:n<=(jP 10 s).length):sZ (lnF s) n<=s.size:=by
 have b:=amQ (jP 10 s) n c;have a:=aiJ 10 s.data.toList;rw[<-Lib.size_eq] at a;refine aU b (aU (Nat.le_of_eq ?_) a);unfold jP;rw[sU];congr 1
theorem ai0(s:ByteArray)(n:Nat):(lnF s n).size<=s.size:=by
 unfold lnF;rw[List.getD];rcases jI n (jP 10 s).length with h | h
 . rw[aK h];exact xF (jB h)
 . rw[dJ h];exact aJ _
theorem apn{s:ByteArray}{n:Nat}{w:World}(hs:s.size<=2000000000000)(hk:n<256):
 Cl 46 #[.string s,.i (n:Int)] w fun e l=>e=.returned (.string (dlT s n))/\w.S l:=by
 have m:Cl 33 #[.string s,.int .u8 10,.int .u8 10] w fun e l=>∃v,e=.returned v/\l.ownsRow w.heap.size 9 1 v (jP 10 s).length ((jP 10 s).map Value.string)/\w.S l:=cf om;have K:=cc 10 s;have V:=pm 10 s;have I:=ai0 s;have y:∀p i,i<=(jP 10 s).length->(dlF (lnF s) p n i).size<=4*s.size+2:=fun p i b=>by have Y:=aiG (lnF s) p n i;have Z:=akH s i b;omega
 have h:∀i,i<(jP 10 s).length->((jP 10 s).map Value.string)[i]?=some (.string (lnF s i)):=fun i b=>by rw[cY,aK b,lnF,List.getD,aK b];rfl
 unfold dlT;obtain⟨N,r⟩:∃x,(jP 10 s).length=x:=⟨_,rfl⟩;obtain⟨xs,H⟩:∃x,(jP 10 s).map Value.string=x:=⟨_,rfl⟩;rw[r,H] at m h;rw[r] at K V y⊢;generalize lnF s=P at*;obtain⟨p,f⟩:∃p,n/3 % N=p:=⟨_,rfl⟩;rw[f];have ac:p<N:=by rw[<-f];exact iS _ K
 have LM:=eI I;have E:=eI (y p);have B:=eI h;have T:((n:Int)/3).tmod (N:Int)=p:=by rw[Int.tmod_eq_emod_of_nonneg om,<-f];simp
 clear I y h r H f;go_enter func46,ntmps46;go_wp2_with fail;refine m.mono ?_;rintro e M ⟨v,rfl,O,L⟩;obtain⟨g,W,rfl,aa,k⟩:=O.form om;have F:∀i,i<N->M.cell? (jj g i)=some (.string (P i)):=fun i b=>by have:= @World.ownsRow.cells _ _ _ _ _ _ _ O g rfl _ _ (B.out i b);rw[Go.WideShapes.add_plain] at this;simpa using this
 have C:=eI F;clear F m B O;have np:(N:Int)≠0:=om;go_wp2;go_loopw [7,8] (fun u i wr=>∃(j:Nat) (o:ByteArray),j<=N/\i=.i (j:Int)/\u=.string o/\Hid (dlF P p n j=o)/\wr=M) (fun _ i _=>N-(intOf i).toNat)
 case atStart=>exact⟨0,_,aJ _,rfl,rfl,eI rfl,rfl⟩
 case round=>
  obtain⟨j,o,G,rfl,rfl,c,rfl⟩:=hrel;by_cases S:j<N
  . have hz:(j:Int)<N:=om;have q:=C.out j S;have A:=LM.out j;have z:=E.out j G;rw[c.out] at z;obtain⟨t,a⟩:∃t,P j=t:=⟨_,rfl⟩;rw[a] at q A;have D:Hid (dlF P p n (j+1)=if j=p/\n % 3=0 then o else if j=p/\n % 3=1 then (if 0<j/\o.toList.isEmpty=false then o++⟨#[10]⟩ else o)++t++⟨#[10]⟩++t else (if 0<j/\o.toList.isEmpty=false then o++⟨#[10]⟩ else o)++t):=eI (by rw[dlF,c.out,a]);clear a T;by_cases e:j=p
    . subst e;go_wp2
      all_goals
       go_roundw
       case rel=>
        refine⟨j+1,_,om,by go_num,rfl,eI ?_,trivial⟩;rw[D.out];repeat' split
        all_goals first | rfl | omega | (simp_all;done) | (simp_all;omega)
       case measure=>exact yI
    . have X:¬(j:Int)=p:=om;go_wp2
      all_goals
       go_roundw
       case rel=>
        refine⟨j+1,_,om,by go_num,rfl,eI ?_,trivial⟩;rw[D.out,aM om,aM om];repeat' split
        all_goals first | rfl | omega | (simp_all;done) | (simp_all;omega)
       case measure=>exact yI
  . obtain rfl:j=N:=om;have ad:¬((j:Int)<j):=om;have q:=C.out p om;have A:=LM.out p;have z:=E.out j G;rw[c.out] at z;obtain⟨t,a⟩:∃t,P p=t:=⟨_,rfl⟩;rw[a] at q A;have R:=eI a;clear a;by_cases d:n % 3=2
    . have U:((n:Int) % 3==2)=true:=(by simp;omega);have Q:=eI d;clear d;go_wp2;go_ret;exact⟨by rw[c.out,R.out];rfl,L⟩
    . have U:((n:Int) % 3==2)=false:=(by simp;omega);have Q:=eI d;clear d;go_wp2;go_ret;exact⟨by rw[c.out];rfl,L⟩
def lgB(n k:Nat):List UInt8:=(List.range n).map fun i=>UInt8.ofNat (48+(k+i*i+i/7) % 10)
theorem al8(n m:Nat):lgB (n+1) m=lgB n m++[UInt8.ofNat (48+(m+n*n+n/7) % 10)]:=by simp[lgB,gY]
theorem apc(P:n<=1000)(a:m<256):
 Cl 48 #[.i (n:Int),.i (m:Int)] w fun e I=>e=.returned (.string ⟨(lgB n m).toArray⟩)/\w.S I:=by
 obtain⟨D,q,A,B,C⟩:=kT bN;have G:=fA w (.o #[] 5);have E:(w.alloc (.o #[] 5)).ownsRow w.heap.size 5 1 (.s w.heap.size 0 0) 0 (Lib.byteCells []):=iP w #[] 0 zR (aJ _) rfl;go_enter func48,ntmps48;go_wp2;go_loopw [5,6] (fun u i wr=>∃j:Nat,j<=n/\i=.i (j:Int)/\w.S wr/\Hid (u≠ .n)/\wr.ownsRow w.heap.size 5 1 u j (Lib.byteCells (lgB j m))) (fun _ i _=>n-(intOf i).toNat)
 case atStart=>exact⟨0,aJ _,rfl,G,eI qz,E⟩
 case round=>
  obtain⟨j,R,rfl,s,t,O⟩:=hrel;by_cases S:j<n
  . have U:(j:Int)<n:=om;obtain⟨F,hF⟩:∃F,j*j=F:=⟨_,rfl⟩;have M:F<=1000000:=(by rw[<-hF];exact dF (show j<=1000 by omega) (show j<=1000 by omega));have K:(j:Int)*(j:Int)=F:=(by rw[<-hF,dR]);obtain⟨x,y⟩:∃x,48+(m+F+j/7) % 10=x:=⟨_,rfl⟩;have L:48+((m:Int)+(F:Int)+(j:Int)/7) % 10=(x:Int):=om;have z:x<256:=om;have d:Hid (lgB (j+1) m=lgB j m++[UInt8.ofNat x]):=eI (by rw[al8,hF,y]);have l:Hid ((UInt8.ofNat x).toNat=x):=eI (by rw[UInt8.toNat_ofNat'];exact iC z);have T:=s.size;go_wp2_with (at_builtin;refine gK _ rfl _ _ 22 rfl w.heap.size 5 D (.int .u8 0) 1 1 underlying22 q A B C rfl qd _ _ _ rfl (O.alloc _) (jj wr.heap.size 0) 1 1 [.int .u8 x] rfl rfl (iq _ _ _) (one_one _ rfl) (by unfold maxLen;omega) om (by simp;omega) ?_);intro H b v o r;have k:w.S b:=(s.alloc s.size _).grown o (by simp;omega) (fun m a=>(O.lt m a).1);have f:=eI r;have h:b.ownsRow w.heap.size 5 1 H (j+1) (Lib.byteCells (lgB (j+1) m)):=by
     rw[show Lib.byteCells (lgB (j+1) m)=Lib.byteCells (lgB j m)++[.int .u8 x] by rw[d.out];simp[Lib.byteCells,l.out]];exact v
    go_wp2;go_roundw
    case rel=>exact⟨j+1,om,by go_num,k,f,h⟩
    case measure=>exact yI
  . obtain rfl:j=n:=om;have V:¬((j:Int)<j):=om;obtain⟨g,c,rfl,Q⟩:=og O t.out (show j=(lgB j m).length by simp[lgB]);go_wp2;go_ret;exact⟨rfl,s⟩
end Go.Proofs.YtinihjgnnlemmaaGreatDoor
