import Derived.Test.YtinihjgnnlemmaaGreatDoorOwnP51
import Derived.Lib.ConvBytes
import Derived.Test.YtinihjgnnlemmaaGreatDoorOwnP38
set_option maxHeartbeats 6400000
set_option maxRecDepth 100000
set_option linter.unusedVariables false
namespace Go.Proofs.YtinihjgnnlemmaaGreatDoor
open Tryz Go.RowKit
variable{w v W V:World}{n m c d k i j l o b p q t r s g h e:Nat}{a A B:Option Addr}{X Y Z:Nat->Nat}{u U:Value}{z y:Int}{Q:Rat}{R:fZ}
def fZ.dH(r:fZ):List UInt8:=jG r.neg (lv r.X r.n) (lv r.Y r.m)
def mO(V:Nat->fZ):Nat->List UInt8
 | 0=>[]
 | n+1=>mO V n++(32::(V n).dH)
def ty(V:Nat->fZ)(n:Nat):List (List UInt8):=(List.range n).map fun i=>(V i).dH
theorem adp(V:Nat->fZ)(n:Nat):ty V (n+1)=ty V n++[(V n).dH]:=by simp[ty,gY]
theorem uO(V:Nat->fZ)(n:Nat):(ty V n).length=n:=by simp[ty]
theorem uG(c:List UInt8)(a b:List (List UInt8)):Lib.joinTail c (a++b)=Lib.joinTail c a++Lib.joinTail c b:=by simp[Lib.joinTail]
theorem acV(V:Nat->fZ)(n:Nat):Lib.joinTail [32] (ty V n)=mO V n:=by
 induction n with
 | zero=>rfl
 | succ n ih=>rw[adp,uG,ih];simp[Lib.joinTail,mO]
def iz(z:Int):List UInt8:=Lib.decDigits z.toNat
theorem alL(h:0<=z):Lib.itoa z=iz z:=by unfold Lib.itoa iz;rw[aM om]
theorem nI(h:z<=9223372036854775807):(iz z).length<=65:=by
 unfold iz;rw[Lib.decDigits_length];exact xJ om
theorem aor(h:∀j,j<n->X j<4294967296):(Lib.decDigits (lv X n)).length<=32*n+1:=by
 rw[Lib.decDigits_length];have:=xJ (kI X n h);omega
theorem ahW(h:R.lim):R.dH.length<=32*(R.n+R.m)+4:=by
 unfold fZ.dH jG;have c:=aor h.1;have d:=aor h.2;rw[aT,aT];have a:(if R.neg=true then [45] else ([]:List UInt8)).length<=1:=by split<;>simp
 have b:(if lv R.Y R.m=1 then ([]:List UInt8) else 47::Lib.decDigits (lv R.Y R.m)).length<=32*R.m+2:=by
  split
  . simp
  . simp only[fS];omega
 omega
theorem afb{V:Nat->fZ}(h:∀c,c<n->(V c).lim):(mO V n).length<=32*nU V n+5*n:=by
 induction n with
 | zero=>simp[mO]
 | succ n ih=>
   have a:=ih (fun c d=>h c om);have b:=ahW (h n om);have e:nU V (n+1)=nU V n+((V n).n+(V n).m):=rfl;rw[mO,aT,fS,e];omega
def a2(d:ic)(r:Nat):Nat->fZ:=fun j=>d.W (r*d.cols.toNat+j)
def re(d:ic)(r:Nat):List (List UInt8):=ty (a2 d r) d.cols.toNat++[(d.B r).dH]
def bH(d:ic)(r:Nat):List UInt8:=Lib.join (re d r) [32]++[10]
def l8(d:ic):Nat->List UInt8
 | 0=>[]
 | r+1=>l8 d r++bH d r
def aE(d:ic):List UInt8:=[109,97,112,32]++(iz d.rows++(32::(iz d.cols++[10])))
def oq(A:Nat->ic):Nat->List UInt8
 | 0=>[]
 | k+1=>oq A k++(aE (A k)++l8 (A k) (A k).rows.toNat)
def uZ(n:Nat):List UInt8:=[110,101,116,32]++(iz (n:Int)++[10])
def wG(n:Nat)(A:Nat->ic):List UInt8:=uZ n++oq A n
theorem adz(d:ic)(n:Nat):mO (a2 d n) d.cols.toNat++(32::(d.B n).dH)++[10]=32::bH d n:=by
 have h:∀L:List (List UInt8),∀t,Lib.joinTail [32] (L++[t])=32::Lib.join (L++[t]) [32]:=fun L t=>by
  cases L with
  | nil=>simp[Lib.joinTail,Lib.join]
  | cons x xs=>rw[mY,Lib.join_cons];simp[Lib.joinTail]
 have e:=h (ty (a2 d n) d.cols.toNat) (d.B n).dH;rw[uG,acV] at e;rw[bH,re,<-mY,<-e];simp[Lib.joinTail]
theorem cD(R:Nat->fZ)(n m:Nat):nU R (n+m)=nU R n+nU (fun j=>R (n+j)) m:=by
 induction m with
 | zero=>rfl
 | succ m ih=>
   rw[<-fH,py,py,ih];omega
theorem akI{d:ic}(b:∀j,j<d.cols.toNat->(a2 d r j).lim)(a:(d.B r).lim):(bH d r).length<=32*nU (a2 d r) d.cols.toNat+5*d.cols.toNat+(32*((d.B r).n+(d.B r).m)+5):=by
 have h:=congrArg List.length (adz d r);have c:=afb b;have e:=ahW a;simp only[aT,fS,mR] at h;omega
theorem ajl{d:ic}(b:∀j,j<r*d.cols.toNat->(d.W j).lim)(a:∀j,j<r->(d.B j).lim):(l8 d r).length<=32*(nU d.W (r*d.cols.toNat)+nU d.B r)+5*(r*d.cols.toNat)+5*r:=by
 induction r with
 | zero=>simp[l8]
 | succ r ih=>
   have e:(r+1)*d.cols.toNat=r*d.cols.toNat+d.cols.toNat:=(by rw[bI,dS]);have i:=ih (fun j c=>b j om) (fun j c=>a j om);have k:=akI (d:=d) (r:=r) (fun j c=>b _ om) (a r om);have f:=cD d.W (r*d.cols.toNat) d.cols.toNat;have g:=py d.B r;rw[e,l8,aT,f,g];have h:nU (a2 d r) d.cols.toNat=nU (fun j=>d.W (r*d.cols.toNat+j)) d.cols.toNat:=rfl;omega
structure aqr(d:ic)(R C:Nat):Prop where
 r:d.rows=R
 c:d.cols=C
 r1:R<=20000
 c1:C<=20000
 nw:d.nw=R*C
 nb:d.nb=R
 vW:ke d.W d.nw
 vB:ke d.B d.nb
theorem pH.map{A:Nat->ic}(h:pH n A)(a:m<n):aqr (A m) (A m).rows.toNat (A m).cols.toNat:=by
 obtain⟨⟨b,d,c,f⟩,g,i⟩:=h.shape m a;have v:=h.dO m a;have e:((A m).rows.toNat*(A m).cols.toNat:Nat)=(A m).rows*(A m).cols:=by rw[dR,Int.toNat_of_nonneg b,Int.toNat_of_nonneg c]
 exact⟨om,om,om,om,om,om,v.1,v.2⟩
theorem aiy{d:ic}(h:aqr d n m)(f:∀j,j<d.nw->(d.W j).lim)(e:∀j,j<d.nb->(d.B j).lim)(o:c<=n):(l8 d c).length<=37*d.size:=by
 have a:d.cols.toNat=m:=by have:=h.c;omega
 have g:c*m<=n*m:=aP _ o;have l:=ajl (d:=d) (r:=c) (fun j b=>f j (by rw[h.nw];rw[a] at b;omega)) (fun j b=>e j (by rw[h.nb];omega));have p:=qm (R:=d.W) (show c*m<=d.nw by rw[h.nw];exact g);have q:=qm (R:=d.B) (show c<=d.nb by rw[h.nb];exact o);have i:=h.nw;have k:=h.nb;rw[a] at l;unfold ic.size;omega
theorem af2{d:ic}(c:d.rows<=9223372036854775807)(e:d.cols<=9223372036854775807):(aE d).length<=200:=by
 have a:=nI c;have b:=nI e;unfold aE;simp only[aT,fS,mR];omega
theorem af1{A:Nat->ic}(h:∀j,j<k->(aE (A j)++l8 (A j) (A j).rows.toNat).length<=37*(A j).size+200):(oq A k).length<=37*vK A k+200*k:=by
 induction k with
 | zero=>simp[oq]
 | succ k ih=>
   have a:=ih (fun j c=>h j om);have b:=h k om;have e:vK A (k+1)=vK A k+(A k).size:=rfl;rw[oq,e,aT];omega
theorem pn{z:Int}{w:World}(m:0<=z)(n:z<=9223372036854775807):
 Cl 31 #[.i z] w fun e k=>e=.returned (.string ⟨(iz z).toArray⟩)/\w.S k:=by
 obtain⟨v,h⟩:∃v:Nat,z=v:=⟨z.toNat,om⟩;subst h;have hl:v<18446744073709551616:=om;have f:iz (v:Int)=Lib.decDigits v:=rfl;rw[f];go_enter func31,ntmps31;go_wp2_with fail;refine (li hl).mono ?_;rintro e r ⟨x,t,B,rfl,p,⟨a,b,q,l,rfl,o,g,-⟩,c,i⟩;have d:=eI c;clear c;go_wp2_with fail;refine mo (lJ om g) fun s j=> ?_;go_wp2;go_ret;refine⟨?_,i.tr j⟩;rw[d.out];rfl
theorem anf{e:TypeId}{a:List Value}(h:w.ownsRow n e m u c a)(f:∀g,u.ownBlock=some g->v.heap[g]?=w.heap[g]?):v.ownsRow n e m u c a:=by
 obtain⟨hl,h | ⟨g,b,j,rfl,hb,d,i⟩⟩:=h
 . exact⟨hl,Or.inl h⟩
 . exact⟨hl,Or.inr ⟨g,b,j,rfl,hb,(f g (by simp[Value.ownBlock])).trans d,i⟩⟩
theorem uV{e:TypeId}{a:List Value}(h:w.ownsRow n e m u c a)(s:w.S v):v.ownsRow n e m u c a:=anf h (fun g b=>s.block g (h.lt g b).2)
theorem vp(w:World)(e:TypeId)(s:ByteArray):w.S (Lib.bytesWorld w e s):=by
 have d:=(aF w.heap.size w).drew;exact⟨d.os,d.tape,d.output,by rw[Lib.bytesWorld_size];omega,fun k a=>Lib.bytesWorld_at_old w e s k a⟩
theorem aaI(w:World)(e:TypeId)(l:List UInt8):∀j u,(Lib.byteCells l)[j]?=some u->(Lib.bytesWorld w e ⟨l.toArray⟩).cell? (((jj w.heap.size 0):Addr).add j)=some u:=fun j u h=>by
 have a:j<l.length:=by
  have:=(bG.1 h).1;rwa[Lib.byteCells_length] at this
 rw[Go.WideShapes.add_plain,aZ];have b:=Lib.bytesWorld_cell w e ⟨l.toArray⟩ j (by simpa [ByteArray.size] using a);rw[b,<-h];simp[Lib.byteCells,a]
theorem adQ(l:List UInt8):∀u∈Lib.byteCells l,u.oneCell'=true:=fun u a=>by
 obtain⟨x,-,rfl⟩:=dT.1 a
 rfl
theorem alJ(L:ai w n R a A m c)(l:R.ok=true)(h:R.n+R.m<=16777216):
 Cl 67 #[.agg #[.bool R.neg,.slice a R.n m,.slice A R.m c]] w fun e d=>e=.returned (.string ⟨R.dH.toArray⟩)/\w.S d:=by
 obtain⟨f,i,-,k⟩:=L.LX;obtain⟨g,j,-,b⟩:=L.LY;exact acm om om k b L.lX L.lY (fZ.q_ok l).2.2.2.2.1
theorem ak7(V:Nat->fZ)(n:Nat):(mO V (n+1)).length=(mO V n).length+1+(V n).dH.length:=by
 rw[mO,aT,fS];omega
theorem dX{a:Option Addr}{n m c d k:Nat}{V:Nat->fZ}{w:World}(hn:d+nU V d<=68719476736)(hf:∀j,j<d->(V j).n+(V j).m<=16777216)(H:ph w n a m c d V)(ok:ke V d):
 Cl 32 #[.slice a d k] w fun e w'=>e=.returned (.string ⟨(mO V d).toArray⟩)/\w.S w':=by
 obtain⟨Q,D,M,N,P⟩:=kT bN;have R:∀b,b<=d->(mO V b).length<=2542620639232:=fun b h=>by have h1:=afb (V:=V) (n:=b) (fun Y hc=>H.lim Y om);have h2:=qm (R:=V) h;omega
 have E:=eI R;clear R;have sA:=fA w (.o #[] 5);have oA:(w.alloc (.o #[] 5)).ownsRow w.heap.size 5 1 (.s w.heap.size 0 0) 0 (Lib.byteCells []):=iP w #[] 0 zR (aJ _) rfl;go_enter func32,ntmps32;go_wp2;go_loopw [3,4] (fun u i wr=>∃b:Nat,b<=d/\i=.i b/\w.S wr/\Hid (u≠ .n)/\∃p,Hid (p=(mO V b).length)/\wr.ownsRow w.heap.size 5 1 u p (Lib.byteCells (mO V b))) (fun _ i _=>d-(intOf i).toNat)
 case atStart=>exact⟨0,aJ _,rfl,sA,eI qz,0,eI rfl,oA⟩
 case round=>
  obtain⟨b,h,rfl,s,ag,p,t,O⟩:=hrel;have am:p<=2542620639232:=by rw[t.out];exact E.out b h
  by_cases r:b<d
  . obtain⟨ea,a1,a2,k1,k2,ac⟩:=H b r;subst ea;have hz:(b:Int)<d:=om;have af:=E.out (b+1) om;have g:=ak7 V b;rw[<-t.out] at g;have ah:=ok b r;have ai:=hf b r;obtain⟨T,o⟩:∃T,(V b).dH=T:=⟨_,rfl⟩;rw[o] at g;have ao:=eI (show p+1+T.length<=2542620639232 by omega);have x:=eI o;have ab:=eI g;have an:=s.size;go_wp2_with (at_builtin;refine gK _ rfl _ _ 22 rfl w.heap.size 5 Q (.int .u8 0) 1 1 underlying22 D M N P rfl qd _ _ _ rfl (O.alloc _) (jj wr.heap.size 0) 1 1 [.int .u8 32] rfl rfl (iq _ _ _) (one_one _ rfl) (by unfold maxLen;omega) om (by simp;omega) ?_);intro v1 w1 I B F;have y:=(s.alloc s.size _).grown B (by simp;omega) (fun b h=>(O.lt b h).1);have aq:=eI F;have l:=ac.aA y;obtain⟨g0,g1,g2⟩:=l.g;clear F B;go_wp2_with fail;refine mo (alJ l.L ah ai) fun f S=> ?_;rw[x.out];have z:=y.tr S;have K:=uV I S;have q:=Lib.run_convert_string_bytes (P:=Tryz.prog) f 9 22 5 ⟨T.toArray⟩ underlying9 underlying22 underlying5;have U:=vp f 5 ⟨T.toArray⟩;have X:=z.tr U;have v:=uV K U;have A:=aaI f 5 T;have z3:=Lib.bytesWorld_size f 5 ⟨T.toArray⟩;have ae:(⟨T.toArray⟩:ByteArray).size=T.length:=(by simp[ByteArray.size]);rw[ae] at q;have zz:=z.size;have ak:=ao.out;generalize Lib.bytesWorld f 5 ⟨T.toArray⟩=w3 at*;go_wp2_with (at_builtin;refine gK _ rfl _ _ 22 rfl w.heap.size 5 Q (.int .u8 0) 1 1 underlying22 D M N P rfl qd _ _ _ rfl v (jj f.heap.size 0) T.length _ (Lib.byteCells T) rfl (by rw[Lib.byteCells_length];omega) A (adQ T) (by unfold maxLen;omega) om om ?_);intro W ad L C G;have Z:=X.grown C om (fun b h=>(v.lt b h).1);have aa:=eI (show W≠ .n from fun e=>aq.out (G.1 e).1);have aj:ad.ownsRow w.heap.size 5 1 W (p+1+T.length) (Lib.byteCells (mO V (b+1))):=by
     rw[show Lib.byteCells (mO V (b+1))=Lib.byteCells (mO V b)++ .int .u8 32::Lib.byteCells T by rw[mO,x.out];simp[Lib.byteCells]];exact L
    go_wp2;go_roundw
    case rel=>exact⟨b+1,om,by go_num,Z,aa,p+1+T.length,eI ab.out.symm,aj⟩
    case measure=>exact yI
  . have e:b=d:=om;subst e;obtain⟨al,Y,rfl,q⟩:=og O ag.out t.out;go_wp2;go_ret;exact⟨rfl,s⟩
theorem bsz(l:List UInt8):(⟨l.toArray⟩:ByteArray).size=l.length:=by simp[ByteArray.size]
def bC(v:Nat):ByteArray:=if v % 8=7 then ⟨#[32,32,32]⟩ else ⟨#[32]⟩
def aH(v:Nat):ByteArray:=if v % 8=7 then ⟨#[32,10]⟩ else if v % 8=6 then ⟨#[10,10,32,32]⟩ else ⟨#[10]⟩
def a7(k:Nat):ByteArray:=
 if k % 8=0 then ⟨#[45]⟩ else if k % 8=1 then ⟨#[47]⟩ else if k % 8=2 then ⟨#[48]⟩ else if k % 8=3 then ⟨#[32]⟩
 else if k % 8=4 then ⟨#[10]⟩ else if k % 8=5 then ⟨#[57]⟩ else if k % 8=6 then ⟨#[47,48]⟩ else ⟨#[120]⟩
theorem sK(n:Nat):(bC n).size<=3:=by unfold bC;split<;>decide
theorem sP(n:Nat):(aH n).size<=4:=by unfold aH;split;decide;split<;>decide
theorem afv(n:Nat):(a7 n).size<=2:=by
 unfold a7;repeat' split
 all_goals decide
section
variable(c:Nat)(a:Option Addr)(b off n cap:Nat)(X:Nat->Nat)(p:Nat)(w:World)
theorem e3(hn:n<=16777216)(R9:Rp w c a b off n cap X p):
 Cl 75 #[.p c 0] w fun e f=>e=.returned (.string (bC (nV X n p)))/\Rp f c a b off n cap X (nP n p)/\il c w f:=by
 obtain⟨V,d⟩:∃x,nV X n p=x:=⟨_,rfl⟩;rw[d];have g:=eI d;go_enter func75,ntmps75;go_wp2_with fail;refine (jd hn R9).mono ?_;rintro e l ⟨v,j,rfl,k,i,h⟩;obtain rfl:V=v:=g.out.symm.trans j;go_wp2
 all_goals
  go_ret;refine⟨?_,i,h⟩;simp only[jJ,rJ] at*;unfold bC;first | (rw[aY om];rfl) | (rw[aM om];rfl)
theorem e4(hn:n<=16777216)(R9:Rp w c a b off n cap X p):
 Cl 76 #[.p c 0] w fun e f=>e=.returned (.string (aH (nV X n p)))/\Rp f c a b off n cap X (nP n p)/\il c w f:=by
 obtain⟨V,d⟩:∃x,nV X n p=x:=⟨_,rfl⟩;rw[d];have g:=eI d;go_enter func76,ntmps76;go_wp2_with fail;refine (jd hn R9).mono ?_;rintro e l ⟨v,j,rfl,k,i,h⟩;obtain rfl:V=v:=g.out.symm.trans j;go_wp2
 all_goals
  go_ret;refine⟨?_,i,h⟩;simp only[jJ,rJ] at*;unfold aH;first | (rw[aY om];rfl) | (rw[aM om,aY om];rfl) | (rw[aM om,aM om];rfl)
end
theorem apR{n:Nat}{w:World}(b:n<256):
 Cl 78 #[.i (n:Int)] w fun e a=>e=.returned (.string (a7 n))/\Same w a:=by
 go_enter func78,ntmps78;go_wp2
 all_goals
  go_ret;refine⟨?_,Same.refl _⟩;simp only[jJ,rJ] at*;unfold a7;repeat' split
  all_goals first | rfl | omega
theorem alM:∃j,Tryz.prog.info? 56=some j/\j.size≠0:=by
 have h:(Tryz.prog.info? 56).map (fun i=>i.size)=some 2:=by kernel_rfl
 obtain⟨i,a,h⟩:=eE.1 h;exact⟨i,a,om⟩
theorem ago{d:List Value}(h:Lib.IsBuilder 56 5 n m d w):
 Cl 59 #[.p m 0] w fun e c=>e=.returned (.tuple #[])/\Lib.BuilderAt 56 5 n m (.p m 0) d c/\w.Since n c/\Lib.OthersKept 5 (some m) w c:=by
 obtain⟨j,a,i⟩:=alM;rcases h with h | h
 . have b:=h.cell0;have r:=h.frozen0;have p:=Lib.run_to_unsafe (P:=Tryz.prog) w (src:=54) (dst:=128) (t:=56) (e:=56) (cells:=2) (jj m 0) underlying54 underlying128 a i h.shape (show 0<2 by omega);have o:=Lib.run_from_unsafe (P:=Tryz.prog) w (src:=128) (dst:=54) (u:=56) (e:=56) (cells:=2) (jj m 0) underlying128 underlying54 a h.shape kr;have q:(callFunc 92 #[.p m 0]).run Tryz.prog w=.ok (.value (.p m 0)) w:=by
    rw[run_callFunc_extern func92 kr kr kr (e:=Extern.AbiNoEscape.same) kr,Lib.run_noEscape];rfl
   have U:=h.used (.p m 0);have g:w.Since n (w.setCell (jj m 0) (.p m 0)):=(aF n w).setCell h.1 _;have f:=(Lib.OthersKept.refl 5 (some m) w).setCell (jj m 0) rfl (.p m 0);have l:=U.cell0;have k:=Lib.run_neq_ptr_same (P:=Tryz.prog) (w.setCell (jj m 0) (.p m 0)) (tp:=54) (te:=56) (jj m 0) underlying54 a;go_enter func59,ntmps59;go_wp2;go_end0;exact⟨rfl,U,g,f⟩
 . have l:=h.cell0;have k:=Lib.run_neq_ptr_same (P:=Tryz.prog) w (tp:=54) (te:=56) (jj m 0) underlying54 a;go_enter func59,ntmps59;go_wp2;go_end0;exact⟨rfl,h,aF _ _,Lib.OthersKept.refl _ _ _⟩
theorem ajY:∃i,Tryz.prog.info? 5=some i/\i.zero=some (.int .u8 0)/\i.size=1/\i.bytes=1:=by
 have h:(Tryz.prog.info? 5).map (fun i=>(i.zero,i.size,i.bytes))=some (some (.int .u8 0),1,1):=by kernel_rfl
 obtain⟨i,a,h⟩:=eE.1 h;simp only[Prod.mk.injEq] at h;exact⟨i,a,h.1,h.2.1,h.2.2⟩
theorem aji(s:List UInt8):Lib.strCells ⟨s.toArray⟩=Lib.byteCells s:=by simp[Lib.strCells,Lib.byteCells]
theorem rF{n m:Nat}{l s:List UInt8}{w:World}(h:Lib.IsBuilder 56 5 n m (Lib.byteCells l) w)(W:l.length+s.length<=140737488355328)(V:n<=w.heap.size):
 Cl 23 #[.p m 0,.string ⟨s.toArray⟩] w fun e k=>(∃x,e=.returned x)/\Lib.IsBuilder 56 5 n m (Lib.byteCells (l++s)) k/\w.Since n k/\Lib.OthersKept 5 (some m) w k:=by
 obtain⟨M,D,I,K,L⟩:=ajY;have r:(⟨s.toArray⟩:ByteArray).size=s.length:=by simp[ByteArray.size]
 go_enter func23,ntmps23;go_wp2_with fail;refine (ago h).mono ?_;rintro e O ⟨rfl,⟨p,v,hb,f,F⟩,t,N⟩;rw[Lib.byteCells_length] at f;have o:=Lib.cell_of_heap hb 1;have E:=(dM.1 hb).1;have Z:=t.size;have o:=o;go_wp2_with (at_builtin;refine Lib.wpList_append_own_string _ rfl _ _ 22 9 rfl n 5 M underlying22 underlying9 D I K L _ _ _ rfl f ⟨s.toArray⟩ rfl (by rw[r];unfold maxLen;omega) (by rw[r];omega) om ?_);intro g b j d _;replace d:O.grownBy b v.ownBlock:=d;have i:=(d.block m E (fun e=>F e.symm)).trans hb;have Q:=Lib.cell_of_heap i 1;have T:=Lib.frozen_of_heap i 1;rw[aji] at j;have G:b.ownsRow n 5 1 g (Lib.byteCells (l++s)).length (Lib.byteCells (l++s)):=by rw[Lib.byteCells_length,aT,show Lib.byteCells (l++s)=Lib.byteCells l++Lib.byteCells s from eJ];exact j
 have y:=Lib.BuilderAt.put p i G qd;have z:=t.grown d om (fun q H=>(f.lt q H).1);have A:w.Since n (b.setCell (jj m 1) g):=z.setCell p _;have u:=(N.grown d (Lib.ownsRow_kind f)).setCell (jj m 1) rfl g;obtain⟨P,Y,X,C⟩:∃a B c,g=.l a B c:=by
  obtain⟨-,⟨e,-⟩ | ⟨U,R,S,e,-⟩⟩:=j
  . exact⟨_,_,_,e⟩
  . exact⟨_,_,_,e⟩
 subst C;go_wp2;go_ret2;exact⟨⟨_,rfl⟩,Or.inr y,A,u⟩
theorem eR{z:Int}{w:World}(b:0<=z)(c:z<=9223372036854775807)(d:Pow w):
 Cl 25 #[.i z] w fun e a=>e=.returned (.string ⟨(iz z).toArray⟩)/\w.S a:=by
 refine (strconv_Itoa z om c w d).mono ?_;rintro e a ⟨rfl,k,f,rfl⟩;exact⟨by rw[alL b],ky (Lib.below_grow w.heap.size w zR k f)⟩
theorem adR(a:List (List UInt8)):((a.map fun l=>(⟨l.toArray⟩:ByteArray)).map (·.data.toList))=a:=by
 rw[sU]
 conv=>rhs;rw[<-List.map_id a]
 rfl
theorem dW{bk n m:Nat}{c:List (List UInt8)}{w:World}(f:∀j x,c[j]?=some x->w.cell? (jj bk (n+j))=some (.string ⟨x.toArray⟩))(d:bk<w.heap.size)(k:c.length<=m)(q:c.length<=100000000)(a:(Lib.join c [32]).length<=1000000000):
 Cl 24 #[.slice (jp bk n) c.length m] w fun e i=>e=.returned (.string ⟨(Lib.join c [32]++[10]).toArray⟩)/\w.S i:=by
 have J:=strings_Join bk n m (c.map fun l=>(⟨l.toArray⟩:ByteArray)) ⟨#[32]⟩ w (fun j x h=>by
  rw[cY] at h;obtain⟨y,g,rfl⟩:=eE.1 h;exact f j y g) d (by rw[bS];omega) (by rw[bS];omega) (by rw[adR];exact aU a qd)
 rw[bS,adR] at J;have o:=a;go_enter func24,ntmps24;go_wp2_with fail;refine mo J fun p b=> ?_;go_wp2;go_ret;exact⟨by simp[tz],ky b⟩
theorem ai6:∃i,Tryz.prog.info? 9=some i/\i.zero=some (.string ⟨#[]⟩)/\i.size=1/\i.bytes=16:=by
 have h:(Tryz.prog.info? 9).map (fun i=>(i.zero,i.size,i.bytes))=some (some (.string ⟨#[]⟩),1,16):=by kernel_rfl
 obtain⟨i,a,h⟩:=eE.1 h;simp only[Prod.mk.injEq] at h;exact⟨i,a,h.1,h.2.1,h.2.2⟩
def uI(ws:List (List UInt8)):List Value:=ws.map fun l=>.string ⟨l.toArray⟩
theorem akB(a:List (List UInt8)):(uI a).length=a.length:=by simp[uI]
theorem afg{a:List (List UInt8)}{x:List UInt8}(h:a[n]?=some x):(uI a)[n]?=some (.string ⟨x.toArray⟩):=by
 unfold uI;rw[cY,h];rfl
theorem ajv{a:List (List UInt8)}(h:w.ownsRow n 9 1 (.s m c d) c (uI a)):(∀j x,a[j]?=some x->w.cell? (jj m j)=some (.string ⟨x.toArray⟩))/\m<w.heap.size/\n<=m/\c<=d/\a.length=c:=by
 have g:= @World.ownsRow.cells _ _ _ _ _ _ _ h;have hl:=h.lt m rfl;refine⟨fun j x o=> ?_,hl.2,hl.1, ?_, ?_⟩
 . have b:=g (g:=m) rfl _ _ (afg o);rw[Go.WideShapes.add_plain,aZ] at b;exact b
 . obtain⟨_,⟨e,_⟩ | ⟨k,f,i,e,l,hb,p,_⟩⟩:=h
   . simp at e
   . simp only[Value.slice.injEq] at e;obtain⟨_,_,rfl⟩:=e;assumption
 . have:=h.1;rw[akB] at this;omega
theorem aeZ(L:ai w n R a A m c)(d:R.ok=true)(h:R.n+R.m<=1048576)(o:Pow w):
 Cl 29 #[.agg #[.bool R.neg,.slice a R.n m,.slice A R.m c]] w fun e f=>e=.returned (.string ⟨R.dH.toArray⟩)/\w.S f:=by
 obtain⟨g,j,-,l⟩:=L.LX;obtain⟨i,k,-,b⟩:=L.LY;exact agB (aJ _) om om L.nc L.mc L.ac L.bc l b L.lX L.lY trivial o d
theorem aiX{a:Option Addr}{n m c d k:Nat}{V:Nat->fZ}{w:World}(hn:d+nU V d<=1048576)(H:ph w n a m c d V)(ok:ke V d)(K:Pow w):
 Cl 27 #[.slice a d k] w fun e z=>∃g h,e=.returned (.s g d h)/\z.ownsRow w.heap.size 9 1 (.s g d h) d (uI (ty V d))/\w.S z:=by
 obtain⟨X,N,S,U,W⟩:=ai6;have sA:=fA w (.o #[] 9);have Y:(w.alloc (.o #[] 9)).ownsRow w.heap.size 9 1 (.s w.heap.size 0 0) 0 (uI (ty V 0)):=iP w #[] 0 zR (aJ _) rfl;go_enter func27,ntmps27;go_wp2;go_loopw [3,9] (fun ab i wr=>∃b:Nat,b<=d/\i=.i b/\w.S wr/\∃g h,ab=.s g b h/\wr.ownsRow w.heap.size 9 1 (.s g b h) b (uI (ty V b))) (fun _ i _=>d-(intOf i).toNat)
 case atStart=>exact⟨0,aJ _,rfl,sA,w.heap.size,0,rfl,Y⟩
 case round=>
  obtain⟨b,hk,rfl,s,g,h,rfl,O⟩:=hrel;by_cases p:b<d
  . obtain⟨I,G,o,v,x,M⟩:=H b p;subst I;have hz:(b:Int)<d:=om;have P:=ok b p;have R:(V b).n+(V b).m<=1048576:=(by have:=qo (R:=V) p;omega);have C:=M.aA s;obtain⟨g0,g1,g2⟩:=C.g;have y:=fA wr (.o #[.bool (V b).neg,.l G (V b).n v,.l o (V b).m x] 70);have nB:=eS.new wr (.bool (V b).neg) (.l G (V b).n v) (.l o (V b).m x) 70;go_wp2_with fail;generalize wr.alloc _=w1 at*;have l:=s.tr y;refine mo (aeZ (M.aA l).L P R (K.stay l)) fun A s2=> ?_;obtain⟨T,t⟩:∃T,(V b).dH=T:=⟨_,rfl⟩;rw[t];have B:=eI t;have f:=y.tr s2;have E:=s.tr f;have j:=uV O f;have z2:=f.size;have z0:=s.size;go_wp2_with (at_builtin;refine wpList_append_own_at _ rfl _ _ 36 rfl w.heap.size 9 X (.string ⟨#[]⟩) 1 16 underlying36 N S U W rfl qd _ _ _ rfl (j.alloc _) (jj A.heap.size 0) 1 1 [.string ⟨T.toArray⟩] rfl rfl (iq _ _ _) (one_one _ rfl) (by unfold maxLen;omega) om (by simp;omega) ?_);intro v' w5 u L af ac;obtain⟨r,q,rfl,ad,ae⟩:=u.form om;have sW:=fA A (.o #[.string ⟨T.toArray⟩] 9);have F:=(E.tr sW).grown L (by simp;omega) (fun Z Q=>(j.lt Z Q).1);have D:w5.ownsRow w.heap.size 9 1 (.s r (b+1) q) (b+1) (uI (ty V (b+1))):=by
     rw[adp,B.out,show uI (ty V b++[T])=uI (ty V b)++[.string ⟨T.toArray⟩] by simp[uI]];exact u
    go_wp2;go_roundw
    case rel=>exact⟨b+1,om,by go_num,F,r,q,rfl,D⟩
    case measure=>exact yI
  . have e:b=d:=om;subst e;go_wp2;go_ret;exact⟨g,h,rfl,O,s⟩
def c6(q:Rat):List UInt8:=jG (qn q) q.num.natAbs q.den
theorem eo(h:n<4294967296^m):(Lib.decDigits n).length<=32*m+1:=by
 rw[Lib.decDigits_length];exact xJ (by rw[Nat.pow_mul];exact h)
theorem akP(h:Qb Q n):(c6 Q).length<=64*n+4:=by
 unfold c6 jG;have c:=eo h.1;have d:=eo h.2;rw[aT,aT];have a:(if qn Q=true then [45] else ([]:List UInt8)).length<=1:=by split<;>simp
 have b:(if Q.den=1 then ([]:List UInt8) else 47::Lib.decDigits Q.den).length<=32*n+2:=by
  split
  . simp
  . simp only[fS];omega
 omega
theorem fO.cA{w w':World}{z a v t:Value}(h:fO w n u U z a v t)(e:w'.heap[n]?=w.heap[n]?):fO w' n u U z a v t:=
 ⟨(aO (a:=jj n 0) e).trans h.c0,(aO (a:=jj n 1) e).trans h.c1,(aO (a:=jj n 2) e).trans h.c2,(aO (a:=jj n 3) e).trans h.c3,(aO (a:=jj n 4) e).trans h.c4,(aO (a:=jj n 5) e).trans h.c5,fun o=>by
   have:=h.f o;unfold World.frozen? at this⊢;rw[e];exact this⟩
def zB:Nat->ByteArray
 | 0=>⟨#[]⟩
 | i+1=>zB i++⟨#[48]⟩
theorem eY(n:Nat):(zB n).size=n:=by
 induction n with
 | zero=>rfl
 | succ n ih=>rw[zB,ByteArray.size_append,ih];rfl
def dB(v:Nat):ByteArray:=⟨(Lib.decDigits v).toArray⟩
theorem cV(h:n<4294967296^m):(dB n).size<=32*m+1:=by unfold dB;rw[bsz];exact eo h
def nsS(k:Nat)(q:Rat):ByteArray:=zB (k/4 % 3)++dB (q.num.natAbs*(1+k/16 % 5))++⟨#[47]⟩++zB (k/4 % 3)++dB (q.den*(1+k/16 % 5))
def nsB(k:Nat)(q:Rat):ByteArray:=if k % 4=3 then (if qn q=true∨(q.num.natAbs=0/\128<=k) then ⟨#[45]⟩++nsS k q else nsS k q) else ⟨(c6 q).toArray⟩
theorem c5(h:n<4294967296^k)(a:m<4294967296):n*m<4294967296^(k+1):=by
 rw[iH];exact qZ h a
theorem aip(m:Nat)(h:Qb Q n):(nsB m Q).size<=64*n+100:=by
 have a:=cV (c5 h.1 (show 1+m/16 % 5<4294967296 by omega));have b:=cV (c5 h.2 (show 1+m/16 % 5<4294967296 by omega));have c:=akP h;have d:(nsS m Q).size<=64*n+99:=by unfold nsS;simp only[ByteArray.size_append,eY];have:(⟨#[47]⟩:ByteArray).size=1:=rfl;omega
 unfold nsB;split
 . split
   . rw[ByteArray.size_append];have:(⟨#[45]⟩:ByteArray).size=1:=rfl;omega
   . omega
 . rw[bsz];omega
theorem alK(f:Qb Q 8388608)(R:pO w u Q):
 Cl 67 #[u] w fun e o=>e=.returned (.string ⟨(c6 Q).toArray⟩)/\w.S o:=by
 obtain⟨a,n,i,b,m,j,g,k,h,l,X,Y,rfl,R,c,d⟩:=R;have r:n<=8388608:=ju R.pX (c▸f.1);have p:m<=8388608:=ju R.pY (d▸f.2);have J:=@acm (qn Q) a b g k n i h l m j X Y w om om R.LX R.LY R.lX R.lY R.pY;rw[c,d] at J;exact J
theorem i7.bR(h:i7 w (fun g=>g≠c) u Q)(s:il c w v):i7 v (fun g=>g≠c) u Q:=
 h.blocks (fun g a b=>s.block g a b)
theorem anj{n:Nat}{a:Option Addr}{m c d k:Nat}{X:Nat->Nat}{i:Nat}{w:World}{u:Value}{Q:Rat}(hn:d<=16777216)(bq:Rp w n a m c d k X i)(o:Qb Q 8388608)(bo:i7 w (fun ar=>ar≠n) u Q):
 Cl 121 #[.p n 0,u] w fun e r=>e=.returned (.string (nsB (nV X d i) Q))/\Rp r n a m c d k X (nP d i)/\il n w r:=by
 obtain⟨C,g,E,bD,mD,D,eN,oN,eD,oD,XN,YD,rfl,v,h1,h2,p1,p2⟩:=id bo;have bh:=bq.R.lt;have n1:g<=8388608:=ju v.pX (h1▸o.1);have m1:mD<=8388608:=ju v.pY (h2▸o.2);have hz:g=0↔Q.num.natAbs=0:=by rw[<-h1];exact km v.pX
 obtain⟨K,hK⟩:∃a0,nV X d i=a0:=⟨_,rfl⟩;rw[hK];have HK:=eI hK;clear hK;have sA:=fA w (.o #[.bool (qn Q),.l C g E,.l bD mD D] 70);have bA:=eS.new w (.bool (qn Q)) (.l C g E) (.l bD mD D) 70;have RA:=bo.aA sA;have RP:=bq.aA sA;have bl:=bA.lt;go_enter func121,ntmps121;go_wp2_with fail;generalize w.alloc _=wA at*;refine (@jd n a m c d k X i wA hn RP).mono ?_;rintro e w1 ⟨aw,ek,rfl,hk,bn,A⟩;obtain rfl:K=aw:=HK.out.symm.trans ek;have r1:=bA.bR A om;have bp:=RA.bR A;have bm:=(il.aD n sA).trans A;clear ek RP bo RA A bA;obtain⟨u0,u1,u2⟩:=r1.g;by_cases c3:K % 4=3;rotate_left
 . have h3:((K:Int) % 4 != 3)=true:=(by simp;omega);go_wp2_with fail;refine mo (alK o bp.read) fun P q=> ?_;go_wp2;go_ret;exact⟨by unfold nsB;rw[aM c3];rfl,bn.aA q,bm.trans (il.aD n q)⟩
 have h3:((K:Int) % 4 != 3)=false:=by simp;omega
 obtain⟨z,ao⟩:∃z,K/4 % 3=z:=⟨_,rfl⟩;have z3:(K:Int)/4 % 3=(z:Int):=om;have zl:z<3:=om;go_wp2;go_loopw [6,7] (fun az ad wr=>∃(p:Nat) (s:ByteArray),p<=z/\ad=.i (p:Int)/\az=.string s/\Hid (zB p=s)/\s.size<=p/\wr=w1) (fun _ ad _=>z-(intOf ad).toNat)
 case atStart=>exact⟨0,_,aJ _,rfl,rfl,eI rfl,aC _,rfl⟩
 case round=>
  obtain⟨p,s,hm,rfl,rfl,S,sl,rfl⟩:=hrel;by_cases bi:p<z
  . have av:(p:Int)<K/4 % 3:=om;clear z3;go_wp2;go_roundw
    case rel=>exact⟨p+1,_,om,by go_num,rfl,eI (by rw[zB,S.out]),by rw[ByteArray.size_append];exact Nat.succ_le_succ sl,trivial⟩
    case measure=>exact yI
  . obtain rfl:p=z:=om;have av:¬(p:Int)<K/4 % 3:=om;obtain⟨F,hF⟩:∃F,1+K/16 % 5=F:=⟨_,rfl⟩;have bc:1+(K:Int)/16 % 5=(F:Int):=om;have HE:Hid (nsS K Q=s++dB (Q.num.natAbs*F)++⟨#[47]⟩++s++dB (Q.den*F)):=eI (by unfold nsS;rw[ao,hF,S.out]);have JB:=@li F wr om;clear hF z3 ao hm;go_wp2_with fail;refine JB.mono ?_;rintro e P ⟨vx,aq,ag,rfl,ht,⟨af,gf,of,kf,rfl,bj,Y,-⟩,vB,q⟩;have aa:=eI vB;have r2:=r1.aA q;have a1:=bp.aA q;have y:=bm.trans (il.aD n q);have R2:=bn.aA q;clear vB JB r1 bp bm bn q u0 u1 u2;go_wp2_with fail;have dr:P.S P.drew:=((Same.refl _).drewN 1).since _;have rd:=r2.aA dr;refine jZ 18 (fun r=>r.cell? (jj w.heap.size 1)=some (.l C g E)/\r.cell? (jj w.heap.size 2)=some (.l bD mD D)) kr ⟨rd.c1,rd.c2⟩ (fun au=> ?_);refine vX 0 32 ?_;refine vX 1 33 ?_;refine vX 2 34 ?_;refine vX 4 36 ?_;refine vX 9 41 ?_;refine vX 11 43 ?_;refine vX 12 44 ?_;refine vX 14 46 ?_;have f:=@i8 C eN oN g E XN P.drew om ((v.LX.bR y p1).aA dr) v.lX;refine sX 3 fun Z b=> ?_;go_simp;go_wp2_with (go_at_call 101;with_reducible refine f.mono ?_;rintro e w3 ⟨a3,g3,m3,k3,B3,rfl,a2,a4,L3,-,-,v3,s3⟩);have V3:=eI (v3.trans h1);have V:=dr.tr s3;have I:=rd.aA s3;have aj:=And.intro I.c1 I.c2;refine b.out _ _ (fun _=>aj) ?_;clear b Z au f v3 s3 rd;have f:=@jK a3 af g3 0 m3 k3 gf of aq kf B3 ag w3 om om L3 (Y.aA V);refine sX 5 fun Z b=> ?_;go_simp;go_wp2_with (go_at_call 143;with_reducible refine f.mono ?_;rintro e w4 ⟨g4,m4,k4,B4,rfl,a5,a7,L4,-,-,v4,s4⟩);have V4:Hid (bv B4 m4=Q.num.natAbs*F):=eI (by rw[v4,V3.out,aa.out]);have S4:=V.tr s4;have L:=I.aA s4;have ak:=And.intro L.c1 L.c2;refine b.out _ _ (fun _=>ak) ?_;clear b Z aj f v4 s4 I V3 L3;have f:=@lJ _ g4 0 m4 k4 B4 w4 om L4;rw[V4.out] at f;have d1:=cV (c5 (k:=8388608) o.1 (show F<4294967296 by omega));obtain⟨j,G⟩:∃ac,dB (Q.num.natAbs*F)=ac:=⟨_,rfl⟩;rw[show (⟨(Lib.decDigits (Q.num.natAbs*F)).toArray⟩:ByteArray)=j from G] at f;rw[G] at d1;have ah:=eI G;clear G;refine sX 6 fun Z b=> ?_;go_simp;go_wp2_with (go_at_call 65;with_reducible refine mo f fun w5 s5=> ?_);have ab:=S4.tr s5;have M:=L.aA s5;have al:=And.intro M.c1 M.c2;refine b.out _ _ (fun _=>al) ?_;clear b Z ak f s5 L V4 L4;have g1:¬9223372036854775807<s.size+j.size:=om;have g2:¬9223372036854775807<s.size+j.size+1:=om;have g3:¬9223372036854775807<s.size+j.size+1+s.size:=om;refine vX 7 39 ?_;refine vX 8 40 ?_;refine vX 10 42 ?_;have f:=@i8 bD eD oD mD D YD w5 om ((v.LY.bR y p2).aA ab) v.lY;refine sX 13 fun Z b=> ?_;go_simp;go_wp2_with (go_at_call 101;with_reducible refine f.mono ?_;rintro e w6 ⟨a6,g6,m6,k6,B6,rfl,a8,a9,L6,-,-,v6,s6⟩);have V6:=eI (v6.trans h2);have ae:=ab.tr s6;have N:=M.aA s6;have am:=And.intro N.c1 N.c2;refine b.out _ _ (fun _=>am) ?_;clear b Z al f v6 s6 M;have f:=@jK a6 af g6 0 m6 k6 gf of aq kf B6 ag w6 om om L6 (Y.aA ae);refine sX 15 fun Z b=> ?_;go_simp;go_wp2_with (go_at_call 143;with_reducible refine f.mono ?_;rintro e w7 ⟨g7,m7,k7,B7,rfl,ba,bb,L7,-,-,v7,s7⟩);have V7:Hid (bv B7 m7=Q.den*F):=eI (by rw[v7,V6.out,aa.out]);have S7:=ae.tr s7;have O:=N.aA s7;have an:=And.intro O.c1 O.c2;refine b.out _ _ (fun _=>an) ?_;clear b Z am f v7 s7 N V6 L6;have f:=@lJ _ g7 0 m7 k7 B7 w7 om L7;rw[V7.out] at f;have d2:=cV (c5 (k:=8388608) o.2 (show F<4294967296 by omega));obtain⟨t,H⟩:∃ac,dB (Q.den*F)=ac:=⟨_,rfl⟩;rw[show (⟨(Lib.decDigits (Q.den*F)).toArray⟩:ByteArray)=t from H] at f;rw[H] at d2;have ai:=eI H;clear H;refine sX 16 fun Z b=> ?_;go_simp;go_wp2_with (go_at_call 65;with_reducible refine mo f fun w8 s8=> ?_);have W:=S7.tr s8;have l:=O.aA s8;refine b.out _ _ (fun _=>And.intro l.c1 l.c2) ?_;clear b Z an f s8 O V7 L7;have g4:¬9223372036854775807<s.size+j.size+1+s.size+t.size:=om;refine sX 17 fun Z b=> ?_;go_simp;refine b.out _ _ (fun _=>And.intro l.c1 l.c2) ?_;clear b Z;refine sX 18 fun Z b=> ?_;go_simp;refine b.out _ _ (fun h=>absurd rfl h) ?_;clear b Z;refine mZ kr ?_ _;have U:Hid (nsS K Q=s++j++⟨#[47]⟩++s++t):=eI (by rw[HE.out,ah.out,ai.out]);obtain⟨T,hT⟩:∃T,T=s++j++⟨#[47]⟩++s++t:=⟨_,rfl⟩;rw[<-hT] at U⊢;have bf:T.size<=600000000:=by
     rw[hT];simp only[ByteArray.size_append];have:(⟨#[47]⟩:ByteArray).size=1:=rfl;omega
    have c0:=l.c0;have c1:=l.c1;have hE:∀m:Bool,((m=true)↔(qn Q=true∨(Q.num.natAbs=0/\128<=K)))->nsB K Q=if m then ⟨#[45]⟩++T else T:=fun m hb=>by
     unfold nsB;rw[aY c3,U.out];cases m
     . rw[aM (fun h=>by have:=hb.2 h;cases this)];rfl
     . rw[aY (hb.1 rfl)];rfl
    have x:=eI hE;clear hT hE g1 g2 g3 g4 U HE ah ai d1 d2 sl S h3 c3;have R:=(y.trans (il.aD n W));have B:=R2.aA W;clear y R2 W S7 ae ab S4 V Y aa;cases hqn:qn Q
    . rw[hqn] at c0;by_cases n0:g=0
      . have z0:((g:Int)==0)=true:=(by simp;omega);by_cases k1:128<=K
        . have ax:(128:Int)<=K:=om;go_wp2;go_ret;exact⟨by rw[x.out true (by simp[hz.1 n0,k1])];rfl,B,R⟩
        . have ax:¬(128:Int)<=K:=om;go_wp2;go_ret;exact⟨by rw[x.out false (by simp[hqn,k1])];rfl,B,R⟩
      . have z0:((g:Int)==0)=false:=(by simp;omega);have ay:¬Q.num.natAbs=0:=fun h=>n0 (hz.2 h);go_wp2;go_ret;exact⟨by rw[x.out false (by simp only[hqn,ay];simp)];rfl,B,R⟩
    . rw[hqn] at c0;go_wp2;go_ret;exact⟨by rw[x.out true (by simp[hqn])];rfl,B,R⟩
def pS(n p:Nat):Nat->Nat
 | 0=>p
 | k+1=>nP n (pS n p k)
def ntl(X:Nat->Nat)(n p:Nat)(Q:Nat->Rat):Nat->ByteArray
 | 0=>⟨#[]⟩
 | i+1=>ntl X n p Q i++bC (nV X n (pS n p (2*i)))++nsB (nV X n (pS n p (2*i+1))) (Q i)
theorem yo{N:Nat}{Q:Nat->Rat}(h:∀i,i<N->Qb (Q i) 8388608):(ntl X n p Q N).size<=N*536871100:=by
 induction N with
 | zero=>exact aJ _
 | succ N ih=>
   have a:=ih (fun i d=>h i om);have b:=aip (nV X n (pS n p (2*N+1))) (h N om);have c:=sK (nV X n (pS n p (2*N)));have e:(N+1)*536871100=N*536871100+536871100:=Nat.succ_mul _ _;rw[e];simp only[ntl,ByteArray.size_append];omega
theorem uW{n:Nat}{a:Option Addr}{m c d k:Nat}{X:Nat->Nat}{i:Nat}{w:World}{A:Option Addr}{j l o b:Nat}{Q:Nat->Rat}(V:d<=16777216)(R:Rp w n a m c d k X i)(hN:o<=100000)(hq:∀r,r<o->Qb (Q r) 8388608)(H:ij w (fun g=>g≠n) A j l o Q)(hb:0<o->j≠n):
 Cl 77 #[.p n 0,.slice A o b] w fun e q=>e=.returned (.string (ntl X d i Q o))/\Rp q n a m c d k X (pS d i (2*o))/\il n w q:=by
 have O:=eI hq;have Y:=eI H;have af:=R.R.lt;go_enter func77,ntmps77;go_wp2;go_loopw [5,6] (fun ae r wr=>∃(p:Nat) (s:ByteArray),p<=o/\r=.i (p:Int)/\ae=.string s/\Hid (ntl X d i Q p=s)/\Rp wr n a m c d k X (pS d i (2*p))/\il n w wr) (fun _ r _=>o-(intOf r).toNat)
 case atStart=>exact⟨0,_,aJ _,rfl,rfl,eI rfl,R,il.refl _ _⟩
 case round=>
  obtain⟨p,s,hk,rfl,rfl,B,F,u⟩:=hrel;by_cases U:p<o
  . have hz:(p:Int)<o:=om;have ag:s.size<=o*536871100:=by
     rw[<-B.out];exact aU (yo (fun r hi=>O.out r om)) (aP _ om)
    obtain⟨rfl,x,y,C⟩:=Y.out p U;have al:=C.R.bR u;have am:∀q:World,il n wr q->q.cell? (jj j (l+p*3))=some (.bool (qn (Q p)))/\q.cell? (jj j (l+p*3+1))=some x/\q.cell? (jj j (l+p*3+2))=some y:=fun q ac=>by have N:=u.trans ac;have T:=C.lt;have e:=hb om;exact⟨(N.cell (a:=jj _ _) T e).trans C.c0,(N.cell (a:=jj _ _) T e).trans C.c1,(N.cell (a:=jj _ _) T e).trans C.c2⟩
    have z:=eI am;have P:=eI (O.out p U);have M:il n wr wr.drew:=(il.refl _ _).drew;have D:=e3 n a m c d k X _ wr.drew V (F.aA (((Same.refl _).drewN 1).since _));obtain⟨G,K⟩:∃g,bC (nV X d (pS d i (2*p)))=g:=⟨_,rfl⟩;have gl:=sK (nV X d (pS d i (2*p)));rw[K] at D gl;have t:=fun (q:World) (R':Rp q n a m c d k X (pS d i (2*p+1))) h=>@anj n a m c d k X _ q (.agg #[.bool (qn (Q p)),x,y]) (Q p) V R' P.out h;obtain⟨W,L⟩:∃g,nsB (nV X d (pS d i (2*p+1))) (Q p)=g:=⟨_,rfl⟩;have nl:=aip (nV X d (pS d i (2*p+1))) P.out;rw[L] at t nl;have t:=eI t;have ab:Hid (ntl X d i Q (p+1)=s++G++W):=eI (by rw[ntl,B.out,K,L]);have g1:¬9223372036854775807<s.size+G.size:=om;have g2:¬9223372036854775807<s.size+G.size+W.size:=om;generalize qn (Q p)=fq at*;go_wp2_with fail;have v:=z.out _ M;refine jZ 11 (fun q=>q.cell? (jj j (l+p*3))=some (.bool fq)/\q.cell? (jj j (l+p*3+1))=some x/\q.cell? (jj j (l+p*3+2))=some y) kr v (fun ad=> ?_);refine vX 0 13 ?_;refine vX 1 14 ?_;refine vX 4 17 ?_;refine vX 5 18 ?_;refine vX 6 19 ?_;refine vX 7 20 ?_;refine vX 8 21 ?_;refine sX 2 fun Z f=> ?_;go_simp;go_wp2_with (go_at_call 75;with_reducible refine mo D fun w2⟨ak,N⟩=> ?_);have S:=M.trans N;have v:=z.out _ S;refine f.out _ _ (fun _=>v) ?_;refine vX 3 16 ?_;have ai:=t.out w2 ak (al.bR S);refine sX 9 fun Z f=> ?_;go_simp;go_wp2_with (go_at_call 121;with_reducible refine mo ai fun w3⟨R3,aj⟩=> ?_);have E:=S.trans aj;have I:=z.out _ E;refine f.out _ _ (fun _=>I) ?_;refine sX 10 fun Z f=> ?_;go_simp;refine f.out _ _ (fun _=>I) ?_;refine sX 11 fun Z f=> ?_;go_simp;refine f.out _ _ (fun h=>absurd rfl h) ?_;refine mZ kr ?_ _;have O4:=u.trans E;go_wp2;go_roundw
    case rel=>exact⟨p+1,_,om,by go_num,rfl,ab,R3,O4⟩
    case measure=>exact yI
  . have e:p=o:=om;subst e;have ah:¬((p:Int)<p):=om;go_wp2;go_ret;exact⟨by rw[B.out];rfl,F,u⟩
end Go.Proofs.YtinihjgnnlemmaaGreatDoor
