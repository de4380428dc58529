import Derived.Test.YtinihjgnnlemmaaGreatDoorOwnP38
import Derived.Test.YtinihjgnnlemmaaGreatDoorOwnP42
set_option maxHeartbeats 6400000
set_option maxRecDepth 100000
set_option linter.unusedVariables false
namespace Go.Proofs.YtinihjgnnlemmaaGreatDoor
open Tryz Go.RowKit
variable{w v W V:World}{n m c d k i j l o b p q t r s g h e:Nat}{a A B:Option Addr}{X Y Z:Nat->Nat}{u U:Value}{z y:Int}{G:eQ}{P:Nat->Prop}{Q:Rat}{D:fQ}{R:fZ}
theorem tm(h:n % m=c):(n:Int).tmod (m:Int)=(c:Int):=by
 rw[Int.tmod_eq_emod_of_nonneg om,<-h];simp
def pk(m:Nat):Nat->Nat
 | 0=>1
 | i+1=>if m % (i+1)=0 then i+1 else pk m i
theorem apO(n m:Nat):1<=pk n m/\pk n m<=m+1:=by
 induction m with
 | zero=>simp[pk]
 | succ m ih=>unfold pk;split<;>omega
theorem aoP{n m:Nat}{w:World}(A:n<=1000)(z:m<=1000):
 Cl 154 #[.i n,.i m] w fun e r=>e=.returned (.i (pk n (min n (m+1)):Nat))/\Same w r:=by
 go_enter func154,ntmps154;go_wp2;go_loopw [5,6] (fun u d wr=>∃j x:Nat,1<=j/\j<=n+1/\j<=m+2/\u=.i x/\Hid (pk n (j-1)=x)/\d=.i j/\Same w wr) (fun _ d _=>n+1-(intOf d).toNat)
 case atStart=>exact⟨1,1,om,om,om,rfl,eI rfl,rfl,Same.refl _⟩
 case round=>
  obtain⟨j,x,s,v,y,rfl,c,rfl,a⟩:=hrel;by_cases C:j<=n
  . have h:(j:Int)<=n:=om;by_cases D:j<=m+1
    . have o:(j:Int)<=m+1:=om;obtain⟨t,g⟩:∃t,n % j=t:=⟨_,rfl⟩;have B:=tm g;by_cases q:t=0
      . subst q
        have f:Hid (pk n (j+1-1)=j):=eI (by
         obtain⟨i,rfl⟩:∃i,j=i+1:=⟨j-1,om⟩;show pk n (i+1)=_;rw[pk,aY g])
        have l:¬(j:Int)=0:=om;go_wp2;go_roundw
        case rel=>exact⟨j+1,j,om,om,om,rfl,f,by go_num,a⟩
        case measure=>exact yI
      . have E:((t:Int)==0)=false:=by simp;omega
        have f:Hid (pk n (j+1-1)=x):=eI (by
         obtain⟨i,rfl⟩:∃i,j=i+1:=⟨j-1,om⟩;show pk n (i+1)=_;rw[pk,aM om];exact c.out)
        have l:¬(j:Int)=0:=om;go_wp2;go_roundw
        case rel=>exact⟨j+1,x,om,om,om,rfl,f,by go_num,a⟩
        case measure=>exact yI
    . have o:¬(j:Int)<=m+1:=om;have b:Hid (pk n (min n (m+1))=x):=eI (by rw[<-c.out];congr 1;omega);go_wp2;go_ret;rw[b.out];exact⟨rfl,a⟩
  . have h:¬(j:Int)<=n:=om;have b:Hid (pk n (min n (m+1))=x):=eI (by rw[<-c.out];congr 1;omega);go_wp2;go_ret;rw[b.out];exact⟨rfl,a⟩
theorem fO.bR{z b e t:Value}(h:fO w c u U z b e t)(s:il d w v)(a:c≠d):fO v c u U z b e t:=
 ⟨(s.cell (a:=jj c 0) h.lt a).trans h.c0,(s.cell (a:=jj c 1) h.lt a).trans h.c1,(s.cell (a:=jj c 2) h.lt a).trans h.c2,(s.cell (a:=jj c 3) h.lt a).trans h.c3,(s.cell (a:=jj c 4) h.lt a).trans h.c4,(s.cell (a:=jj c 5) h.lt a).trans h.c5,fun k=>(s.frozen (a:=jj c k) h.lt a).trans (h.f k)⟩
theorem Ints.bR{X:Nat->Int}(h:Ints w a n m c X)(s:il d w v)(f:n≠d):Ints v a n m c X:=fun j b=>
 ⟨(h j b).1,(s.cell (a:=jj n (m+j)) (aG _ _ (h j b).2) f).trans (h j b).2⟩
theorem pu.marked{R:Nat->fZ}{b:List Value}(h:pu w n P u m R b)(M:eM w v c)(f:c<n)(e:∀g,P g->g≠c):pu v n P u m R b:=
 h.mv (fun g d=>M.other g (by have:=(h.own.lt g d).1;omega)) (fun g _ a=>⟨M.other g (e g a),a⟩)
theorem pu.low{b:Nat->Prop}{R:Nat->fZ}{k:List Value}(h:pu w n P u c R k)(hl:m<=n)(p:∀g,P g->b g):pu w m b u c R k:=by
 have a:=h.mv (w':=w) (p':=b) (fun _ _=>rfl) (fun g _ h=>⟨rfl,p g h⟩);refine⟨?_,a.at_⟩;obtain⟨e,o | ⟨g,d,f,i,j,l⟩⟩:=a.own
 . exact⟨e,Or.inl o⟩
 . exact⟨e,Or.inr ⟨g,d,f,i,aU hl j,l⟩⟩
theorem pu.nil(w:World)(n:Nat)(P:Nat->Prop)(R:Nat->fZ)(h:n<=w.heap.size):pu (w.alloc (.cells #[] 70)) n P (.s w.heap.size 0 0) 0 R []:=
 ⟨iP w #[] 0 h (aJ _) rfl,fun i a=>absurd a om⟩
theorem pu.cells{R:Nat->fZ}{r:List Value}(h:pu w n P (.s g m c) m R r)(k:i<m):∃a b j d,w.cell? (jj g (i*3))=some (.bool (R i).neg)/\w.cell? (jj g (i*3+1))=some (.slice a (R i).n j)/\w.cell? (jj g (i*3+2))=some (.slice b (R i).m d)/\lH w (fun q=>P q/\q≠g) (R i) a b j d:=by
 obtain⟨a,b,j,d,l,p,s,o⟩:=h.at_ i k;exact⟨a,b,j,d,(h.own.cellAt _ om).trans l,(h.own.cellAt _ om).trans p,(h.own.cellAt _ om).trans s,o.mv fun q _ f=>⟨rfl,f.1,fun e=>f.2 (by rw[e];rfl)⟩⟩
theorem pu.put{p:Nat->fZ}{u:List Value}(h:pu w n P (.s c m b) m p u)(i:Nat)(K:lH w (fun q=>P q/\q≠c) R a A d k):
 ∃v,pu (((w.setCell ⟨c,i*3,none⟩ (.bool R.neg)).setCell ⟨c,i*3+1,none⟩ (.slice a R.n d)).setCell ⟨c,i*3+2,none⟩ (.slice A R.m k)) n P (.s c m b) m (fun j=>if j=i then R else p j) v:=by
 have M:eM w (((w.setCell (jj c (i*3)) (.bool R.neg)).setCell (jj c (i*3+1)) (.l a R.n d)).setCell (jj c (i*3+2)) (.l A R.m k)) c:=(((eM.refl w _).setCell _ _).setCell _ _).setCell _ _;have hl:=h.own.1;refine⟨_,(((h.own.stored (i*3) (.bool R.neg)).1.stored (i*3+1) (.l a R.n d)).1.stored (i*3+2) (.l A R.m k)).1,fun j o=> ?_⟩;by_cases e:j=i
 . subst e;rw[aY rfl];refine⟨a,A,d,k, ?_, ?_, ?_,K.mv fun q _ g=>⟨M.other q g.2,g.1,fun e=>g.2 (by simp[Value.ownBlock] at e;exact e.symm)⟩⟩
   . rw[List.getElem?_set_ne om,List.getElem?_set_ne om,List.getElem?_set_self om]
   . rw[List.getElem?_set_ne om,List.getElem?_set_self (by simp;omega)]
   . rw[List.getElem?_set_self (by simp;omega)]
 . rw[aM e];obtain⟨r,x,s,t,f,l,y,z⟩:=h.at_ j o;refine⟨r,x,s,t, ?_, ?_, ?_,z.mv fun q _ g=>⟨M.other q fun e=>g.2 (by rw[e];rfl),g⟩⟩
   . rw[List.getElem?_set_ne om,List.getElem?_set_ne om,List.getElem?_set_ne om];exact f
   . rw[List.getElem?_set_ne om,List.getElem?_set_ne om,List.getElem?_set_ne om];exact l
   . rw[List.getElem?_set_ne om,List.getElem?_set_ne om,List.getElem?_set_ne om];exact y
structure xj(w0 w:World)(c:Nat)(a:Option Addr)(b off n cap:Nat)(X:Nat->Nat)(p c4 c9:Nat)(x0 x1 x2 x3 x4 x5:Value):Prop where
 l4:w0.heap.size<=c4
 l9:c4<c9
 lc:c<w0.heap.size
 B4:fO w c4 (.int .i64 0) (.int .i64 0) (.int .i64 0) (.int .i64 0) (.int .i64 0) (.slice none 0 0)
 B9:fO w c9 x0 x1 x2 x3 x4 x5
 R:Rp w c a b off n cap X p
 O:il c w0 w
section
variable{w0 w w':World}{c:Nat}{a:Option Addr}{b off n cap:Nat}{X:Nat->Nat}{p p' c4 c9:Nat}{x0 x1 x2 x3 x4 x5 y0 y1 y2 y3 y4 y5:Value}
theorem xj.m9(h:xj w0 w c a b off n cap X p c4 c9 x0 x1 x2 x3 x4 x5)(M:eM w w' c9)(B:fO w' c9 y0 y1 y2 y3 y4 y5):xj w0 w' c a b off n cap X p c4 c9 y0 y1 y2 y3 y4 y5:=by
 have d:=h.l4;have e:=h.l9;have f:=h.lc;exact⟨d,e,f,h.B4.marked M om,B,h.R.marked M om,tP h.O M om⟩
theorem xj.bE(h:xj w0 w c a b off n cap X p c4 c9 x0 x1 x2 x3 x4 x5)(u:Value):xj w0 (w.setCell ⟨c9,0,none⟩ u) c a b off n cap X p c4 c9 u x1 x2 x3 x4 x5:=h.m9 ((eM.refl _ _).setCell 0 u) (h.B9.bE u)
theorem xj.bF(h:xj w0 w c a b off n cap X p c4 c9 x0 x1 x2 x3 x4 x5)(u:Value):xj w0 (w.setCell ⟨c9,2,none⟩ u) c a b off n cap X p c4 c9 x0 x1 u x3 x4 x5:=h.m9 ((eM.refl _ _).setCell 2 u) (h.B9.bF u)
theorem xj.bX(h:xj w0 w c a b off n cap X p c4 c9 x0 x1 x2 x3 x4 x5)(u:Value):xj w0 (w.setCell ⟨c9,3,none⟩ u) c a b off n cap X p c4 c9 x0 x1 x2 u x4 x5:=h.m9 ((eM.refl _ _).setCell 3 u) (h.B9.bX u)
theorem xj.dX(h:xj w0 w c a b off n cap X p c4 c9 x0 x1 x2 x3 x4 x5)(u:Value):xj w0 (w.setCell ⟨c9,4,none⟩ u) c a b off n cap X p c4 c9 x0 x1 x2 x3 u x5:=h.m9 ((eM.refl _ _).setCell 4 u) (h.B9.dX u)
theorem xj.dC(h:xj w0 w c a b off n cap X p c4 c9 x0 x1 x2 x3 x4 x5)(u:Value):xj w0 (w.setCell ⟨c9,5,none⟩ u) c a b off n cap X p c4 c9 x0 x1 x2 x3 x4 u:=h.m9 ((eM.refl _ _).setCell 5 u) (h.B9.dC u)
theorem xj.go(h:xj w0 w c a b off n cap X p c4 c9 x0 x1 x2 x3 x4 x5)(R:Rp w' c a b off n cap X p')(O:il c w w'):xj w0 w' c a b off n cap X p' c4 c9 x0 x1 x2 x3 x4 x5:=by
 have d:=h.l4;have e:=h.l9;have f:=h.lc;exact⟨d,e,f,h.B4.bR O om,h.B9.bR O om,R,h.O.trans O⟩
theorem xj.aA(h:xj w0 w c a b off n cap X p c4 c9 x0 x1 x2 x3 x4 x5)(s:w.S w'):xj w0 w' c a b off n cap X p c4 c9 x0 x1 x2 x3 x4 x5:=h.go (h.R.aA s) (il.aD c s)
end
def bkw(D:Nat->Nat)(d:Nat):Nat->Nat
 | 0=>0
 | b+1=>if D (b+1)=d then b+1 else bkw D d b
theorem apz(X:Nat->Nat)(n m:Nat):bkw X n m<=m:=by
 induction m with
 | zero=>exact aC _
 | succ m ih=>unfold bkw;split<;>omega
def ndA(X:Nat->Nat)(n p m:Nat):Nat×Nat:=if nV X n p % 7=6 then (nV X n (nP n p) % m,nP n (nP n p)) else (m-1,nP n p)
def ndB(X:Nat->Nat)(n o t d p m:Nat)(D:Nat->Nat):fQ×Nat:=
 if o=2∨o=3 then (⟨2,t,0,0,0,0,xY X n p⟩,p)
 else if o=4 then (⟨3,t,0,0,0,1,xY X n p⟩,nuP X n p 1)
 else if o=5 then (⟨4,t,(if D (bkw D d (nV X n p % m))=d then bkw D d (nV X n p % m) else t:Nat),0,0,0,xY X n p⟩,nP n p)
 else if o=6/\1<d then (⟨5,t,0,(pk d (min d (1+nV X n p % 8+1)):Nat),0,0,xY X n p⟩,nP n p)
 else if o=7 then (⟨6,t,0,(1+nV X n p % d:Nat),(1+nV X n (nP n p) % 3:Nat),1+nV X n p % d+1,xY X n (nP n (nP n p))⟩,nuP X n (nP n (nP n p)) (1+nV X n p % d+1))
 else if o=8 then (⟨7,t,0,0,0,4,fun i=>if i=2/\(xY X n p 2).n=0 then rd (mkRat 2 1) else xY X n p i⟩,nuP X n p 4)
 else if o=9 then (⟨1,t,0,(4+nV X n (nP n p) % 4:Nat),0,(4+nV X n (nP n p) % 4)*(d+1),xY X n (nP n (nP n p))⟩,nuP X n (nP n (nP n p)) ((4+nV X n (nP n p) % 4)*(d+1)))
 else if o=6 then (⟨1,t,0,6,0,6*(d+1),xY X n (nP n p)⟩,nuP X n (nP n p) (6*(d+1)))
 else (⟨1,t,0,(1+nV X n p % 4:Nat),0,(1+nV X n p % 4)*(d+1),xY X n (nP n p)⟩,nuP X n (nP n p) ((1+nV X n p % 4)*(d+1)))
def nd(X:Nat->Nat)(n p m:Nat)(D:Nat->Nat):fQ×Nat:=ndB X n (nV X n p/7 % 10) (ndA X n p m).1 (D (ndA X n p m).1) (ndA X n p m).2 m D
def ao4(w:World)(B:Nat)(u:Value)(d:fQ):Prop:=∃g cp xs,u=.agg #[.int .i64 d.op,.int .i64 d.a,.int .i64 d.b,.int .i64 d.k,.int .i64 d.s,.slice (some ⟨g,0,none⟩) d.nv cp]/\pu w B (fun q=>B<=q) (.slice (some ⟨g,0,none⟩) d.nv cp) d.nv d.V xs
structure Kd where
 op:Int
 word:ByteArray
 ub:Bool
 uk:Bool
 us:Bool
 ab:Int
 fs:List Nat
def kd1:Kd:=⟨1,⟨#[100,101,110,115,101]⟩,false,true,false,-1,[1,3]⟩
def kd2:Kd:=⟨2,⟨#[114,101,108,117]⟩,false,false,false,0,[1]⟩
def kd3:Kd:=⟨3,⟨#[108,101,97,107,121]⟩,false,false,false,1,[1]⟩
def kd4:Kd:=⟨4,⟨#[97,100,100]⟩,true,false,false,0,[1,2]⟩
def kd5:Kd:=⟨5,⟨#[109,97,120,112,111,111,108]⟩,false,true,false,0,[1,3]⟩
def kd6:Kd:=⟨6,⟨#[99,111,110,118]⟩,false,true,true,-1,[1,3,4]⟩
def kd7:Kd:=⟨7,⟨#[110,111,114,109]⟩,false,false,false,4,[1]⟩
def b4(fs:List Nat)(ws:List ByteArray):Nat->Nat->Int
 | 0,_=>0
 | k+1,g=>if fs[k]?=some g then ((dv (wd ws (1+k)) (wd ws (1+k)).size:Nat):Int) else b4 fs ws k g
def apT(kd:Kd)(ws:List ByteArray):fQ:=⟨kd.op,b4 kd.fs ws kd.fs.length 1,b4 kd.fs ws kd.fs.length 2,b4 kd.fs ws kd.fs.length 3,b4 kd.fs ws kd.fs.length 4,(ws.drop (1+kd.fs.length)).length,qu (ws.drop (1+kd.fs.length))⟩
theorem fO.blk9{z a b t:Value}(h:fO w n u U z a b t)(e:v.heap[n]?=w.heap[n]?):fO v n u U z a b t:=
 ⟨(aO (a:=jj n 0) e).trans h.c0,(aO (a:=jj n 1) e).trans h.c1,(aO (a:=jj n 2) e).trans h.c2,(aO (a:=jj n 3) e).trans h.c3,(aO (a:=jj n 4) e).trans h.c4,(aO (a:=jj n 5) e).trans h.c5,fun o=>by
   have:=h.f o;unfold World.frozen? at this⊢;rw[e];exact this⟩
theorem ajj:(Tryz.prog.info? 144).map (·.size)=some 6:=by kernel_rfl
def kdBy(x:ByteArray):Kd:=([kd1,kd2,kd3,kd4,kd5,kd6,kd7].find? fun k=>decide (x=k.word)).getD kd1
def aqc:List ByteArray->Kd
 | []=>kd1
 | x::_=>kdBy x
def nD(ws:List ByteArray):fQ:=apT (aqc ws) ws
def vw(ws:List ByteArray):List ByteArray:=ws.drop (1+(aqc ws).fs.length)
section
variable{w w' w1:World}{lo k:Nat}{v v':Value}{N:Nat->List ByteArray}{xs:List Value}{zs:List (List Value)}
end
theorem alP:∃i,Tryz.prog.info? 144=some i/\i.zero=some (.agg #[.i 0,.i 0,.i 0,.i 0,.i 0,.n])/\i.size=6/\i.bytes=64:=by
 have h:(Tryz.prog.info? 144).map (fun i=>(i.zero,i.size,i.bytes))=some (some (.agg #[.i 0,.i 0,.i 0,.i 0,.i 0,.n]),6,64):=by kernel_rfl
 obtain⟨i,a,h⟩:=eE.1 h;simp only[Prod.mk.injEq] at h;exact⟨i,a,h.1,h.2.1,h.2.2⟩
theorem newN(w:World)(u U z b v r:Value)(t:TypeId):∀j q,([u,U,z,b,v,r]:List Value)[j]?=some q->(w.alloc (.cells #[u,U,z,b,v,r] t)).cell? (((jj w.heap.size 0):Addr).add j)=some q:=fun j q a=>by
 rw[Go.WideShapes.add_plain,aZ];have B:=fO.new w u U z b v r t
 rcases j with _ | _ | _ | _ | _ | _ | j
 . simp at a;subst a;exact B.c0
 . simp at a;subst a;exact B.c1
 . simp at a;subst a;exact B.c2
 . simp at a;subst a;exact B.c3
 . simp at a;subst a;exact B.c4
 . simp at a;subst a;exact B.c5
 . simp at a
theorem oneN(z y c d e:Int)(a:Option Addr)(n m:Nat):∀u∈([.i z,.i y,.i c,.i d,.i e,.slice a n m]:List Value),u.oneCell'=true:=by
 intro u f;simp at f;rcases f with rfl | rfl | rfl | rfl | rfl | rfl<;>rfl
theorem agL:(Tryz.prog.info? 115).map (·.size)=some 6:=by kernel_rfl
def lw(ns:List (Nat×List ByteArray))(i:Nat):List ByteArray:=(ns.getD i (0,[])).2
def sL(bs:List (Nat×List ByteArray)):List ByteArray:=bs.map fun b=>wd b.2 1
theorem lO.only{c:pR}{o b:List iQ}(h:lO c o)(k:lO c b):o=b:=by
 obtain⟨i,m,r,e,_,hl,f⟩:=h;obtain⟨j,n,l,a,_,d,g⟩:=k;rw[e] at a;simp only[List.cons.injEq,Prod.mk.injEq,fI,fM] at a;obtain⟨⟨-,rfl⟩,rfl⟩:=a;exact (f.only g (by rw[hl,d])).1
theorem lO.rows{c:pR}{g:List iQ}(h:lO c g)(i:n<g.length):∀r∈(mD g n).rs,mQ (mD g n).C r.2:=by
 obtain⟨d,f,r,e,_,hl,a⟩:=h;have b:mD g n∈g:=by unfold mD;rw[fP,aK i];exact jB i
 obtain⟨_,_,h⟩:=a.all _ b;exact h.rows
structure DM(w:World)(p:Nat->Prop)(c i K K':Nat)(aV:Option Addr)(gVq nV cV:Nat)(pV:Nat->Nat->Prop)(kV:Nat->Nat):Prop where
 c0:w.cell? ⟨c,i*6,none⟩=some (.int .i64 (K:Int))
 c1:w.cell? ⟨c,i*6+1,none⟩=some (.int .i64 ((K:Int)+1))
 c2:w.cell? ⟨c,i*6+2,none⟩=some (.int .i64 ((K:Int)+1+1))
 c3:w.cell? ⟨c,i*6+3,none⟩=some (.int .i64 ((K:Int)+1+1+1))
 c4:w.cell? ⟨c,i*6+4,none⟩=some (.int .i64 ((K:Int)+1+1+1+1))
 c5:w.cell? ⟨c,i*6+5,none⟩=some (.slice aV nV cV)
 V:LM w aV gVq nV pV kV
 inV:∀q,e2 gVq nV pV q->p q
 sz:nV<=1048576
 k0:kV 0=K+5
 k2:K'=kV nV
section
variable{w w':World}{S p:Nat->Prop}{c i K K':Nat}{v0 v1 v2 v3 v4:Value}{aV:Option Addr}{gVq nV cV:Nat}{pV:Nat->Nat->Prop}{kV:Nat->Nat}
end
def zG:Value:=.agg #[.int .i64 0,.int .i64 0,.slice none 0 0,.slice none 0 0,.slice none 0 0,.int .i64 0]
section
variable{w0 w w':World}{c:Nat}{a:Option Addr}{b off n cap:Nat}{X:Nat->Nat}{p p' c4 c9:Nat}{x0 x1 x2 x3 x4 x5 y0 y1 y2 y3 y4 y5:Value}
theorem xj.m4(h:xj w0 w c a b off n cap X p c4 c9 x0 x1 x2 x3 x4 x5)(M:eM w w' c4):Rp w' c a b off n cap X p/\il c w0 w':=by
 have d:=h.l4;have e:=h.lc;exact⟨h.R.marked M om,tP h.O M d⟩
theorem xj.mg(h:xj w0 w c a b off n cap X p c4 c9 x0 x1 x2 x3 x4 x5)(M:eM w w' m)(e:c4≠m)(f:c9≠m)(g:w0.heap.size<=m):xj w0 w' c a b off n cap X p c4 c9 x0 x1 x2 x3 x4 x5:=by
 have i:=h.lc;exact⟨h.l4,h.l9,i,h.B4.marked M e,h.B9.marked M f,h.R.marked M om,tP h.O M g⟩
def NL(w0 w:World)(c4 c9:Nat)(v:Value)(k:Nat)(R:Nat->fZ):Prop:=∃xs,pu w w0.heap.size (fun q=>w0.heap.size<=q/\q≠c4/\q≠c9) v k R xs/\v.ownBlock≠some c4/\v.ownBlock≠some c9
theorem NL.mv{R:Nat->fZ}(h:NL w0 w c4 c9 u n R)(hb:∀g,g<w.heap.size->w0.heap.size<=g->g≠c4/\g≠c9->w'.heap[g]?=w.heap[g]?):NL w0 w' c4 c9 u n R:=by
 obtain⟨f,L,c,d⟩:=h;exact⟨f,L.mv (fun g a=>hb g (L.own.lt g a).2 (L.own.lt g a).1 ⟨fun e=>c (e▸a),fun e=>d (e▸a)⟩) (fun g a b=>⟨hb g a b.1 b.2,b⟩),c,d⟩
theorem NL.m9{R:Nat->fZ}(h:NL w0 w c4 c9 u n R)(M:eM w w' c9):NL w0 w' c4 c9 u n R:=h.mv fun g _ _ a=>M.other g a.2
theorem NL.m4{R:Nat->fZ}(h:NL w0 w c4 c9 u n R)(M:eM w w' c4):NL w0 w' c4 c9 u n R:=h.mv fun g _ _ a=>M.other g a.1
theorem NL.aA{R:Nat->fZ}(h:NL w0 w c4 c9 u k R)(s:w.S w'):NL w0 w' c4 c9 u k R:=h.mv fun g a _ _=>s.block g a
theorem NL.bR{R:Nat->fZ}(h:NL w0 w c4 c9 u n R)(s:il c w w')(d:c<w0.heap.size):NL w0 w' c4 c9 u n R:=h.mv fun g a b _=>s.block g a om
theorem NL.of{R:Nat->fZ}{b:List Value}(L:pu w k (fun q=>k<=q) (.s n d m) d R b)(c:w0.heap.size<=k)(a:c4<k)(f:c9<k):NL w0 w c4 c9 (.s n d m) d R:=by
 have i:=(L.own.lt n rfl).1;exact⟨b,L.low c (fun q h=>by omega),fun e=>by simp[Value.ownBlock] at e;omega,fun e=>by simp[Value.ownBlock] at e;omega⟩
theorem xj.out{d:fQ}(h:xj w0 w c a b off n cap X p c4 c9 (.i d.op) (.i d.a) (.i d.b) (.i d.k) (.i d.s) (.s m d.nv e))(L:NL w0 w c4 c9 (.s m d.nv e) d.nv d.V)(M:eM w w' c4):
 ao4 w' w0.heap.size (.agg #[.i d.op,.i d.a,.i d.b,.i d.k,.i d.s,.s m d.nv e]) d/\Rp w' c a b off n cap X p/\il c w0 w':=by
 obtain⟨f,L,-,-⟩:=L.m4 M;exact⟨⟨m,e,f,rfl,L.low zR (fun q h=>h.1)⟩,h.m4 M⟩
end
theorem my{p:Prop}(h:p:=by
 have b0:=NS.B9.c0;have b1:=NS.B9.c1;have b2:=NS.B9.c2;have b3:=NS.B9.c3;have b4:=NS.B9.c4;have b5:=NS.B9.c5;have bf0:=NS.B9.f 0;have bf2:=NS.B9.f 2;have bf3:=NS.B9.f 3;have bf5:=NS.B9.f 5;have u0:=NS.B4.c0;have u1:=NS.B4.c1;have u2:=NS.B4.c2;have u3:=NS.B4.c3;have u4:=NS.B4.c4;have u5:=NS.B4.c5;have uf0:=NS.B4.f 0;have uf1:=NS.B4.f 1;have uf2:=NS.B4.f 2;have uf3:=NS.B4.f 3;have uf4:=NS.B4.f 4;have uf5:=NS.B4.f 5;go_wp2;refine bO (wK rfl underlying144 rfl ajj _ _ _ _ _ _ _ _ _ rfl ((((((NS8.B4.bE _).bH _).bF _).bX _).dX _).dC _)) rfl ?_;rw[HN.out];exact⟨_,rfl,NS8.out (d:=fQ.mk _ _ _ _ _ _ _) NL8 (((((((eM.refl _ w.heap.size).setCell 0 _).setCell 1 _).setCell 2 _).setCell 3 _).setCell 4 _).setCell 5 _)⟩):p:=h
theorem aoY{n:Nat}{a:Option Addr}{m c k i:Nat}{X:Nat->Nat}{p j l o:Nat}{Y:Nat->Nat}{w:World}(U:k<=16777216)(c9:Rp w n a m c k i X p)(m1:1<=j)(m2:j<=13)
 (HD:Ints w (jp l 0) l 0 j (fun av=>(Y av:Int)))(ak:l≠n)(hD:∀av,av<j->1<=Y av/\Y av<=8):
 Cl 108 #[.p n 0,.s l j o] w fun e w'=>∃ai,e=.returned ai/\ao4 w' w.heap.size ai (nd X k p j Y).1/\Rp w' n a m c k i X (nd X k p j Y).2/\il n w w':=by
 have bi:=c9.R.lt;have co:l<w.heap.size:=aG _ _ (HD 0 om).2;have br:=eI hD;have sA:=fA w (.o #[.i 0,.i 0,.i 0,.i 0,.i 0,.n] 144);have bA:=fO.new w (.i 0) (.i 0) (.i 0) (.i 0) (.i 0) (.n) 144;have RA:=c9.aA sA;have bm:=HD.bR (il.aD n sA) ak;obtain⟨ND,bf⟩:∃ab,nd X k p j Y=ab:=⟨_,rfl⟩;rw[bf];have bn:=eI bf;clear bf hD;go_enter func108,ntmps108;go_wp2_with fail;generalize (w.alloc _)=wA at*;have zA:=sA.size;have zb:=bA.lt;refine (@jd n a m c k i X p wA U RA).mono ?_;rintro e w1 ⟨Z,ek,rfl,hk,R1,O1⟩;have b1:=bA.bR O1 om;have ax:=(il.aD n sA).trans O1;have z1:=O1.size;have ch:=bm.bR O1 ak;have HE:=bn.out;unfold nd ndA at HE;rw[ek] at HE;have EK:=eI ek;clear RA O1 sA ek bn bA bm;go_upto_if 20 with fail;go_cut [7] (fun ai wx=>∃(t u:Nat),ai=.i (t:Int)/\t<j/\Hid (ndB X k (Z/7 % 10) t (Y t) u j Y=ND)/\Rp wx n a m c k i X u/\il n w wx/\fO wx w.heap.size (.i 0) (.i 0) (.i 0) (.i 0) (.i 0) (.n)/\wA.heap.size<=wx.heap.size)
 case first=>
  by_cases x7:Z % 7=6
  . simp only[aY x7] at HE;have g7:((Z:Int) % 7==6)=true:=(by simp;omega);have ca:¬(j:Int)=0:=om;have H2:=eI HE;clear HE x7;go_wp2_with fail;refine (@jd n a m c k i X _ w1 U R1).mono ?_;rintro e w2 ⟨I,H,rfl,an,R2,O2⟩;obtain⟨t,ht⟩:∃t,I % j=t:=⟨_,rfl⟩;have cw:=tm ht;have ay:t<j:=(by rw[<-ht];exact iS _ om);have H3:=H2.out;rw[H,ht] at H3;have H4:=eI H3;have bb:=b1.bR O2 om;have al:=ax.trans O2;have z2:=O2.size;clear H2 H3 ht H b1 O2 ax;go_wp2;go_meet
    case rel=>exact⟨t,_,rfl,ay,H4,R2,al,bb,om⟩
  . simp only[aM x7] at HE;have g7:((Z:Int) % 7==6)=false:=(by simp;omega);have H2:=eI HE;clear HE x7;go_wp2;go_meet
    case rel=>exact⟨j-1,_,congrArg (Value.int .i64) om,om,H2,R1,ax,b1,om⟩
 case rest=>
  obtain⟨t,u,rfl,ay,H2,R2,al,b2,z2⟩:=hcut;have a3:=HD.bR al ak;obtain⟨-,ct⟩:=a3 t ay;rw[aZ] at ct;have bu:=br.out t ay;obtain⟨d,hd⟩:∃d,Y t=d:=⟨_,rfl⟩;simp only[hd] at ct bu;rw[hd] at H2;have cx:(t:Int)<j:=om;obtain⟨s,e3⟩:∃s:World,s=(wc.alloc (.o #[] 70)).alloc (.o #[.i 0,.i (t:Int),.i 0,.i 0,.i 0,.s wc.heap.size 0 0] 144):=⟨_,rfl⟩;have sB:=fA wc (.o #[] 70);have zB:(wc.alloc (.o #[] 70)).heap.size=wc.heap.size+1:=by simp
  have sC:(wc.alloc (.o #[] 70)).Since (wc.alloc (.o #[] 70)).heap.size s:=by rw[e3];exact fA _ _
  have bC:fO s (wc.heap.size+1) (.i 0) (.i (t:Int)) (.i 0) (.i 0) (.i 0) (.s wc.heap.size 0 0):=by rw[e3,<-zB];exact fO.new _ _ _ _ _ _ _ _
  have cg:=al.size;have NS:xj w s n a m c k i X u w.heap.size (wc.heap.size+1) (.i 0) (.i (t:Int)) (.i 0) (.i 0) (.i 0) (.s wc.heap.size 0 0):=
   ⟨aC _,om,bi,(b2.aA sB).aA sC,bC,(R2.aA sB).aA sC,(al.trans (il.aD n sB)).trans (il.aD n sC)⟩
  have z:Hid (∀c9,NL w s w.heap.size (wc.heap.size+1) (.s wc.heap.size 0 0) 0 c9):=eI fun c9=>
   ⟨[],(pu.nil wc w.heap.size _ c9 cg).aA sC,fun e=>by simp[Value.ownBlock] at e;omega,fun e=>by simp[Value.ownBlock] at e⟩
  have S:=(a3.bR (il.aD n sB) ak).bR (il.aD n sC) ak;have z3:=sC.size;rw[zB] at z3;clear sB sC bC b2 R2 al a3 HD R1 b1 ax HE;go_upto_region 9 with fail;rw[<-e3];clear e3 ct;have cq:wc.heap.size+1≠w.heap.size:=om;have cr:w.heap.size≠wc.heap.size+1:=om;generalize ck:wc.heap.size+1=D at*;obtain⟨E,ho⟩:∃E,Z/7 % 10=E:=⟨_,rfl⟩;rw[ho] at H2;have cu:E<=9:=om;have B:=H2.out;unfold ndB at B;clear H2;have b6:E=2∨E=3∨E=4∨E=5∨(E=6/\1<d)∨E=7∨E=8∨E=9∨(E=6/\¬1<d)∨E<2:=om;rcases b6 with rfl | rfl | rfl | rfl | ⟨rfl,ab⟩ | rfl | rfl | rfl | ⟨rfl,ab⟩ | ab
  . have ae:(Z:Int)/7 % 10=2:=om;rw[aY om] at B;have HN:=eI B.symm;have NS8:=NS.bE (.i 2);have NL8:=(z.out (xY X k u)).m9 ((eM.refl _ _).setCell 0 (.i 2));clear B ho z;exact my
  . have ae:(Z:Int)/7 % 10=3:=om;rw[aY om] at B;have HN:=eI B.symm;have NS8:=NS.bE (.i 2);have NL8:=(z.out (xY X k u)).m9 ((eM.refl _ _).setCell 0 (.i 2));clear B ho z;exact my
  . have ae:(Z:Int)/7 % 10=4:=om;rw[aM om,aY om] at B;have HN:=eI B.symm;have r:=NS.bE (.i 3);have O:=(z.out (xY X k u)).m9 ((eM.refl s D).setCell 0 (.i 3));have b0:=NS.B9.c0;have bf0:=NS.B9.f 0;have V:=S.bR (il.bL ((eM.refl s D).setCell 0 (.i 3))) om;clear B ho z S;go_wp2_with fail;generalize s.setCell (jj D 0) (.i 3)=L at*;clear NS b0 bf0;refine (@xG n a m c k i X u 1 L U om r.R).mono ?_;rintro e R ⟨g,C,xs,rfl,F,P,G⟩;have zz:=r.B9.lt;have NS:=r.go P G;have NS8:=NS.dC (.s g 1 C);have NL8:=(NL.of (w0:=w) (c4:=w.heap.size) (c9:=D) F om om om).m9 ((eM.refl _ _).setCell 5 (.s g 1 C));clear F r O P G;exact my
  . have ae:(Z:Int)/7 % 10=5:=om;rw[aM om,aM om,aY om] at B;have HN:=eI B.symm;have r:=NS.bE (.i 4);have O:=(z.out (xY X k u)).m9 ((eM.refl s D).setCell 0 (.i 4));have b0:=NS.B9.c0;have bf0:=NS.B9.f 0;have V:=S.bR (il.bL ((eM.refl s D).setCell 0 (.i 4))) om;clear B ho z S;go_wp2_with fail;generalize s.setCell (jj D 0) (.i 4)=L at*;clear NS b0 bf0;have ca:¬(j:Int)=0:=om;refine (@jd n a m c k i X u L U r.R).mono ?_;rintro e R ⟨I,H,rfl,an,Q,A⟩;have NS:=r.go Q A;obtain⟨y0,cp⟩:∃t,I % j=t:=⟨_,rfl⟩;have bj:=tm cp;have az:y0<j:=(by rw[<-cp];exact iS _ om);obtain⟨BK,a9⟩:∃t,bkw Y d y0=t:=⟨_,rfl⟩;have b:=HN.out;rw[H,cp,a9] at b;have HN:=eI b;clear b;have aj:=eI a9;have bq:=V.bR A ak;have aw:=O.bR A bi;clear H cp a9 Q A r V O;go_wp2_with fail;go_loopw [11] (fun ai wr=>∃y:Nat,y<j/\ai=.i (y:Int)/\Hid (bkw Y d y=BK)/\Same R wr) (fun ai _=>(intOf ai).toNat)
    case atStart=>exact⟨y0,az,rfl,aj,Same.refl _⟩
    case round=>
     clear bj az aj;obtain⟨y,az,rfl,aj,sm⟩:=hrel;have NS:=NS.aA (sm.since _);have a4:=aw.aA (sm.since _);have c8:(y:Int)<j:=om;obtain⟨-,cy⟩:=(bq.bR (il.cI n sm) ak) y az;rw[aZ] at cy;obtain⟨dy,ag⟩:∃t,Y y=t:=⟨_,rfl⟩;simp only[ag] at cy;by_cases y0:y=0
     . subst y0;have hB:BK=0:=aj.out.symm;subst hB;by_cases q:dy=d
       . have q':((dy:Int) != (d:Int))=false:=(by simp[q]);have b:=HN.out;rw[aY (ag.trans q)] at b;have HN:=eI b;have NS8:=NS.bF (.i ((0:Nat):Int));have NL8:=a4.m9 ((eM.refl _ _).setCell 2 (.i ((0:Nat):Int)));clear b q ag;exact my
       . have q':((dy:Int) != (d:Int))=true:=(by simp;omega);have b:=HN.out;rw[aM om] at b;have HN:=eI b;have NS8:=NS.bF (.i (t:Int));have NL8:=a4.m9 ((eM.refl _ _).setCell 2 (.i (t:Int)));clear b q ag;exact my
     . have q0:(0:Int)<y:=om;obtain⟨ab,rfl⟩:∃ab,y=ab+1:=⟨y-1,om⟩;by_cases q:dy=d
       . have q':((dy:Int) != (d:Int))=false:=(by simp[q]);have hB:BK=ab+1:=(by rw[<-aj.out,bkw,aY (ag.trans q)]);have b:=HN.out;rw[hB,aY (ag.trans q)] at b;have HN:=eI b;have NS8:=NS.bF (.i ((ab+1:Nat):Int));have NL8:=a4.m9 ((eM.refl _ _).setCell 2 (.i ((ab+1:Nat):Int)));clear b q ag hB;exact my
       . have q':((dy:Int) != (d:Int))=true:=(by simp<;>omega);have bp:Hid (bkw Y d ab=BK):=eI (by rw[<-aj.out,bkw,aM om]);clear q ag aj;go_wp2;go_roundw
         case rel=>exact⟨ab,om,congrArg (Value.int .i64) om,bp,sm⟩
         case measure=>simp[intOf]
  . have x':(1:Int)<d:=om;have ae:(Z:Int)/7 % 10=6:=om;rw[aM om,aM om,aM om,aY om] at B;have HN:=eI B.symm;have r:=NS.bE (.i 5);have O:=(z.out (xY X k u)).m9 ((eM.refl s D).setCell 0 (.i 5));have b0:=NS.B9.c0;have bf0:=NS.B9.f 0;have V:=S.bR (il.bL ((eM.refl s D).setCell 0 (.i 5))) om;clear B ho z S;go_wp2_with fail;generalize s.setCell (jj D 0) (.i 5)=L at*;clear NS b0 bf0;refine (@jd n a m c k i X u L U r.R).mono ?_;rintro e R ⟨I,H,rfl,an,Q,A⟩;have NS:=r.go Q A;have aw:=O.bR A bi;obtain⟨y,cp⟩:∃t,1+I % 8=t:=⟨_,rfl⟩;have bj:1+(I:Int) % 8=(y:Int):=om;have c7:y<=8:=om;have b:=HN.out;rw[H,cp] at b;have HN:=eI b;clear b;have JP:=fun wX=>@aoP d y wX om om;obtain⟨K,hK⟩:∃K,pk d (min d (y+1))=K:=⟨_,rfl⟩;rw[hK] at JP;have b:=HN.out;rw[hK] at b;have HN:=eI b;clear b;have HJ:=eI JP;clear JP hK cp H Q A r O V;go_wp2_with fail;refine mo (HJ.out R) fun w6 sm=> ?_;have NS:=NS.aA (sm.since _);have NS8:=NS.bX (.i (K:Int));have NL8:=(aw.aA (sm.since _)).m9 ((eM.refl _ _).setCell 3 (.i (K:Int)));clear aw sm HJ;exact my
  . have ae:(Z:Int)/7 % 10=7:=om;rw[aM om,aM om,aM om,aM om,aY om] at B;have HN:=eI B.symm;have r:=NS.bE (.i 6);have O:=(z.out (xY X k u)).m9 ((eM.refl s D).setCell 0 (.i 6));have b0:=NS.B9.c0;have bf0:=NS.B9.f 0;have V:=S.bR (il.bL ((eM.refl s D).setCell 0 (.i 6))) om;clear B ho z S;go_wp2_with fail;generalize s.setCell (jj D 0) (.i 6)=L at*;clear NS b0 bf0;have cl:¬(d:Int)=0:=om;refine (@jd n a m c k i X u L U r.R).mono ?_;rintro e R ⟨I,H,rfl,an,Q,A⟩;have v:=r.go Q A;obtain⟨y,cp⟩:∃t,I % d=t:=⟨_,rfl⟩;have bj:=tm cp;have c6:y<d:=(by rw[<-cp];exact iS _ om);obtain⟨K,hK⟩:∃t,1+y=t:=⟨_,rfl⟩;have bw:1+(y:Int)=K:=om;have cj:K<=8:=om;have b:=HN.out;rw[H,cp,hK] at b;have HN:=eI b;clear b;have x:=v.bX (.i (K:Int));have q3:=v.B9.c3;have af:=v.B9.f 3;clear H cp Q A r O V hK;go_wp2_with fail;generalize R.setCell (jj D 3) (.i (K:Int))=w6 at*;clear v q3 af;refine (@jd n a m c k i X _ w6 U x.R).mono ?_;rintro e M ⟨k3,ar,rfl,b9,aq,ao⟩;have W:=x.go aq ao;obtain⟨y3,cb⟩:∃t,1+k3 % 3=t:=⟨_,rfl⟩;have cz:1+(k3:Int) % 3=(y3:Int):=om;have b:=HN.out;rw[ar,cb] at b;have HN:=eI b;clear b;have ad:=W.dX (.i (y3:Int));have q4:=W.B9.c4;have cc:=W.B9.f 4;have q3:=W.B9.c3;obtain⟨N,B⟩:∃N,K+1=N:=⟨_,rfl⟩;have bc:(K:Int)+1=(N:Int):=om;have bh:N<=9:=om;have b:=HN.out;rw[B] at b;have HN:=eI b;clear b;clear ar aq ao x B;go_wp2_with fail;generalize M.setCell (jj D 4) (.i (y3:Int))=w8 at*;clear W q4 cc q3;refine (@xG n a m c k i X _ N w8 U om ad.R).mono ?_;rintro e w9 ⟨g,C,xs,rfl,F,P,G⟩;have zz:=ad.B9.lt;have NS:=ad.go P G;have NS8:=NS.dC (.s g N C);have NL8:=(NL.of (w0:=w) (c4:=w.heap.size) (c9:=D) F om om om).m9 ((eM.refl _ _).setCell 5 (.s g N C));clear F ad P G;exact my
  . have ae:(Z:Int)/7 % 10=8:=om;rw[aM om,aM om,aM om,aM om,aM om,aY om] at B;have HN:=eI B.symm;have r:=NS.bE (.i 7);have O:=(z.out (xY X k u)).m9 ((eM.refl s D).setCell 0 (.i 7));have b0:=NS.B9.c0;have bf0:=NS.B9.f 0;have V:=S.bR (il.bL ((eM.refl s D).setCell 0 (.i 7))) om;clear B ho z S;go_wp2_with fail;generalize s.setCell (jj D 0) (.i 7)=L at*;clear NS b0 bf0;refine (@xG n a m c k i X u 4 L U om r.R).mono ?_;rintro e R ⟨g,C,xs,rfl,F,P,G⟩;have zz:=r.B9.lt;have v:=r.go P G;have x:=v.dC (.s g 4 C);have M5:=(eM.refl R D).setCell 5 (.s g 4 C);have gl:=F.own.lt g rfl;have L6:=F.marked M5 om (fun q h=>by omega);have z5:=G.size;have z6:=Nat.le_of_eq M5.size.symm;have q5:=v.B9.c5;have ce:=v.B9.f 5;clear F P G r O V M5;go_upto_region 38 with fail;generalize R.setCell (jj D 5) (.s g 4 C)=w6 at*;clear v q5 ce;have q5:=x.B9.c5;obtain⟨a1,a2,k1,I,c0,c1,c2,-⟩:=L6.cells (i:=2) om;have gf:=L6.own.frozenAt;obtain⟨s2,au⟩:∃aa,xY X k u 2=aa:=⟨_,rfl⟩;simp only[au] at c0 c1 c2;obtain⟨fs,ns,Xs,ms,Ys⟩:=s2;simp only[Nat.reduceMul,Nat.reduceAdd] at c0 c1 c2;have b7:w.heap.size≠g:=om;have b8:D≠g:=om;have cm:g≠w.heap.size:=om;have cn:g≠D:=om;by_cases h0:ns=0
    . subst h0
      have L7:=eI (fun (M:World) (cf:w6.S M) (aa:fZ) (b1 b2:Option Addr) (l1 l2:Nat) (K:lH M (fun q=>w6.heap.size<=q) aa b1 b2 l1 l2) (er:rd (mkRat 2 1)=aa)=>(by
       obtain⟨a0,bs⟩:=(L6.aA cf).put 2 (K.mv (p':=fun q=>L.heap.size<=q/\q≠g) fun q _ h=>⟨rfl,by have:=x.B9.lt;omega,om⟩);exact⟨a0,bs.congr (R':=fun ac=>if ac=2/\(xY X k u 2).n=0 then rd (mkRat 2 1) else xY X k u ac) (fun ac _=>by
        by_cases e:ac=2
        . rw[aY e,aY ⟨e,by rw[au]⟩,er]
        . rw[aM e,aM (fun h=>e h.1)])⟩:∃a0,pu (((M.setCell (jj g 6) (.bool aa.neg)).setCell (jj g 7) (.l b1 aa.n l1)).setCell (jj g 8) (.l b2 aa.m l2)) L.heap.size (fun q=>L.heap.size<=q) (.s g 4 C) 4 (fun ac=>if ac=2/\(xY X k u 2).n=0 then rd (mkRat 2 1) else xY X k u ac) a0))
      have J1:=@pK 2 1 w6.drew om om om om;obtain⟨aa,hr⟩:∃aa,rd (mkRat 2 (1:Int).toNat)=aa:=⟨_,rfl⟩;rw[hr] at J1;have HR:Hid (rd (mkRat 2 1)=aa):=eI hr;obtain⟨f2,n2,X2,m2,Y2⟩:=aa;have a6:=gf 6;have a7:=gf 7;have a8:=gf 8;clear hr au gf;go_wp2_with fail
      go_region_held3 (fun w'=>w'.cell? (jj D 5)=some (.s g 4 C)) (go_keep)
       (first
         | (go_at_call 152;(with_reducible refine J1.mono ?_);rintro e M ⟨b1,b2,l1,l2,rfl,K7,s7⟩;have ah:w6.S M:=⟨s7.os,s7.tape,s7.output,s7.size,s7.block⟩;have a5:=x.aA ah;have q5:=a5.B9.c5;have c0:M.cell? (jj g 6)=_:=(ah.cell (a:=jj g 6) (by show g<_;omega)).trans c0;have c1:M.cell? (jj g 7)=_:=(ah.cell (a:=jj g 7) (by show g<_;omega)).trans c1;have c2:M.cell? (jj g 8)=_:=(ah.cell (a:=jj g 8) (by show g<_;omega)).trans c2;have a6:M.frozen? (jj g 6)=false:=(ah.frozen (a:=jj g 6) (by show g<_;omega)).trans a6;have a7:M.frozen? (jj g 7)=false:=(ah.frozen (a:=jj g 7) (by show g<_;omega)).trans a7;have a8:M.frozen? (jj g 8)=false:=(ah.frozen (a:=jj g 8) (by show g<_;omega)).trans a8;obtain⟨a0,LZ⟩:=L7.out M ah _ b1 b2 l1 l2 K7 HR.out;have NS:=a5.mg ((((eM.refl M g).setCell 6 (.bool f2)).setCell 7 (.l b1 n2 l1)).setCell 8 (.l b2 m2 l2)) b7 b8 om))
      all_goals
       clear J1 L7 HR K7 c0 c1 c2 a6 a7 a8 q5;generalize ((M.setCell (jj g 6) (.bool f2)).setCell (jj g 7) (.l b1 n2 l1)).setCell (jj g 8) (.l b2 m2 l2)=w8 at*;have NS8:=NS;have NL8:=NL.of (w0:=w) (c4:=w.heap.size) (c9:=D) LZ om om om;clear LZ x a5 L6;exact my
    . have ci:((ns:Int)==0)=false:=(by simp;omega);have NS:=x;have NS8:=x;have NL8:=NL.of (w0:=w) (c4:=w.heap.size) (c9:=D) (L6.congr (R':=fun ac=>if ac=2/\(xY X k u 2).n=0 then rd (mkRat 2 1) else xY X k u ac) (fun ac _=>by rw[aM (fun h=>h0 (by have:=h.2;rw[au] at this;exact this))])) om om om;clear au h0 L6 c0 c2 gf x;exact my
  . have ae:(Z:Int)/7 % 10=9:=om;rw[aM om,aM om,aM om,aM om,aM om,aM om,aY om] at B;have HN:=eI B.symm;have r:=NS.bE (.i 1);have O:=(z.out (xY X k u)).m9 ((eM.refl s D).setCell 0 (.i 1));have b0:=NS.B9.c0;have bf0:=NS.B9.f 0;have V:=S.bR (il.bL ((eM.refl s D).setCell 0 (.i 1))) om;clear B ho z S;go_wp2_with fail;generalize s.setCell (jj D 0) (.i 1)=L at*;clear NS b0 bf0;refine (@jd n a m c k i X u L U r.R).mono ?_;rintro e R ⟨I,H,rfl,an,Q,A⟩;have v:=r.go Q A;obtain⟨T,am⟩:∃t,1+I % 4=t:=⟨_,rfl⟩;have bo:1+(I:Int) % 4=(T:Int):=om;have ba:T<=4:=om;have x:=v.bX (.i (T:Int));have q3:=v.B9.c3;have af:=v.B9.f 3;clear H Q A r O V am;go_wp2_with fail;generalize R.setCell (jj D 3) (.i (T:Int))=w6 at*;clear v q3 af;refine (@jd n a m c k i X _ w6 U x.R).mono ?_;rintro e M ⟨k3,ar,rfl,b9,aq,ao⟩;have W:=x.go aq ao;obtain⟨K,hK⟩:∃t,4+k3 % 4=t:=⟨_,rfl⟩;have bw:4+(k3:Int) % 4=(K:Int):=om;have bz:K<=7:=om;obtain⟨N,B⟩:∃N,K*(d+1)=N:=⟨_,rfl⟩;have bh:N<=63:=(by rw[<-B];exact dF bz (show d+1<=9 by omega));have bc:(K:Int)*((d:Int)+1)=(N:Int):=(by rw[<-B];simp);have b:=HN.out;rw[ar,hK,B] at b;have HN:=eI b;clear b;have ad:=W.bX (.i (K:Int));have q3:=W.B9.c3;have af:=W.B9.f 3;clear ar aq ao x B hK;go_wp2_with fail;generalize M.setCell (jj D 3) (.i (K:Int))=w8 at*;clear W q3 af;refine (@xG n a m c k i X _ N w8 U om ad.R).mono ?_;rintro e w9 ⟨g,C,xs,rfl,F,P,G⟩;have zz:=ad.B9.lt;have NS:=ad.go P G;have NS8:=NS.dC (.s g N C);have NL8:=(NL.of (w0:=w) (c4:=w.heap.size) (c9:=D) F om om om).m9 ((eM.refl _ _).setCell 5 (.s g N C));clear F ad P G;exact my
  . have x':¬(1:Int)<d:=om;have ae:(Z:Int)/7 % 10=6:=om;rw[aM om,aM om,aM om,aM om,aM om,aM om,aM om,aY om] at B;have HN:=eI B.symm;have r:=NS.bE (.i 1);have O:=(z.out (xY X k u)).m9 ((eM.refl s D).setCell 0 (.i 1));have b0:=NS.B9.c0;have bf0:=NS.B9.f 0;have V:=S.bR (il.bL ((eM.refl s D).setCell 0 (.i 1))) om;clear B ho z S;go_wp2_with fail;generalize s.setCell (jj D 0) (.i 1)=L at*;clear NS b0 bf0;refine (@jd n a m c k i X u L U r.R).mono ?_;rintro e R ⟨I,H,rfl,an,Q,A⟩;have v:=r.go Q A;obtain⟨T,am⟩:∃t,1+I % 4=t:=⟨_,rfl⟩;have bo:1+(I:Int) % 4=(T:Int):=om;have ba:T<=4:=om;have x:=v.bX (.i (T:Int));have q3:=v.B9.c3;have af:=v.B9.f 3;clear H Q A r O V am;have W:=x.bX (.i 6);obtain⟨N,B⟩:∃N,6*(d+1)=N:=⟨_,rfl⟩;have bh:N<=54:=om;have bc:6*((d:Int)+1)=(N:Int):=om;have b:=HN.out;rw[B] at b;have HN:=eI b;clear b;clear B;go_wp2_with fail;generalize (R.setCell (jj D 3) (.i (T:Int))).setCell (jj D 3) (.i 6)=w8 at*;clear v q3 af;refine (@xG n a m c k i X _ N w8 U om W.R).mono ?_;rintro e w9 ⟨g,C,xs,rfl,F,P,G⟩;have zz:=W.B9.lt;have NS:=W.go P G;have NS8:=NS.dC (.s g N C);have NL8:=(NL.of (w0:=w) (c4:=w.heap.size) (c9:=D) F om om om).m9 ((eM.refl _ _).setCell 5 (.s g N C));clear F W P G;exact my
  . have ae:(Z:Int)/7 % 10=(E:Int):=om;have n2:((E:Int)==2)=false:=(by simp;omega);have n3:((E:Int)==3)=false:=(by simp;omega);have n4:((E:Int)==4)=false:=(by simp;omega);have n5:((E:Int)==5)=false:=(by simp;omega);have n6:((E:Int)==6)=false:=(by simp;omega);have n7:((E:Int)==7)=false:=(by simp;omega);have n8:((E:Int)==8)=false:=(by simp;omega);have n9:((E:Int)==9)=false:=(by simp;omega);rw[aM om,aM om,aM om,aM om,aM om,aM om,aM om,aM om] at B;have HN:=eI B.symm;have r:=NS.bE (.i 1);have O:=(z.out (xY X k u)).m9 ((eM.refl s D).setCell 0 (.i 1));have b0:=NS.B9.c0;have bf0:=NS.B9.f 0;have V:=S.bR (il.bL ((eM.refl s D).setCell 0 (.i 1))) om;clear B ho z S;go_wp2_with fail;generalize s.setCell (jj D 0) (.i 1)=L at*;clear NS b0 bf0;refine (@jd n a m c k i X u L U r.R).mono ?_;rintro e R ⟨I,H,rfl,an,Q,A⟩;have v:=r.go Q A;obtain⟨T,am⟩:∃t,1+I % 4=t:=⟨_,rfl⟩;have bo:1+(I:Int) % 4=(T:Int):=om;have ba:T<=4:=om;have b:=HN.out;rw[H,am] at b;have HN:=eI b;clear b;have x:=v.bX (.i (T:Int));have q3:=v.B9.c3;have af:=v.B9.f 3;clear H Q A r O V am;have q4:=v.B9.c4;obtain⟨N,B⟩:∃N,T*(d+1)=N:=⟨_,rfl⟩;have bh:N<=36:=(by rw[<-B];exact dF ba (show d+1<=9 by omega));have bc:(T:Int)*((d:Int)+1)=(N:Int):=(by rw[<-B];simp);have b:=HN.out;rw[B] at b;have HN:=eI b;clear b;clear B;go_wp2_with fail;generalize R.setCell (jj D 3) (.i (T:Int))=w6 at*;clear v q3 af q4;refine (@xG n a m c k i X _ N w6 U om x.R).mono ?_;rintro e w9 ⟨g,C,xs,rfl,F,P,G⟩;have zz:=x.B9.lt;have NS:=x.go P G;have NS8:=NS.dC (.s g N C);have NL8:=(NL.of (w0:=w) (c4:=w.heap.size) (c9:=D) F om om om).m9 ((eM.refl _ _).setCell 5 (.s g N C));clear F x P G;exact my
structure tx(w0 w:World)(c:Nat)(a:Option Addr)(b off n cap:Nat)(X:Nat->Nat)(p c4 c9:Nat)(x0 x1 x2 x3 x4 x5:Value):Prop where
 l4:w0.heap.size<=c4
 l9:w0.heap.size<=c9
 ne:c9≠c4
 lc:c<w0.heap.size
 B4:fO w c4 (.int .i64 0) (.int .i64 0) (.slice none 0 0) (.slice none 0 0) (.slice none 0 0) (.int .i64 0)
 B9:fO w c9 x0 x1 x2 x3 x4 x5
 R:Rp w c a b off n cap X p
 O:il c w0 w
section
variable{w0 w w':World}{c:Nat}{a:Option Addr}{b off n cap:Nat}{X:Nat->Nat}{p p' c4 c9:Nat}{x0 x1 x2 x3 x4 x5 y0 y1 y2 y3 y4 y5:Value}
theorem tx.m9(h:tx w0 w c a b off n cap X p c4 c9 x0 x1 x2 x3 x4 x5)(M:eM w w' c9)(B:fO w' c9 y0 y1 y2 y3 y4 y5):tx w0 w' c a b off n cap X p c4 c9 y0 y1 y2 y3 y4 y5:=by
 have e:=h.lc;have d:=h.l9;exact⟨h.l4,d,h.ne,e,h.B4.marked M h.ne.symm,B,h.R.marked M om,tP h.O M d⟩
theorem tx.bE(h:tx w0 w c a b off n cap X p c4 c9 x0 x1 x2 x3 x4 x5)(u:Value):tx w0 (w.setCell ⟨c9,0,none⟩ u) c a b off n cap X p c4 c9 u x1 x2 x3 x4 x5:=h.m9 ((eM.refl _ _).setCell 0 u) (h.B9.bE u)
theorem tx.bH(h:tx w0 w c a b off n cap X p c4 c9 x0 x1 x2 x3 x4 x5)(u:Value):tx w0 (w.setCell ⟨c9,1,none⟩ u) c a b off n cap X p c4 c9 x0 u x2 x3 x4 x5:=h.m9 ((eM.refl _ _).setCell 1 u) (h.B9.bH u)
theorem tx.bF(h:tx w0 w c a b off n cap X p c4 c9 x0 x1 x2 x3 x4 x5)(u:Value):tx w0 (w.setCell ⟨c9,2,none⟩ u) c a b off n cap X p c4 c9 x0 x1 u x3 x4 x5:=h.m9 ((eM.refl _ _).setCell 2 u) (h.B9.bF u)
theorem tx.bX(h:tx w0 w c a b off n cap X p c4 c9 x0 x1 x2 x3 x4 x5)(u:Value):tx w0 (w.setCell ⟨c9,3,none⟩ u) c a b off n cap X p c4 c9 x0 x1 x2 u x4 x5:=h.m9 ((eM.refl _ _).setCell 3 u) (h.B9.bX u)
theorem tx.dX(h:tx w0 w c a b off n cap X p c4 c9 x0 x1 x2 x3 x4 x5)(u:Value):tx w0 (w.setCell ⟨c9,4,none⟩ u) c a b off n cap X p c4 c9 x0 x1 x2 x3 u x5:=h.m9 ((eM.refl _ _).setCell 4 u) (h.B9.dX u)
theorem tx.dC(h:tx w0 w c a b off n cap X p c4 c9 x0 x1 x2 x3 x4 x5)(u:Value):tx w0 (w.setCell ⟨c9,5,none⟩ u) c a b off n cap X p c4 c9 x0 x1 x2 x3 x4 u:=h.m9 ((eM.refl _ _).setCell 5 u) (h.B9.dC u)
theorem tx.go(h:tx w0 w c a b off n cap X p c4 c9 x0 x1 x2 x3 x4 x5)(R:Rp w' c a b off n cap X p')(O:il c w w'):tx w0 w' c a b off n cap X p' c4 c9 x0 x1 x2 x3 x4 x5:=by
 have d:=h.l4;have e:=h.l9;have f:=h.lc;exact⟨d,e,h.ne,f,h.B4.bR O om,h.B9.bR O om,R,h.O.trans O⟩
theorem tx.aA(h:tx w0 w c a b off n cap X p c4 c9 x0 x1 x2 x3 x4 x5)(s:w.S w'):tx w0 w' c a b off n cap X p c4 c9 x0 x1 x2 x3 x4 x5:=h.go (h.R.aA s) (il.aD c s)
theorem fO.grown{b:Option Nat}(h:fO w c x0 x1 x2 x3 x4 x5)(g:w.grownBy w' b)(a:b≠some c):fO w' c x0 x1 x2 x3 x4 x5:=by
 have hb:=g.block c h.lt (fun e=>a e.symm);exact⟨(aO (a:=jj c 0) hb).trans h.c0,(aO (a:=jj c 1) hb).trans h.c1,(aO (a:=jj c 2) hb).trans h.c2,(aO (a:=jj c 3) hb).trans h.c3,(aO (a:=jj c 4) hb).trans h.c4,(aO (a:=jj c 5) hb).trans h.c5,fun k=>(dK (a:=jj c k) hb).trans (h.f k)⟩
theorem tx.grown{i:Option Nat}(h:tx w0 w c a b off n cap X p c4 c9 x0 x1 x2 x3 x4 x5)(g:w.grownBy w' i)(d:∀q,i=some q->w0.heap.size<=q/\q≠c4/\q≠c9):tx w0 w' c a b off n cap X p c4 c9 x0 x1 x2 x3 x4 x5:=by
 have f:=h.lc;exact⟨h.l4,h.l9,h.ne,f,h.B4.grown g (fun e=>(d _ e).2.1 rfl),h.B9.grown g (fun e=>(d _ e).2.2 rfl),h.R.grown g (fun q e=>by have:=(d q e).1;omega),h.O.grown g (fun q e=>(d q e).1)⟩
theorem tx.m4(h:tx w0 w c a b off n cap X p c4 c9 x0 x1 x2 x3 x4 x5)(M:eM w w' c4):Rp w' c a b off n cap X p/\il c w0 w':=by
 have d:=h.l4;have e:=h.lc;exact⟨h.R.marked M om,tP h.O M d⟩
end
def ax(w:World)(lab:Nat->Nat)(i:Nat)(xs:List Value)(d:fQ):Prop:=
 ∃g cp ys,xs[i*6]?=some (.int .i64 d.op)/\xs[i*6+1]?=some (.int .i64 d.a)/\xs[i*6+2]?=some (.int .i64 d.b)/\xs[i*6+3]?=some (.int .i64 d.k)/\xs[i*6+4]?=some (.int .i64 d.s)/\xs[i*6+5]?=some (.slice (some ⟨g,0,none⟩) d.nv cp)/\pu w 0 (fun q=>lab q=0) (.slice (some ⟨g,0,none⟩) d.nv cp) d.nv d.V ys/\lab g=10+i
structure mK(w:World)(lab:Nat->Nat)(vL vH vN:Value)(nl nh nn:Nat)(Lo Hi:Nat->fZ)(N:Nat->fQ):Prop where
 lo:∃xs,pu w 0 (fun q=>lab q=0) vL nl Lo xs
 lb:∀g,vL.ownBlock=some g->lab g=1
 hi:∃xs,pu w 0 (fun q=>lab q=0) vH nh Hi xs
 hb:∀g,vH.ownBlock=some g->lab g=2
 no:∃xs,w.ownsRow 0 144 6 vN nn xs/\∀i,i<nn->ax w lab i xs (N i)
 nb:∀g,vN.ownBlock=some g->lab g=3
section
variable{w w':World}{lab lab':Nat->Nat}{vL vH vN vL' vH' vN':Value}{nl nh nn nl' nh' nn':Nat}{Lo Hi Lo' Hi':Nat->fZ}{N N':Nat->fQ}{xs:List Value}
theorem bZ{e:TypeId}(h:w.ownsRow c e n u m xs)(i:∀g,u.ownBlock=some g->w'.heap[g]?=w.heap[g]?):w'.ownsRow c e n u m xs:=by
 obtain⟨hl,k | ⟨g,a,b,rfl,d,f,j⟩⟩:=h
 . exact⟨hl,Or.inl k⟩
 . exact⟨hl,Or.inr ⟨g,a,b,rfl,d,(i g (by simp[Value.ownBlock])).trans f,j⟩⟩
theorem ax.mv(h:ax w lab n xs D)(hb:∀g,g<w.heap.size->lab g=0∨lab g=10+n->w'.heap[g]?=w.heap[g]?/\lab' g=lab g):ax w' lab' n xs D:=by
 obtain⟨g,f,p,j,k,l,m,d,o,L,e⟩:=h;have b:=(L.own.lt g rfl).2;exact⟨g,f,p,j,k,l,m,d,o,L.mv (fun q a=>by simp[Value.ownBlock] at a;subst a;exact (hb g b (Or.inr e)).1) (fun q a c=>by
  have:=hb q a (Or.inl c);exact⟨this.1,this.2.trans c⟩),(hb g b (Or.inr e)).2.trans e⟩
theorem mK.mv(h:mK w lab vL vH vN nl nh nn Lo Hi N)(hb:∀g,g<w.heap.size->lab g<=3∨10<=lab g->w'.heap[g]?=w.heap[g]?/\lab' g=lab g):mK w' lab' vL vH vN nl nh nn Lo Hi N:=by
 obtain⟨z,c⟩:=h.lo;obtain⟨A,d⟩:=h.hi;obtain⟨B,f,u⟩:=h.no;have m:∀q,q<w.heap.size->lab q=0->w'.heap[q]?=w.heap[q]?/\lab' q=0:=fun q y k=>by have:=hb q y (Or.inl om);exact⟨this.1,this.2.trans k⟩
 have b:∀ {v:Value} {n:Nat} {e:TypeId} {s:Nat} {C:List Value} {t:Nat},w.ownsRow 0 e s v n C->t<=3->(∀g,v.ownBlock=some g->lab g=t)->(∀g,v.ownBlock=some g->w'.heap[g]?=w.heap[g]?)/\∀g,v.ownBlock=some g->lab' g=t:=fun j l hl=>
  ⟨fun g a=>(hb g (j.lt g a).2 (Or.inl (by rw[hl g a];exact l))).1,fun g a=>(hb g (j.lt g a).2 (Or.inl (by rw[hl g a];exact l))).2.trans (hl g a)⟩
 have o:=b c.own om h.lb;have p:=b d.own om h.hb;have r:=b f om h.nb;exact⟨⟨z,c.mv o.1 m⟩,o.2,⟨A,d.mv p.1 m⟩,p.2,⟨B,bZ f r.1,fun i x=>(u i x).mv fun g a k=>hb g a om⟩,r.2⟩
theorem mK.aA(h:mK w lab vL vH vN nl nh nn Lo Hi N)(s:w.S w'):mK w' lab vL vH vN nl nh nn Lo Hi N:=h.mv fun g a _=>⟨s.block g a,rfl⟩
theorem mK.bR(h:mK w lab vL vH vN nl nh nn Lo Hi N)(s:il c w w')(b:lab c=9):mK w' lab vL vH vN nl nh nn Lo Hi N:=h.mv fun g a hl=>⟨s.block g a (fun e=>by subst e;omega),rfl⟩
theorem mK.mkd(h:mK w lab vL vH vN nl nh nn Lo Hi N)(s:eM w w' n)(a:lab n=9):mK w' lab vL vH vN nl nh nn Lo Hi N:=h.mv fun g _ hl=>⟨s.other g (fun e=>by subst e;omega),rfl⟩
def lu(lab:Nat->Nat)(B:Nat)(f:Nat->Nat):Nat->Nat:=fun g=>if B<=g then f g else lab g
theorem mL(h:m<n):lu lab n X m=lab m:=aM om
theorem rW(h:n<=m):lu lab n X m=X m:=aY h
theorem mK.lu(h:mK w lab vL vH vN nl nh nn Lo Hi N)(X:Nat->Nat)(a:w.heap.size<=n):mK w (lu lab n X) vL vH vN nl nh nn Lo Hi N:=h.mv fun g b _=>⟨rfl,mL om⟩
theorem mK.setL(h:mK w lab vL vH vN nl nh nn Lo Hi N)(hb:∀g,g<w.heap.size->lab g≠1->w'.heap[g]?=w.heap[g]?)(hl:∀g,g<w.heap.size->lab' g=lab g)(L:∃p,pu w' 0 (fun q=>lab' q=0) vL' nl' Lo' p)(m:∀g,vL'.ownBlock=some g->lab' g=1):mK w' lab' vL' vH vN nl' nh nn Lo' Hi N:=by
 obtain⟨n,b⟩:=h.hi;obtain⟨o,c,k⟩:=h.no;have f:∀g,vH.ownBlock=some g->w'.heap[g]?=w.heap[g]?/\lab' g=2:=fun g a=>⟨hb g (b.own.lt g a).2 (by rw[h.hb g a];omega),(hl g (b.own.lt g a).2).trans (h.hb g a)⟩;have j:∀g,vN.ownBlock=some g->w'.heap[g]?=w.heap[g]?/\lab' g=3:=fun g a=>⟨hb g (c.lt g a).2 (by rw[h.nb g a];omega),(hl g (c.lt g a).2).trans (h.nb g a)⟩;exact⟨L,m,⟨n,b.mv (fun g a=>(f g a).1) (fun q e d=>⟨hb q e om,(hl q e).trans d⟩)⟩,fun g a=>(f g a).2,⟨o,bZ c (fun g a=>(j g a).1),fun i l=>(k i l).mv fun g a d=>⟨hb g a om,hl g a⟩⟩,fun g a=>(j g a).2⟩
theorem mK.setH(h:mK w lab vL vH vN nl nh nn Lo Hi N)(hb:∀g,g<w.heap.size->lab g≠2->w'.heap[g]?=w.heap[g]?)(hl:∀g,g<w.heap.size->lab' g=lab g)(L:∃p,pu w' 0 (fun q=>lab' q=0) vH' nh' Hi' p)(m:∀g,vH'.ownBlock=some g->lab' g=2):mK w' lab' vL vH' vN nl nh' nn Lo Hi' N:=by
 obtain⟨n,b⟩:=h.lo;obtain⟨o,c,k⟩:=h.no;have f:∀g,vL.ownBlock=some g->w'.heap[g]?=w.heap[g]?/\lab' g=1:=fun g a=>⟨hb g (b.own.lt g a).2 (by rw[h.lb g a];omega),(hl g (b.own.lt g a).2).trans (h.lb g a)⟩;have j:∀g,vN.ownBlock=some g->w'.heap[g]?=w.heap[g]?/\lab' g=3:=fun g a=>⟨hb g (c.lt g a).2 (by rw[h.nb g a];omega),(hl g (c.lt g a).2).trans (h.nb g a)⟩;exact⟨⟨n,b.mv (fun g a=>(f g a).1) (fun q e d=>⟨hb q e om,(hl q e).trans d⟩)⟩,fun g a=>(f g a).2,L,m,⟨o,bZ c (fun g a=>(j g a).1),fun i l=>(k i l).mv fun g a d=>⟨hb g a om,hl g a⟩⟩,fun g a=>(j g a).2⟩
theorem mK.setN(h:mK w lab vL vH vN nl nh nn Lo Hi N)(hb:∀g,g<w.heap.size->lab g≠3->w'.heap[g]?=w.heap[g]?)(hl:∀g,g<w.heap.size->lab' g=lab g)(L:∃k,w'.ownsRow 0 144 6 vN' nn' k/\∀i,i<nn'->ax w' lab' i k (N' i))(l:∀g,vN'.ownBlock=some g->lab' g=3):mK w' lab' vL vH vN' nl nh nn' Lo Hi N':=by
 obtain⟨m,c⟩:=h.lo;obtain⟨n,d⟩:=h.hi;have f:∀g,vL.ownBlock=some g->w'.heap[g]?=w.heap[g]?/\lab' g=1:=fun g a=>⟨hb g (c.own.lt g a).2 (by rw[h.lb g a];omega),(hl g (c.own.lt g a).2).trans (h.lb g a)⟩;have j:∀g,vH.ownBlock=some g->w'.heap[g]?=w.heap[g]?/\lab' g=2:=fun g a=>⟨hb g (d.own.lt g a).2 (by rw[h.hb g a];omega),(hl g (d.own.lt g a).2).trans (h.hb g a)⟩;exact⟨⟨m,c.mv (fun g a=>(f g a).1) (fun q b e=>⟨hb q b om,(hl q b).trans e⟩)⟩,fun g a=>(f g a).2,⟨n,d.mv (fun g a=>(j g a).1) (fun q b e=>⟨hb q b om,(hl q b).trans e⟩)⟩,fun g a=>(j g a).2,L,l⟩
theorem pu.app{R:Nat->fZ}(h:pu w 0 (fun q=>lab q=0) u n R xs)(i:∀g,u.ownBlock=some g->lab g=m)(p:0<m)(l:w.S v)(o:w.heap.size<v.heap.size)(g:v.grownBy w' u.ownBlock)
 (own:w'.ownsRow 0 70 3 U (n+1) (xs++[.bool (R n).neg,.l a (R n).n c,.l A (R n).m d]))(k:U.ownBlock=u.ownBlock∨U.ownBlock=some v.heap.size)(r:lH w (fun q=>lab q=0) (R n) a A c d):
 (∃j,pu w' 0 (fun q=>lu lab w.heap.size (fun _=>m) q=0) U (n+1) R j)/\(∀q,U.ownBlock=some q->lu lab w.heap.size (fun _=>m) q=m)/\∀q,q<w.heap.size->lab q≠m->w'.heap[q]?=w.heap[q]?:=by
 have L:=(h.mv (w':=w) (p':=fun q=>lab q=0/\q<w.heap.size) (fun _ _=>rfl) (fun q b f=>⟨rfl,f,b⟩)).snoc (a1:=a) (a2:=A) (k1:=c) (k2:=d) l o g own k (r.mv fun q b f=>⟨rfl,⟨f,b⟩,fun e=>by have:=i q e;omega⟩);refine⟨⟨_,L.mv (fun _ _=>rfl) (fun q _ f=>⟨rfl,(mL f.2).trans f.1⟩)⟩,fun q b=> ?_,fun q b hl=>(g.block q om (fun e=>hl (i q e.symm))).trans (l.block q b)⟩;rcases k with e | e
 . rw[e] at b;rw[mL (h.own.lt q b).2];exact i q b
 . rw[e] at b;simp only[Option.some.injEq] at b;exact rW om
end
structure ap3(D:Nat->Nat)(m:Nat)(d:fQ):Prop where
 a:0<=d.a/\d.a<m
 op:0<=d.op/\d.op<=7
 b:0<=d.b/\d.b<=1000
 k:0<=d.k/\d.k<=1000
 s:0<=d.s/\d.s<=1000
 c5:d.op=5->1<=d.k/\d.k<=1000
 c6:d.op=6->1<=d.k/\d.k<=D d.a.toNat/\1<=d.s/\d.s<=1000
 dim:1<=rh d.op d.k d.s (D d.a.toNat)/\rh d.op d.k d.s (D d.a.toNat)<=8
 nv:d.nv<=63
 V:∀i,i<d.nv->∃q,d.V i=rd q/\Qb q 11
theorem aoO(n m:Nat):pk n m<=max 1 m:=by
 induction m with
 | zero=>simp[pk]
 | succ m ih=>unfold pk;split<;>omega
theorem akM(h:Qb Q n):(rd Q).n<=n/\(rd Q).m<=n:=⟨th h.1,th h.2⟩
section
variable{X:Nat->Nat}{n:Nat}
theorem aon(a:∀j,j<n->X j<256)(m c:Nat)(Y:Nat->Nat)(u:1<=c)(v:c<=13)(f:∀j,j<c->1<=Y j/\Y j<=8):ap3 Y c (nd X n m c Y).1:=by
 unfold nd;have g:(ndA X n m c).1<c:=by
  unfold ndA;split
  . exact iS _ om
  . show c-1<c;omega
 generalize (ndA X n m c).1=t at*;generalize (ndA X n m c).2=p2;have q:=f t g;have x:=wQ a p2;have A:=wQ a (nP n p2);have hb:=apz Y (Y t) (nV X n p2 % c);have o:nV X n p2 % c<c:=iS _ om;have r:nV X n p2 % Y t<Y t:=iS _ om;have w:((t:Int)).toNat=t:=by simp
 unfold ndB;split
 . exact⟨by simp;omega,qz,qz,qz,qz,qz,qz,by simp[rh];omega,qz,fun i b=>absurd b qz⟩
 split
 . exact⟨by simp;omega,qz,qz,qz,qz,qz,qz,by simp[rh];omega,qz,fun i _=>⟨_,rfl,(rU a _).2⟩⟩
 split
 . refine⟨by simp;omega,qz, ?_,qz,qz,qz,qz,by simp[rh];omega,qz,fun i b=>absurd b qz⟩;simp only;split<;>omega
 split
 . have k:=apO (Y t) (min (Y t) (1+nV X n p2 % 8+1));have l:=aoO (Y t) (min (Y t) (1+nV X n p2 % 8+1));generalize pk (Y t) (min (Y t) (1+nV X n p2 % 8+1))=K at*;refine⟨by simp;omega,qz,qz,by simp;omega,qz,fun _=>by simp;omega,qz, ?_,qz,fun i b=>absurd b qz⟩;have p:1<=Y t/K:=tS om om;have d:Y t/K<=Y t:=iV _ _;have e:((Y t:Int)/(K:Int))=((Y t/K:Nat):Int):=(by simp);simp[rh];rw[e];omega
 split
 . generalize nV X n p2 % Y t=y at*;generalize s:nV X n (nP n p2) % 3=z at*;refine⟨by simp;omega,qz,qz,by simp;omega,by simp;omega,qz,fun _=>by simp;omega, ?_,by simp;omega,fun i _=>⟨_,rfl,(rU a _).2⟩⟩;have p:0<=((Y t:Int)-(1+(y:Int)))/(1+(z:Int)):=qH om om;have d:((Y t:Int)-(1+(y:Int)))/(1+(z:Int))<=(Y t:Int)-(1+(y:Int)):=rI _ om;simp[rh];omega
 split
 . refine⟨by simp;omega,qz,qz,qz,qz,qz,qz,by simp[rh];omega,qz,fun i _=> ?_⟩;simp only;split
   . exact⟨_,rfl,(b1 (z:=2) (d:=1) (k:=1) qd qd qd).more om⟩
   . exact⟨_,rfl,(rU a _).2⟩
 split
 . have h:(4+nV X n (nP n p2) % 4)*(Y t+1)<=7*9:=dF om om;exact⟨by simp;omega,qz,qz,by simp;omega,qz,qz,qz,by simp[rh];omega,h,fun i _=>⟨_,rfl,(rU a _).2⟩⟩
 split
 . exact⟨by simp;omega,qz,qz,qz,qz,qz,qz,by simp[rh],by simp;omega,fun i _=>⟨_,rfl,(rU a _).2⟩⟩
 . have h:(1+nV X n p2 % 4)*(Y t+1)<=4*9:=dF om om;exact⟨by simp;omega,qz,qz,by simp;omega,qz,qz,qz,by simp[rh];omega,aU h qd,fun i _=>⟨_,rfl,(rU a _).2⟩⟩
end
def sdP(X:Nat->Nat)(n p:Nat):Nat->Nat
 | 0=>p
 | i+1=>(sd X n (sdP X n p i)).2
def sdL(X:Nat->Nat)(n p i:Nat):fZ:=rd (sd X n (sdP X n p i)).1.1
def sdH(X:Nat->Nat)(n p i:Nat):fZ:=rd (sd X n (sdP X n p i)).1.2
def gS(X:Nat->Nat)(n p K:Nat):Nat->(Nat->Nat)×Nat
 | 0=>(fun _=>K,p)
 | i+1=>(fun j=>if j<=i then (gS X n p K i).1 j else (rh (nd X n (gS X n p K i).2 (i+1) (gS X n p K i).1).1.op (nd X n (gS X n p K i).2 (i+1) (gS X n p K i).1).1.k (nd X n (gS X n p K i).2 (i+1) (gS X n p K i).1).1.s ((gS X n p K i).1 (nd X n (gS X n p K i).2 (i+1) (gS X n p K i).1).1.a.toNat)).toNat,
    (nd X n (gS X n p K i).2 (i+1) (gS X n p K i).1).2)
def gN(X:Nat->Nat)(n p K i:Nat):fQ:=(nd X n (gS X n p K i).2 (i+1) (gS X n p K i).1).1
def gC(X:Nat->Nat)(n p K most:Nat):Nat->Nat->Nat
 | 0,i=>i
 | f+1,i=>if i<most/\(i<2∨0<n-(gS X n p K i).2) then gC X n p K most f (i+1) else i
theorem aiC(b:∀j,j<n->X j<256)(m c:Nat)(a:1<=c/\c<=8):∀i,i<=12->∀j,j<i+1->1<=(gS X n m c i).1 j/\(gS X n m c i).1 j<=8
 | 0,_,_,_=>a
 | i+1,hi,j,hj=>by
   have d:=aiC b m c a i om
   show 1<=(if j<=i then _ else _)/\(if j<=i then _ else _)<=8
   split
   . exact d j om
   . have:=(aon b (gS X n m c i).2 (i+1) (gS X n m c i).1 om om d).dim
     omega
theorem alW(a:∀j,j<n->X j<256)(m c:Nat)(b:1<=c/\c<=8)(d:Nat)(e:d<=12):ap3 (gS X n m c d).1 (d+1) (gN X n m c d):=
 aon a (gS X n m c d).2 (d+1) (gS X n m c d).1 om om (aiC a m c b d e)
def aqt(w:World)(B:Nat)(u:Value)(d:eQ):Prop:=∃gL cL gH cH gN cN lab,u=.agg #[.int .i64 d.inn,.int .i64 d.rounds,.slice (some ⟨gL,0,none⟩) d.nl cL,.slice (some ⟨gH,0,none⟩) d.nh cH,.slice (some ⟨gN,0,none⟩) d.nn cN,.int .i64 d.out]/\
 mK w lab (.slice (some ⟨gL,0,none⟩) d.nl cL) (.slice (some ⟨gH,0,none⟩) d.nh cH) (.slice (some ⟨gN,0,none⟩) d.nn cN) d.nl d.nh d.nn d.Lo d.Hi d.N/\∀g,g<B->lab g=9
def drI(k:Nat):Nat:=if 250<=k then 8 else 1+k % 3
def drR(k:Nat):Nat:=if k/3 % 5=4 then 20 else k/3 % 5
def drM(k n p:Nat):Nat:=if 12<1+k/15 % 4+(n-p)/16 then 12 else 1+k/15 % 4+(n-p)/16
def drB(X:Nat->Nat)(n k p1 p2 C:Nat):eQ×Nat:=
 (⟨drI k,drR k,drI k,sdL X n p1,drI k,sdH X n p1,C,gN X n p2 (drI k),(if k % 16=15 then nV X n (gS X n p2 (drI k) C).2 % (C+1) else C:Nat)⟩,if k % 16=15 then nP n (gS X n p2 (drI k) C).2 else (gS X n p2 (drI k) C).2)
def drG(X:Nat->Nat)(n p:Nat):eQ×Nat:=
 drB X n (nV X n p) (nP n p) (sdP X n (nP n p) (drI (nV X n p))) (gC X n (sdP X n (nP n p) (drI (nV X n p))) (drI (nV X n p)) (drM (nV X n p) n (sdP X n (nP n p) (drI (nV X n p)))) 12 0)
theorem pu.mv'{w w':World}{P p':Nat->Prop}{R:Nat->fZ}{c:List Value}(h:pu w n P u m R c)(o:∀g,u.ownBlock=some g->w'.heap[g]?=w.heap[g]?)(hb:∀g,g<w.heap.size->P g->u.ownBlock≠some g->w'.heap[g]?=w.heap[g]?/\p' g):pu w' n p' u m R c:=by
 refine⟨bZ h.own o,fun i p=> ?_⟩;obtain⟨d,e,q,r,f,j,l,k⟩:=h.at_ i p;exact⟨d,e,q,r,f,j,l,k.mv fun g b a=>⟨(hb g b a.1 a.2).1,(hb g b a.1 a.2).2,a.2⟩⟩
theorem eS.cA{w w':World}{z:Value}(h:eS w n u U z)(hb:w'.heap[n]?=w.heap[n]?):eS w' n u U z:=
 ⟨(aO (a:=jj n 0) hb).trans h.c0,(aO (a:=jj n 1) hb).trans h.c1,(aO (a:=jj n 2) hb).trans h.c2,fun k=>(dK (a:=jj n k) hb).trans (h.f k)⟩
def Lab(lab:Nat->Nat)(B cG:Nat):Prop:=(∀g,g<B->lab g=9)/\lab cG=9
theorem Lab.lu(h:Lab X n m)(Y:Nat->Nat)(e:n<=c)(a:m<c):Lab (lu X c Y) n m:=
 ⟨fun g d=>(mL om).trans (h.1 g d),(mL a).trans h.2⟩
theorem ahu(h:Lab X n m)(e:X c=d)(b:d≠9):n<=c/\c≠m:=by
 refine⟨?_,fun f=> ?_⟩
 . rcases jI c n with a | a
   . exact absurd (e.symm.trans (h.1 c a)) b
   . exact a
 . subst f;exact b (e.symm.trans h.2)
theorem uK.mv{w w':World}{X:Nat->Int}{a:List Value}(h:uK w n u m X a)(b:∀g,u.ownBlock=some g->w'.heap[g]?=w.heap[g]?):uK w' n u m X a:=⟨bZ h.own b,h.at_⟩
theorem ank{b ys:List Value}{N:Nat->fQ}(o:w.ownsRow 0 144 6 u n b)(j:∀i,i<n->ax w X i b (N i))(f:∀g,u.ownBlock=some g->X g=3)(z:w.S v)(K:w.heap.size<v.heap.size)(g:v.grownBy W u.ownBlock)
 (own:W.ownsRow 0 144 6 U (n+1) (b++[.i (N n).op,.i (N n).a,.i (N n).b,.i (N n).k,.i (N n).s,.s m (N n).nv c]))(x:U.ownBlock=u.ownBlock∨U.ownBlock=some v.heap.size)(L:pu w 0 (fun q=>X q=0) (.s m (N n).nv c) (N n).nv (N n).V ys)(y:X m=10+n):
 (∃b,W.ownsRow 0 144 6 U (n+1) b/\∀i,i<n+1->ax W (lu X w.heap.size (fun _=>3)) i b (N i))/\(∀q,U.ownBlock=some q->lu X w.heap.size (fun _=>3) q=3)/\∀q,q<w.heap.size->X q≠3->W.heap[q]?=w.heap[q]?:=by
 have d:∀q,q<w.heap.size->X q≠3->W.heap[q]?=w.heap[q]?:=fun q a hl=>(g.block q om (fun e=>hl (f q e.symm))).trans (z.block q a);have hl:=o.1;refine⟨⟨_,own,fun i H=> ?_⟩,fun q a=> ?_,d⟩
 . have h:ax w X i (b++[.i (N n).op,.i (N n).a,.i (N n).b,.i (N n).k,.i (N n).s,.s m (N n).nv c]) (N i):=by
    by_cases e:i=n
    . subst e;refine⟨m,c,ys, ?_, ?_, ?_, ?_, ?_, ?_,L,y⟩<;>(rw[bK om,hl];simp)
    . obtain⟨t,r,A,B,C,D,E,F,G,p,s⟩:=j i om;refine⟨t,r,A, ?_, ?_, ?_, ?_, ?_, ?_,p,s⟩<;>(rw[bJ om];assumption)
   exact h.mv fun q a I=>⟨d q a om,mL a⟩
 rcases x with e | e
 . rw[e] at a;rw[mL (o.lt q a).2];exact f q a
 . rw[e] at a;simp only[Option.some.injEq] at a;exact rW om
theorem aot(h:gC X n m c d (12-k) k=i)(e:d<=12)(a:k<d)(b:k<2∨0<n-(gS X n m c k).2):gC X n m c d (12-(k+1)) (k+1)=i:=by
 rw[show 12-k=(12-(k+1))+1 by omega,gC,aY ⟨a,b⟩] at h;exact h
theorem alX(h:gC X n m c d (12-k) k=i)(a:¬(k<d/\(k<2∨0<n-(gS X n m c k).2))):k=i:=by
 cases e:12-k with
 | zero=>rw[e] at h;exact h
 | succ f=>rw[e,gC,aM a] at h;exact h
theorem tx.out{w v w':World}{p q k t j e gN i:Nat}{d:eQ}(h:tx w v c a n l o b X p w.heap.size q (.i d.inn) (.i d.rounds) (.s k d.nl t) (.s j d.nh e) (.s gN d.nn i) (.i d.out))
 (K:mK v Y (.s k d.nl t) (.s j d.nh e) (.s gN d.nn i) d.nl d.nh d.nn d.Lo d.Hi d.N)(m:Lab Y (w.heap.size+1) q)(M:eM v w' w.heap.size):
 aqt w' w.heap.size (.agg #[.i d.inn,.i d.rounds,.s k d.nl t,.s j d.nh e,.s gN d.nn i,.i d.out]) d/\Rp w' c a n l o b X p/\il c w w':=
 ⟨⟨k,t,j,e,gN,i,Y,rfl,K.mkd M (m.1 _ om),fun g r=>m.1 g om⟩,h.m4 M⟩
theorem agf{p:Prop}(h:p:=by
 have b0:=G.B9.c0;have b1:=G.B9.c1;have b2:=G.B9.c2;have b3:=G.B9.c3;have b4:=G.B9.c4;have b5:=G.B9.c5;have bf5:=G.B9.f 5;have u0:=G.B4.c0;have u1:=G.B4.c1;have u2:=G.B4.c2;have u3:=G.B4.c3;have u4:=G.B4.c4;have u5:=G.B4.c5;have uf0:=G.B4.f 0;have uf1:=G.B4.f 1;have uf2:=G.B4.f 2;have uf3:=G.B4.f 3;have uf4:=G.B4.f 4;have uf5:=G.B4.f 5;go_wp2;refine bO (wK rfl underlying115 rfl agL _ _ _ _ _ _ _ _ _ rfl ((((((G8.B4.bE _).bH _).bF _).bX _).dX _).dC _)) rfl ?_;rw[<-HDR.out];exact⟨_,rfl,G8.out (d:=eQ.mk _ _ _ _ _ _ _ _ _) GK8.out HLB.out (((((((eM.refl _ w.heap.size).setCell 0 _).setCell 1 _).setCell 2 _).setCell 3 _).setCell 4 _).setCell 5 _)⟩):p:=h
theorem adL{p:Prop}(h:p:=by
 have GG:=HG.out;have HR:=HDR.out;unfold drB at HR;rw[HI.out,HRD.out,HLO.out,HHH.out,HNN.out] at HR;by_cases x:k % 16=15
 . rw[aY x,aY x] at HR;have x':((k:Int) % 16==15)=true:=(by simp;omega);have b4:=GG.B9.c4;have b5:=GG.B9.c5;have bf5:=GG.B9.f 5;have G5:=GG.dC (.i (i:Int));have GK5:=eI (HGK.out.mkd ((eM.refl wr cG).setCell 5 (.i (i:Int))) HLB.out.2);have HHR:=eI HR;clear HR x HDR;go_upto_region 27 with fail;generalize wr.setCell ⟨cG,5,none⟩ (.i (i:Int))=w5 at*;clear b4 b5 bf5 GG HG HGK HIL;have kk:=G5.B9.c4;have J1:=@jd c a b off n cap X _ w5.drew hn (G5.R.aA (gz yD));obtain⟨m,hm⟩:∃m,i+1=m:=⟨_,rfl⟩;have wr1:IntKind.i64.wrap ((i:Int)+1)=(m:Int):=(by rw[<-hm];exact wrap64 om om);have hm2:¬m=0:=om;rw[hm] at HHR;clear hm;refine wp_region_held_drew (S:=fun w'=>w'.cell? (jj cG 4)=some (.s gN' i cN)) kr (by exact kk) (fun hHeld=> ?_);refine kl 0 109 ?_;refine kl 2 111 ?_;refine ta 3 112 (.s gN' i cN) ?_ ?_
   . intro w' hSw;try dsimp only at hSw
     go_simp
   simp only[ap,la,lz,ls];refine ta 4 113 (.i (i:Int)) ?_ ?_
   . intro w' hSw;try dsimp only at hSw
     go_simp
   simp only[ap,la,lz,ls];refine ta 5 114 (.i (m:Int)) ?_ ?_
   . intro w' hSw;try dsimp only at hSw
     go_simp
   simp only[ap,la,lz,ls];refine tu 1 fun K hK=> ?_;go_simp;go_wp2_with (go_at_call 43;with_reducible refine J1.mono ?_;rintro e w6 ⟨k2,ek2,rfl,hk2,R6,O6⟩);have O56:il c w5 w6:=⟨O6.os,O6.tape,O6.output,O6.size,O6.block⟩;have G6:=G5.go R6 O56;have GK6:=GK5.out.bR O56 (HLB.out.1 c om);obtain⟨y,hy⟩:∃t,k2 % m=t:=⟨_,rfl⟩;have ht':=tm hy;have HR:=HHR.out;rw[ek2,hy] at HR;have HDR:=eI HR;clear HR hy ek2;refine hK.out _ _ G6.B9.c4 (fun h1=> ?_);clear hK K hHeld;refine tu 6 fun K hK=> ?_;go_simp;refine hK.out _ _ G6.B9.c4 (fun h2=> ?_);clear hK K h1;refine tu 7 fun K hK=> ?_;go_simp;refine hK.out _ _ G6.B9.c4 (fun h4=> ?_);clear hK K h2;have k5:=G6.B9.c5;have kf5:=G6.B9.f 5;refine tu 8 fun K hK=> ?_;go_simp;refine hK.out _ _ (G6.dC (.i (y:Int))).B9.c4 (fun h3=> ?_);clear hK K h4 h3 k5 kf5;refine wpAnyH_done kr ?_ _;have G:=G6.dC (.i (y:Int));have GK8:=eI (GK6.mkd ((eM.refl w6 cG).setCell 5 (.i (y:Int))) HLB.out.2);generalize w6.setCell ⟨cG,5,none⟩ (.i (y:Int))=w7 at*;have G8:=G;clear kk G6 GK6 G5 GK5 J1 HHR;exact agf
 . rw[aM x,aM x] at HR;have x':((k:Int) % 16==15)=false:=(by simp;omega);have HDR:=eI HR;have G:=GG;have G8:=GG.dC (.i (i:Int));have GK8:=eI (HGK.out.mkd ((eM.refl wr cG).setCell 5 (.i (i:Int))) HLB.out.2);clear HR x GG HG HGK HIL;exact agf):p:=h
theorem acs{p:Prop}(h:p:=by
 have JN:=@aoY c a b off n cap X _ (i+1) gd cd (gS X n p2 I i).1 wr hn HG.out.R om om HIL.out.ints (by have:=HN0.out;omega) (aiC hX.out p2 I hI8 i om);have OK:=eI (alW hX.out p2 I hI8 i om);obtain⟨dd,hdd⟩:∃d,(nd X n (gS X n p2 I i).2 (i+1) (gS X n p2 I i).1).1=d:=⟨_,rfl⟩;rw[hdd] at JN;have HND:Hid (NN i=dd):=eI (by rw[<-HNN.out];exact hdd);have HOK:Hid (ap3 (gS X n p2 I i).1 (i+1) dd):=eI (by rw[<-hdd];exact OK.out);have HDD:=eI hdd;have HJN:=eI JN;clear JN hdd OK;go_wp2_with fail;refine HJN.out.mono ?_;clear HJN;rintro e w3 ⟨u,rfl,⟨g,cp,ys,rfl,L3⟩,R3,O3⟩;obtain⟨op,da,db,dk,ds,nv,V⟩:=dd;obtain⟨t,ht⟩:∃t:Nat,da=(t:Int):=⟨da.toNat,by have h:0<=da/\_:=HOK.out.a;omega⟩;subst ht;have htm:t<i+1:=by have h:_/\(t:Int)<((i+1:Nat):Int):=HOK.out.a;omega
 obtain⟨w4,e4⟩:∃x:World,x=w3.alloc (.o #[.i op,.i (t:Int),.i db,.i dk,.i ds,.s g nv cp] 144):=⟨_,rfl⟩;have s4:w3.S w4:=by rw[e4];exact yD.alloc zR _
 have b4:fO w4 w3.heap.size (.i op) (.i (t:Int)) (.i db) (.i dk) (.i ds) (.s g nv cp):=by rw[e4];exact fO.new _ _ _ _ _ _ _ _
 have lt1:=HG.out.B9.lt;have ltR:=HG.out.B4.lt;have z3:=O3.size;have lgd:=(HIL.out.own.lt gd rfl).2;have lg:=L3.own.lt g rfl;have hN0:=HN0.out;have HG4:=eI ((HG.out.go R3 O3).aA s4);have HLB4:=eI (HLB.out.lu (fun q=>if q=g then 10+i else 0) ltR lt1);have HGK4:=eI (((HGK.out.lu (fun q=>if q=g then 10+i else 0) zR).bR O3 (HLB4.out.1 c om)).aA s4);have LV:Hid (pu w4 0 (fun q=>lu lab wr.heap.size (fun q=>if q=g then 10+i else 0) q=0) (.s g nv cp) nv V ys):=eI (((L3.mv' (w':=w3) (p':=fun q=>lu lab wr.heap.size (fun q=>if q=g then 10+i else 0) q=0) (fun _ _=>rfl) (fun q _ hp hne=>⟨rfl,by rw[rW hp,aM (fun e=>hne (by rw[e];rfl))]⟩)).low (aJ _) (fun _ h=>h)).aA s4);have hg10:Hid (lu lab wr.heap.size (fun q=>if q=g then 10+i else 0) g=10+i):=eI (by rw[rW lg.1,aY rfl]);have hb0:Hid (lu lab wr.heap.size (fun q=>if q=g then 10+i else 0) w3.heap.size=0):=eI (by rw[rW z3,aM om]);have HGD4:Hid (lu lab wr.heap.size (fun q=>if q=g then 10+i else 0) gd=9):=eI ((mL lgd).trans HGD.out);have HIL4:=eI ((HIL.out.mv (w':=w3) (fun q hq=>O3.block q (HIL.out.own.lt q hq).2 (fun e=>by simp[Value.ownBlock] at hq;omega))).aA s4);generalize lu lab wr.heap.size (fun q=>if q=g then 10+i else 0)=lab4 at*;clear HG HGK HLB HIL HGD L3 R3 O3 s4;go_upto_region 23 with fail;rw[<-e4];clear e4;obtain⟨xN,oN,hN⟩:=HGK4.out.no;have HoN:=eI oN;have HhN:=eI hN;have bl4:=HG4.out.B9.lt;have lb4:=b4.lt;have r0:=b4.c0;have r1:=b4.c1;have r2:=b4.c2;have r3:=b4.c3;have r4:=b4.c4;have r5:=b4.c5;have q4:=HG4.out.B9.c4;have qf4:=HG4.out.B9.f 4;clear oN hN;go_wp2_with (at_builtin;refine wpList_append_own_at _ rfl _ _ 113 rfl 0 144 i1 _ 6 64 underlying113 hi' hz0' hz1' hz2' rfl qd _ _ _ rfl (HoN.out.alloc _) (jj w4.heap.size 0) 1 1 [.i op,.i (t:Int),.i db,.i dk,.i ds,.s g nv cp] rfl rfl (newN _ _ _ _ _ _ _ _) (oneN _ _ _ _ _ _ _ _) (by unfold maxLen;omega) om om ?_);intro v' w5 hown' hgrow hnn hat;replace hgrow:(w4.alloc (.o #[.i op,.i (t:Int),.i db,.i dk,.i ds,.s g nv cp] 144)).grownBy w5 (Value.s gN' i cN).ownBlock:=hgrow;obtain⟨gM,cM,rfl,hg1,hg2⟩:=hown'.form om;have sW:=fA w4 (.o #[.i op,.i (t:Int),.i db,.i dk,.i ds,.s g nv cp] 144);have zW:(w4.alloc (.o #[.i op,.i (t:Int),.i db,.i dk,.i ds,.s g nv cp] 144)).heap.size=w4.heap.size+1:=by simp
 obtain⟨NA,l3,blk⟩:=ank (N:=NN) (ys:=ys) HoN.out HhN.out HGK4.out.nb sW om hgrow (by rw[HND.out];exact hown') (by rw[zW];exact hat) (by rw[HND.out];exact LV.out) hg10.out;have GK5:=HGK4.out.setN blk (fun g hg=>mL hg) NA l3;have LB5:=HLB4.out.lu (fun _=>3) om bl4;have G5:=(HG4.out.aA sW).grown hgrow (fun q e=>by have:=ahu HLB4.out (HGK4.out.nb q e) om;omega);have IL5:=HIL4.out.mv (w':=w5) (fun q hq=>by
  simp[Value.ownBlock] at hq;subst hq;exact blk gd (HIL4.out.own.lt gd rfl).2 (by rw[HGD4.out];omega))
 have b5:=b4.blk9 (blk _ lb4 (by rw[hb0.out];omega));have GD5:lu lab4 w4.heap.size (fun _=>3) gd=9:=(mL (HIL4.out.own.lt gd rfl).2).trans HGD4.out;have z5:=hgrow.size;have M6:eM w5 (w5.setCell ⟨cG,4,none⟩ (.s gM (i+1) cM)) cG:=(eM.refl w5 cG).setCell 4 _;have HGK6:=eI (GK5.mkd M6 LB5.2);have HG6:=eI (G5.dX (.s gM (i+1) cM));have HIL6:=eI (IL5.mv (w':=w5.setCell ⟨cG,4,none⟩ (.s gM (i+1) cM)) (fun q hq=>M6.other q (fun e=>by simp[Value.ownBlock] at hq;omega)));have b6:=b5.marked M6 om;have z6:=Nat.le_of_eq M6.size.symm;have q4:=G5.B9.c4;have qf4:=G5.B9.f 4;have HLB5:=eI LB5;have HGD5:=eI GD5;have HBN:Hid (lu lab4 w4.heap.size (fun _=>3) w3.heap.size=0):=eI ((mL lb4).trans hb0.out);generalize lu lab4 w4.heap.size (fun _=>3)=lab5 at*;clear GK5 LB5 G5 IL5 GD5 b5 NA l3 blk sW zW hgrow hown' hnn hat HG4 HGK4 HLB4 HIL4 HGD4 HoN HhN M6 r0 r1 r2 r3 r4 r5 b4 LV hg10 hb0;go_upto_region 24 with fail;generalize w5.setCell ⟨cG,4,none⟩ (.s gM (i+1) cM)=w6 at*;clear q4 qf4;obtain⟨x,hx⟩:∃x,(gS X n p2 I i).1 t=x:=⟨_,rfl⟩;have hx8:1<=x/\x<=8:=by rw[<-hx];exact aiC hX.out p2 I hI8 i om t htm
 have hxc:Hid (w6.cell? (jj gd t)=some (.i (x:Int))):=eI (by have h:=(HIL6.out.ints t htm).2;rw[aZ] at h;rw[<-hx];exact h);have tt:((t:Int)).toNat=t:=by simp
 obtain⟨dm,hdm⟩:∃y,rh op dk ds (x:Int)=y:=⟨_,rfl⟩;have hd8:1<=dm/\dm<=8:=by have h:=HOK.out.dim;simp only[tt,hx,hdm] at h;exact h
 have JD:=@wS op (t:Int) db dk ds (x:Int) (jp g 0) nv cp w6.drew om om (fun h=>HOK.out.c5 h) (fun h=>by have h:=HOK.out.c6 h;simp only[tt,hx] at h;exact h);rw[hdm] at JD;have HS1:Hid (∀j,j<=i->(gS X n p2 I (i+1)).1 j=(gS X n p2 I i).1 j):=eI (fun j hj=>aY hj)
 have HS2:Hid (((gS X n p2 I (i+1)).1 (i+1):Int)=dm):=eI (by
  show ((if i+1<=i then _ else _:Nat):Int)=_;rw[aM om,HDD.out];simp only[tt,hx,hdm];omega)
 have HG9:Hid (tx w w6 c a b off n cap X (gS X n p2 I (i+1)).2 w.heap.size cG (.i (I:Int)) (.i (RD:Int)) (.s gL I cL) (.s gH I cH) (.s gM (i+1) cM) (.i 0)):=HG6;have HJD:=eI JD;have htm':(t:Int)<((i+1:Nat):Int):=om;have ht0:¬(t:Int)<0:=om;clear hx hdm HG6 tt JD;have u0:=aF w6.heap.size w6;refine wp_region_held_drew (S:=fun w'=>w'.cell? (jj w3.heap.size 0)=some (.i op)/\w'.cell? (jj w3.heap.size 1)=some (.i (t:Int))/\w'.cell? (jj w3.heap.size 2)=some (.i db)/\w'.cell? (jj w3.heap.size 3)=some (.i dk)/\w'.cell? (jj w3.heap.size 4)=some (.i ds)/\w'.cell? (jj w3.heap.size 5)=some (.s g nv cp)) kr (by exact⟨b6.c0,b6.c1,b6.c2,b6.c3,b6.c4,b6.c5⟩) (fun hHeld=> ?_);refine kl 0 92 ?_;refine kl 2 94 ?_;refine kl 3 95 ?_;refine ta 1 93 (.agg #[.i op,.i (t:Int),.i db,.i dk,.i ds,.s g nv cp]) ?_ ?_
 . intro w' hSw;try dsimp only at hSw
   go_simp
 simp only[ap,la,lz,ls];refine ta 4 96 (.i (t:Int)) ?_ ?_
 . intro w' hSw;try dsimp only at hSw
   go_simp
 simp only[ap,la,lz,ls];refine ta 5 97 (.p gd t) ?_ ?_
 . intro w' hSw;try dsimp only at hSw
   go_simp;intro h;omega
 simp only[ap,la,lz,ls];refine tu 6 fun K hK=> ?_;have lx:=hxc.out;go_simp;clear lx;refine hK.out _ _ (by exact⟨b6.c0,b6.c1,b6.c2,b6.c3,b6.c4,b6.c5⟩) (fun h1=> ?_);clear hK K hHeld;refine tu 7 fun K hK=> ?_;go_simp;go_wp2_with (go_at_call 109;with_reducible refine mo HJD.out fun w7 s7=> ?_);have u7:w6.S w7:=(gz u0).trans s7;have b7:=b6.aA u7;have O7:=HIL6.out.aA u7;have z7:=u7.size;refine hK.out _ _ ⟨b7.c0,b7.c1,b7.c2,b7.c3,b7.c4,b7.c5⟩ (fun h2=> ?_);clear hK K h1 HJD;refine tu 8 fun K hK=> ?_;go_simp;have sW:=fA w7 (.o #[.i dm] 3);have b8:=b7.aA sW;refine hK.out _ _ ⟨b8.c0,b8.c1,b8.c2,b8.c3,b8.c4,b8.c5⟩ (fun h3=> ?_);clear hK K h2;refine tu 9 fun K hK=> ?_;refine step_append_lies _ rfl _ _ 142 rfl 0 3 i2 _ 1 8 underlying142 hi2 hz02 hz12 hz22 rfl qd _ (i+1) xs rfl (O7.own.alloc _) (jj w7.heap.size 0) 1 1 [.i dm] rfl rfl (iq _ _ _) (one_one _ rfl) qd (by unfold maxLen;omega) om (aJ _) (w7.heap.size+1) qz ?_;intro gd' cd' w8 hown' hgrow hat hlt8;replace hgrow:(w7.alloc (.o #[.i dm] 3)).grownBy w8 (Value.s gd (i+1) cd).ownBlock:=hgrow;replace hat:(Value.s gd (i+1) cd).ownBlock=some gd'∨gd'=w7.heap.size+1:=hat;have hat:gd'=gd∨gd'=w7.heap.size+1:=by
  rcases hat with e | e
  . simp[Value.ownBlock] at e;exact Or.inl e.symm
  . exact Or.inr e
 have zz:(w7.alloc (.o #[.i dm] 3)).heap.size=w7.heap.size+1:=by simp
 have hlg:=O7.own.lt gd rfl;have hN0:=HN0.out;have bl6:=HG9.out.B9.lt;have lt6:=HG9.out.B4.lt;have lb6:=b6.lt;have hgd:gd<w6.heap.size:=(HIL6.out.own.lt gd rfl).2;have hbn:w3.heap.size≠gd:=fun e=>by have:=HGD5.out;have:=HBN.out;omega
 have blk8:∀q,q<w6.heap.size->q≠gd->w8.heap[q]?=w6.heap[q]?:=fun q hq hne=>(hgrow.block q om (fun e=>hne (by simpa [Value.ownBlock] using e))).trans ((sW.block q om).trans (u7.block q hq));have b9:=b6.blk9 (blk8 _ lb6 hbn);refine hK.out _ _ ⟨b9.c0,b9.c1,b9.c2,b9.c3,b9.c4,b9.c5⟩ (fun h4=> ?_);clear hK K h3;refine tu 10 fun K hK=> ?_;go_simp;refine hK.out _ _ ⟨b9.c0,b9.c1,b9.c2,b9.c3,b9.c4,b9.c5⟩ (fun h5=> ?_);clear hK K h5 h4;refine wpAnyH_done kr ?_ _;have G8:=((HG9.out.aA u7).aA sW).grown hgrow (fun q e=>by simp[Value.ownBlock] at e;omega);have HLB8:=eI (HLB5.out.lu (fun _=>9) lt6 bl6);have HGK8:Hid (mK w8 (lu lab5 w6.heap.size (fun _=>9)) _ _ _ I I (i+1) LO HH NN):=eI (HGK6.out.mv fun q hq hl=>⟨blk8 q hq (fun e=>by have:=HGD5.out;subst e;omega),mL hq⟩)
 have HGD8:Hid (lu lab5 w6.heap.size (fun _=>9) gd'=9):=eI (by
  rcases hat with e | e
  . rw[e,mL hgd];exact HGD5.out
  . exact rW om)
 have HN8:Hid (w.heap.size<gd'/\gd'≠cG):=eI om;have HIL8:=eI (uK.snoc (X:=fun j=>((gS X n p2 I (i+1)).1 j:Int)) O7.len (fun j hj=>by rw[HS1.out j om];exact O7.at_ j hj) hown' HS2.out);have HG8:=eI G8;clear G8 hgrow hown' hat b6 b7 b8 b9 O7 sW u7 s7 blk8 HG9 HGK6 HLB5 HGD5 HIL6 HN0 HS1 HS2;go_wp2;go_roundw
 case rel=>exact⟨i+1,gd',cd',gM,cM,_,_,om,rfl,by go_num,HG8,HGK8,HLB8,HGD8,HIL8,HCC2,HN8⟩
 case measure=>exact yI):p:=h
theorem anA{b off n cap:Nat}(hn:n<=16777216)(R:Rp w c a b off n cap X p):
 Cl 71 #[.p c 0] w fun e w'=>∃u,e=.returned u/\aqt w' w.heap.size u (drG X n p).1/\Rp w' c a b off n cap X (drG X n p).2/\il c w w':=by
 obtain⟨i0,hi,bz,ca,cb⟩:=pr;obtain⟨i1,hi',hz0',hz1',hz2'⟩:=alP;obtain⟨i2,hi2,hz02,hz12,hz22⟩:=en;have ck:=R.R.lt;have hX:=eI R.hX;have sA:=fA w (.o #[.i 0,.i 0,.n,.n,.n,.i 0] 115);have bA:=fO.new w (.i 0) (.i 0) (.n) (.n) (.n) (.i 0) 115;have RA:=R.aA sA;obtain⟨DR,ao⟩:∃x,drG X n p=x:=⟨_,rfl⟩;rw[ao];have HDR:=eI ao;clear ao;go_enter func71,ntmps71;go_wp2_with fail;generalize (w.alloc _)=wA at*;have zA:=sA.size;have zb:=bA.lt;refine (jd hn RA).mono ?_;rintro e l ⟨k,ek,rfl,hk,R1,O1⟩;have b1:=bA.bR O1 om;have bi:=(il.aD c sA).trans O1;have z1:=O1.size;have O:=HDR.out;unfold drG at O;rw[ek] at O;obtain⟨I,hI⟩:∃I,drI k=I:=⟨_,rfl⟩;have HI:Hid (drI k=I):=eI hI;have hI8:1<=I/\I<=8:=by rw[<-hI];unfold drI;split<;>omega
 rw[hI] at O;obtain⟨z,bw⟩:∃q,nP n p=q:=⟨_,rfl⟩;rw[bw] at O R1;obtain⟨p2,ar⟩:∃q,sdP X n z I=q:=⟨_,rfl⟩;rw[ar] at O;have cg:=eI ar;have H2:=eI O;obtain⟨LO,bo⟩:∃f,sdL X n z=f:=⟨_,rfl⟩;obtain⟨HH,bn⟩:∃f,sdH X n z=f:=⟨_,rfl⟩;obtain⟨NN,bq⟩:∃f,gN X n p2 I=f:=⟨_,rfl⟩;have HLO:=eI bo;have HHH:=eI bn;have HNN:=eI bq;clear RA O1 sA ek HDR bA O hI bw ar bo bn bq;obtain⟨L,e2⟩:∃L:World,L=(((l.alloc (.o #[] 70)).alloc (.o #[] 70)).alloc (.o #[] 144)).alloc (.o #[.i 0,.i 0,.s l.heap.size 0 0,.s (l.heap.size+1) 0 0,.s (l.heap.size+1+1) 0 0,.i 0] 115):=⟨_,rfl⟩;obtain⟨wa,ea⟩:∃x:World,x=l.alloc (.o #[] 70):=⟨_,rfl⟩;obtain⟨wb,eb⟩:∃x:World,x=wa.alloc (.o #[] 70):=⟨_,rfl⟩;obtain⟨wd,ed⟩:∃x:World,x=wb.alloc (.o #[] 144):=⟨_,rfl⟩;have sa:l.S wa:=by rw[ea];exact fA _ _
 have sb:wa.S wb:=by rw[eb];exact fA _ _
 have aa:wb.S wd:=by rw[ed];exact fA _ _
 have za:wa.heap.size=l.heap.size+1:=by rw[ea];simp
 have ax:wb.heap.size=l.heap.size+1+1:=by rw[eb];simp[za]
 have zd:wd.heap.size=l.heap.size+1+1+1:=by rw[ed];simp[ax]
 rw[<-ea,<-eb,<-ed] at e2;have H:wd.S L:=by rw[e2];exact fA _ _
 have b2:fO L (l.heap.size+1+1+1) (.i 0) (.i 0) (.s l.heap.size 0 0) (.s (l.heap.size+1) 0 0) (.s (l.heap.size+1+1) 0 0) (.i 0):=by rw[e2,<-zd];exact fO.new _ _ _ _ _ _ _ _
 have G:tx w L c a b off n cap X z w.heap.size (l.heap.size+1+1+1) (.i 0) (.i 0) (.s l.heap.size 0 0) (.s (l.heap.size+1) 0 0) (.s (l.heap.size+1+1) 0 0) (.i 0):=
  ⟨aC _,om,om,ck,(((b1.aA sa).aA sb).aA aa).aA H,b2,(((R1.aA sa).aA sb).aA aa).aA H,(((bi.trans (il.aD c sa)).trans (il.aD c sb)).trans (il.aD c aa)).trans (il.aD c H)⟩
 have GK:∃lab,Lab lab (w.heap.size+1) (l.heap.size+1+1+1)/\mK L lab (.s l.heap.size 0 0) (.s (l.heap.size+1) 0 0) (.s (l.heap.size+1+1) 0 0) 0 0 0 LO HH NN:=by
  refine⟨fun g=>if g=l.heap.size then 1 else if g=l.heap.size+1 then 2 else if g=l.heap.size+1+1 then 3 else 9,⟨fun g hg=> ?_, ?_⟩,⟨[], ?_⟩,fun g e=> ?_,⟨[], ?_⟩,fun g e=> ?_,⟨[], ?_,fun i hi=>absurd hi om⟩,fun g e=> ?_⟩
  . simp only;rw[aM om,aM om,aM om]
  . simp only;rw[aM om,aM om,aM om]
  . have ab:=pu.nil l 0 (fun q=>(if q=l.heap.size then 1 else if q=l.heap.size+1 then 2 else if q=l.heap.size+1+1 then 3 else 9)=0) LO (aJ _);rw[<-ea] at ab;exact ((ab.aA sb).aA aa).aA H
  . simp[Value.ownBlock] at e;simp[e]
  . have ab:=pu.nil wa 0 (fun q=>(if q=l.heap.size then 1 else if q=l.heap.size+1 then 2 else if q=l.heap.size+1+1 then 3 else 9)=0) HH (aJ _);rw[<-eb,za] at ab;exact (ab.aA aa).aA H
  . simp[Value.ownBlock] at e;simp[<-e]
  . have aw:=iP (base:=0) (e:=144) (size:=6) wb #[] 0 (aJ _) (aJ _) rfl;rw[<-ed,ax] at aw;exact bZ aw (fun g hg=>H.block g (aw.lt g hg).2)
  . simp[Value.ownBlock] at e;simp[<-e];omega
 have z2:=H.size;rw[ed,eb,ea] at e2;clear sa sb aa ea eb ed H b2 b1 R1 bi R;go_upto_region 3 with fail;rw[<-e2];rw[zd] at z2;clear e2 za ax zd;obtain⟨lab,HL,GK⟩:=GK;have HGK:=eI GK;have HLB:=eI HL;clear GK HL;have b0:=G.B9.c0;have b1:=G.B9.c1;have ch:=G.B9.f 0;have ak:=G.B9.f 1;generalize cq:l.heap.size+1+1+1=cG at*;go_upto_if 23 with fail;go_cut [] (fun o=>tx w o c a b off n cap X z w.heap.size cG (.i (I:Int)) (.i 0) (.s l.heap.size 0 0) (.s (l.heap.size+1) 0 0) (.s (l.heap.size+1+1) 0 0) (.i 0)/\Hid (mK o lab (.s l.heap.size 0 0) (.s (l.heap.size+1) 0 0) (.s (l.heap.size+1+1) 0 0) 0 0 0 LO HH NN)/\L.heap.size<=o.heap.size)
 case first=>
  by_cases q:250<=k
  . have q':(250:Int)<=k:=om;have v:(I:Int)=8:=(by rw[<-HI.out];unfold drI;rw[aY q];rfl);clear q;go_wp2;go_meet
    case rel=>exact⟨by rw[v];exact (G.bE _).bE _,eI (HGK.out.mkd (((eM.refl _ _).setCell 0 _).setCell 0 _) HLB.out.2),qz⟩
  . have q':¬(250:Int)<=k:=om;have v:(I:Int)=1+(k:Int) % 3:=(by rw[<-HI.out];unfold drI;rw[aM q];omega);clear q;go_wp2;go_meet
    case rel=>exact⟨by rw[v];exact G.bE _,eI (HGK.out.mkd ((eM.refl _ _).setCell 0 _) HLB.out.2),qz⟩
 case rest=>
  clear G HGK b0 b1 ch ak;obtain⟨G,HGK,zc⟩:=hcut;obtain⟨RD,br⟩:∃ac,drR k=ac:=⟨_,rfl⟩;have HRD:=eI br;have b0:=G.B9.c0;have b1:=G.B9.c1;have ak:=G.B9.f 1;clear br;go_upto_if 31 with fail;go_cut [] (fun o=>tx w o c a b off n cap X z w.heap.size cG (.i (I:Int)) (.i (RD:Int)) (.s l.heap.size 0 0) (.s (l.heap.size+1) 0 0) (.s (l.heap.size+1+1) 0 0) (.i 0)/\Hid (mK o lab (.s l.heap.size 0 0) (.s (l.heap.size+1) 0 0) (.s (l.heap.size+1+1) 0 0) 0 0 0 LO HH NN)/\L.heap.size<=o.heap.size)
  case first=>
   by_cases q:k/3 % 5=4
   . have q':((k:Int)/3 % 5==4)=true:=(by simp;omega);have v:(RD:Int)=20:=(by rw[<-HRD.out];unfold drR;rw[aY q];rfl);clear q;go_wp2;go_meet
     case rel=>exact⟨by rw[v];exact (G.bH _).bH _,eI (HGK.out.mkd (((eM.refl _ _).setCell 1 _).setCell 1 _) HLB.out.2),by simpa using zc⟩
   . have q':((k:Int)/3 % 5==4)=false:=(by simp;omega);have v:(RD:Int)=k/3 % 5:=(by rw[<-HRD.out];unfold drR;rw[aM q];omega);clear q;go_wp2;go_meet
     case rel=>exact⟨by rw[v];exact G.bH _,eI (HGK.out.mkd ((eM.refl _ _).setCell 1 _) HLB.out.2),by simpa using zc⟩
  case rest=>
   clear G HGK b0 b1 ak zc;obtain⟨G,HGK,zc⟩:=hcut;have bu:sdP X n z 0=z:=rfl;rw[<-bu] at G;have HG:=eI G;clear G bu;go_wp2_with fail;go_loopw [5] (fun t wr=>∃(j gL cL gH cH:Nat) (lab:Nat->Nat),j<=I/\t=.i (j:Int)/\Hid (tx w wr c a b off n cap X (sdP X n z j) w.heap.size cG (.i (I:Int)) (.i (RD:Int)) (.s gL j cL) (.s gH j cH) (.s (l.heap.size+1+1) 0 0) (.i 0))/\Hid (mK wr lab (.s gL j cL) (.s gH j cH) (.s (l.heap.size+1+1) 0 0) j j 0 LO HH NN)/\Hid (Lab lab (w.heap.size+1) cG)) (fun t _=>I-(intOf t).toNat)
   case atStart=>exact⟨0,l.heap.size,0,l.heap.size+1,0,lab,aJ _,rfl,HG,HGK,HLB⟩
   case round=>
    clear HG HGK HLB lab;obtain⟨j,gL,cL,gH,cH,lab,hj,rfl,HG,HGK,HLB⟩:=hrel;have b0:=HG.out.B9.c0;by_cases A:j<I
    . have aq:(j:Int)<I:=om;have JS:=aoF hn HG.out.R;obtain⟨rL,av⟩:∃ac,rd (sd X n (sdP X n z j)).1.1=ac:=⟨_,rfl⟩;obtain⟨rH,au⟩:∃ac,rd (sd X n (sdP X n z j)).1.2=ac:=⟨_,rfl⟩;rw[av,au] at JS;have bb:Hid (LO j=rL):=eI (by rw[<-HLO.out];exact av);have ba:Hid (HH j=rH):=eI (by rw[<-HHH.out];exact au);clear av au;go_wp2_with fail;refine JS.mono ?_;clear JS;rintro e w3 ⟨u,cx,rfl,⟨Q,T,Y,k2,rfl,K1⟩,⟨C,D,E,F,rfl,K2⟩,R2,O2⟩;obtain⟨U,n1,X1,Z,Y1⟩:=rL;obtain⟨W,n2,X2,m2,Y2⟩:=rH;obtain⟨o,ex⟩:∃x:World,x=w3.alloc (.o #[.bool U,.l Q n1 Y,.l T Z k2] 70):=⟨_,rfl⟩;obtain⟨w4,e4⟩:∃x:World,x=o.alloc (.o #[.bool W,.l C n2 E,.l D m2 F] 70):=⟨_,rfl⟩;have sx:w3.S o:=(by rw[ex];exact fA _ _);have s4:o.S w4:=(by rw[e4];exact fA _ _);have zx:o.heap.size=w3.heap.size+1:=(by rw[ex];simp);have bA:eS w4 w3.heap.size (.bool U) (.l Q n1 Y) (.l T Z k2):=(by have h:=eS.new w3 (.bool U) (.l Q n1 Y) (.l T Z k2) 70;rw[<-ex] at h;exact h.aA s4);have bB:eS w4 (w3.heap.size+1) (.bool W) (.l C n2 E) (.l D m2 F):=(by have h:=eS.new o (.bool W) (.l C n2 E) (.l D m2 F) 70;rw[<-e4,zx] at h;exact h);have lt1:=HG.out.B9.lt;have ltR:=HG.out.B4.lt;have G4:=((HG.out.go R2 O2).aA sx).aA s4;have ai:=HLB.out.lu (fun _=>0) ltR lt1;have ay:=(((HGK.out.lu (fun _=>0) zR).bR O2 (ai.1 c om)).aA sx).aA s4;have bc:=((K1.aA sx).aA s4).imp (p':=fun q=>lu lab wr.heap.size (fun _=>0) q=0) (fun q _ h=>rW h);have bf:=((K2.aA sx).aA s4).imp (p':=fun q=>lu lab wr.heap.size (fun _=>0) q=0) (fun q _ h=>rW h);have z3:=O2.size;have co:lu lab wr.heap.size (fun _=>0) (w3.heap.size+1)=0:=rW om;generalize lu lab wr.heap.size (fun _=>0)=lab4 at*;rw[ex] at e4;have HG4:=eI G4;have HGK4:=eI ay;have a5:=eI bc;have a6:=eI bf;have HLB4:=eI ai;have ah:=eI bB;clear HG HGK HLB K1 K2 sx s4 ex O2 R2 G4 ay bc bf ai zx b0 bB;go_upto_region 13 with fail;rw[<-e4];clear e4;obtain⟨xL,L1⟩:=HGK4.out.lo;have bl4:=HG4.out.B9.lt;have cm:=ah.out.lt;have q2:=HG4.out.B9.c2;have ce:=HG4.out.B9.f 2;obtain⟨r0,r1,r2⟩:=bA.g;have af:=eI L1;clear L1;go_wp2_with (at_builtin;refine wpList_append_own_at _ rfl _ _ 50 rfl 0 70 i0 _ 3 56 underlying50 hi bz ca cb rfl qd _ _ _ rfl (af.out.own.alloc _) (jj w4.heap.size 0) 1 1 [.bool U,.l Q n1 Y,.l T Z k2] rfl rfl (bW _ _ _ _ _) (bV _ _ _ _ _ _ _) (by unfold maxLen;omega) om om ?_);intro v' w5 hown' hgrow hnn hat;replace hgrow:(w4.alloc (.o #[.bool U,.l Q n1 Y,.l T Z k2] 70)).grownBy w5 (Value.s gL j cL).ownBlock:=hgrow;obtain⟨ae,ad,rfl,hg1,hg2⟩:=hown'.form om;have sW:=fA w4 (.o #[.bool U,.l Q n1 Y,.l T Z k2] 70);have zW:(w4.alloc (.o #[.bool U,.l Q n1 Y,.l T Z k2] 70)).heap.size=w4.heap.size+1:=(by simp);obtain⟨LL,l1,blk⟩:=af.out.app HGK4.out.lb om sW om hgrow (by rw[bb.out];exact hown') (by rw[zW];exact hat) (by rw[bb.out];exact a5.out);have GK5:=HGK4.out.setL blk (fun g hg=>mL hg) LL l1;have LB5:=HLB4.out.lu (fun _=>1) om bl4;have G5:=(HG4.out.aA sW).grown hgrow (fun q e=>by have:=ahu HLB4.out (HGK4.out.lb q e) om;omega);have bh:lH w5 (fun q=>lu lab4 w4.heap.size (fun _=>1) q=0) _ C D E F:=a6.out.mv fun q hq h=>⟨blk q hq om,(mL hq).trans h⟩;have bj:=ah.out.cA (blk _ cm om);have z5:=hgrow.size;have M6:eM w5 (w5.setCell (jj cG 2) (.s ae (j+1) ad)) cG:=(eM.refl w5 cG).setCell 2 _;have HGK6:=eI (GK5.mkd M6 LB5.2);have HG6:=eI (G5.bF (.s ae (j+1) ad));have a7:=eI (bh.marked M6 (fun g h e=>by subst e;have:=LB5.2;omega));have bm:=bj.marked M6 om;have z6:=Nat.le_of_eq M6.size.symm;have q2:=G5.B9.c2;have ce:=G5.B9.f 2;have HLB5:=eI LB5;generalize lu lab4 w4.heap.size (fun _=>1)=lab5 at*;clear GK5 LB5 G5 bh bj LL l1 blk sW zW hgrow hown' hnn hat HG4 HGK4 a5 a6 HLB4 ah af M6 r0 r1 r2 bA;go_upto_region 14 with fail;generalize w5.setCell (jj cG 2) (.s ae (j+1) ad)=w6 at*;clear q2 ce;obtain⟨xH,L2⟩:=HGK6.out.hi;have bl6:=HG6.out.B9.lt;have q3:=HG6.out.B9.c3;have cn:=HG6.out.B9.f 3;obtain⟨r0,r1,r2⟩:=bm.g;have ag:=eI L2;clear L2;go_wp2_with (at_builtin;refine wpList_append_own_at _ rfl _ _ 50 rfl 0 70 i0 _ 3 56 underlying50 hi bz ca cb rfl qd _ _ _ rfl (ag.out.own.alloc _) (jj w6.heap.size 0) 1 1 [.bool W,.l C n2 E,.l D m2 F] rfl rfl (bW _ _ _ _ _) (bV _ _ _ _ _ _ _) (by unfold maxLen;omega) om om ?_);intro v' w7 hown' hgrow hnn hat;replace hgrow:(w6.alloc (.o #[.bool W,.l C n2 E,.l D m2 F] 70)).grownBy w7 (Value.s gH j cH).ownBlock:=hgrow;obtain⟨am,al,rfl,cr,ct⟩:=hown'.form om;have sW:=fA w6 (.o #[.bool W,.l C n2 E,.l D m2 F] 70);have zW:(w6.alloc (.o #[.bool W,.l C n2 E,.l D m2 F] 70)).heap.size=w6.heap.size+1:=(by simp);obtain⟨LL,l1,blk⟩:=ag.out.app HGK6.out.hb om sW om hgrow (by rw[ba.out];exact hown') (by rw[zW];exact hat) (by rw[ba.out];exact a7.out);have az:=HGK6.out.setH blk (fun g hg=>mL hg) LL l1;have aj:=HLB5.out.lu (fun _=>2) om bl6;have G7:=(HG6.out.aA sW).grown hgrow (fun q e=>by have:=ahu HLB5.out (HGK6.out.hb q e) om;omega);have HGK8:=eI (az.mkd ((eM.refl w7 cG).setCell 3 (.s am (j+1) al)) aj.2);have HG8:=eI (G7.bX (.s am (j+1) al));have q3:=G7.B9.c3;have cn:=G7.B9.f 3;have cf:=eI aj;clear az aj G7 LL l1 blk sW zW hgrow hown' hnn hat HG6 HGK6 a7 HLB5 bm ag r0 r1 r2;go_wp2;go_roundw
      case rel=>exact⟨j+1,ae,ad,am,al,_,om,by go_num,HG8,HGK8,cf⟩
      case measure=>exact yI
    . have ej:I=j:=om;subst ej;have aq:¬(I:Int)<I:=om;have hG:=HG.out;rw[cg.out] at hG;obtain⟨w3,e3⟩:∃x:World,x=wr.alloc (.o #[.i (I:Int)] 3):=⟨_,rfl⟩;have s3:wr.S w3:=by rw[e3];exact fA _ _
      have HIL:Hid (uK w3 0 (.s wr.heap.size (0+1) 1) (0+1) (fun j=>((gS X n p2 I 0).1 j:Int)) [.i (I:Int)]):=eI (by
       rw[e3];exact⟨World.ownsRow_lit wr #[.i (I:Int)] 1 (aJ _) qd rfl,fun j hj=>by
        obtain rfl:j=0:=om;rfl⟩)
      have lt1:=hG.B9.lt;have ltR:=hG.B4.lt;have G3:=hG.aA s3;have a8:=eI (HLB.out.lu (fun _=>9) ltR lt1);have a0:=eI ((HGK.out.lu (fun _=>9) zR).aA s3);have HGD:Hid (lu lab wr.heap.size (fun _=>9) wr.heap.size=9):=eI (rW zR);generalize lu lab wr.heap.size (fun _=>9)=cc at*;have HN0:=eI (show w.heap.size<wr.heap.size/\wr.heap.size≠cG by omega);obtain⟨M,hM⟩:∃m,drM k n p2=m:=⟨_,rfl⟩;have bp:M<=12:=(by rw[<-hM];unfold drM;split<;>omega);obtain⟨q,hq⟩:∃q,n-p2=q:=⟨_,rfl⟩;have cw:q<=16777216:=om;obtain⟨mo1,bs⟩:∃m,1+k/15 % 4+q/16=m:=⟨_,rfl⟩;have cl:1+(k:Int)/15 % 4+(q:Int)/16=(mo1:Int):=om;have a9:Hid ((if 12<mo1 then 12 else mo1)=M):=eI (by rw[<-hM];unfold drM;rw[hq,bs]);have H3:=H2.out;rw[hM] at H3;obtain⟨CC,an⟩:∃m,gC X n p2 I M 12 0=m:=⟨_,rfl⟩;rw[an] at H3;have HDR:=eI H3;have s:Hid (gC X n p2 I M (12-0) 0=CC):=eI an;have B:=cP hn G3.R;rw[hq] at B;have P:=eI B;clear HG HGK HLB H2 H3 an hM bs hq B A;go_wp2_with fail;rw[<-e3];clear e3;refine P.out.mono ?_;clear P;rintro e w4 ⟨rfl,r⟩;have G4:=G3.aA (r.since _);have HGK4:=eI (a0.out.aA (r.since _));have HIL4:=eI (HIL.out.aA (r.since _));clear G3 a0 HIL r;go_upto_if 68 with fail;go_cut [9] (fun u o=>u=.i (M:Int)/\o=w4)
      case first=>
       by_cases x:12<mo1
       . have x':(12:Int)<mo1:=om;have v:(M:Int)=12:=(by rw[<-a9.out,aY x];rfl);clear x;go_wp2;go_meet
         case rel=>exact⟨by rw[v],rfl⟩
       . have x':¬(12:Int)<mo1:=om;have v:M=mo1:=(by rw[<-a9.out,aM x]);clear x;go_wp2;go_meet
         case rel=>exact⟨by rw[v],rfl⟩
      case rest=>
       obtain⟨rfl,rfl⟩:=hcut;have HG4:=eI G4;clear G4 cl;go_wp2_with fail;go_loopw [8,10] (fun u t wr=>∃(i gd cd gN' cN:Nat) (lab:Nat->Nat) (xs:List Value),i<=M/\u=.s gd (i+1) cd/\t=.i (i:Int)/\Hid (tx w wr c a b off n cap X (gS X n p2 I i).2 w.heap.size cG (.i (I:Int)) (.i (RD:Int)) (.s gL I cL) (.s gH I cH) (.s gN' i cN) (.i 0))/\Hid (mK wr lab (.s gL I cL) (.s gH I cH) (.s gN' i cN) I I i LO HH NN)/\Hid (Lab lab (w.heap.size+1) cG)/\Hid (lab gd=9)/\Hid (uK wr 0 (.s gd (i+1) cd) (i+1) (fun j=>((gS X n p2 I i).1 j:Int)) xs)/\Hid (gC X n p2 I M (12-i) i=CC)/\Hid (w.heap.size<gd/\gd≠cG)) (fun _ t _=>M-(intOf t).toNat)
       case atStart=>exact⟨0,wr.heap.size,1,l.heap.size+1+1,0,cc,_,aJ _,rfl,rfl,HG4,HGK4,a8,HGD,HIL4,s,HN0⟩
       case round=>
        clear HG4 HGK4 a8 HGD HIL4 s HN0 cc;obtain⟨i,gd,cd,gN',cN,lab,xs,cu,rfl,rfl,HG,HGK,HLB,HGD,HIL,s,HN0⟩:=hrel;by_cases A:i<M
        . have aq:(i:Int)<M:=om;by_cases h2:i<2
          . have ci:(i:Int)<2:=om;have HCC2:=eI (aot s.out bp A (Or.inl h2));clear s h2 A;exact acs
          . have ci:¬(i:Int)<2:=om;have B:=cP hn HG.out.R;obtain⟨q,hq⟩:∃q,n-(gS X n p2 I i).2=q:=⟨_,rfl⟩;rw[hq] at B;have P:=eI B;by_cases h3:0<q
            . have cj:(0:Int)<q:=om;have HCC2:=eI (aot s.out bp A (Or.inr om));clear B hq s h2 h3 A;go_wp2_with fail;refine mo P.out fun wr r=> ?_;have HG:=eI (HG.out.aA (r.since _));have HGK:=eI (HGK.out.aA (r.since _));have HIL:=eI (HIL.out.aA (r.since _));clear P;exact acs
            . have cj:¬(0:Int)<q:=om;have eC:=alX s.out (fun h=>by omega);subst eC;clear B hq s;go_wp2_with fail;refine mo P.out fun wr r=> ?_;have HG:=eI (HG.out.aA (r.since _));have HGK:=eI (HGK.out.aA (r.since _));have HIL:=eI (HIL.out.aA (r.since _));clear P A;exact adL
        . have aq:¬(i:Int)<M:=om;have eC:=alX s.out (fun h=>A h.1);subst eC;clear A s;exact adL
section
variable{w w':World}{lo k g cp:Nat}{p:Nat->Prop}{R:Nat->fZ}{xs:List Value}{lab:Nat->Nat}{aL aH aN:Option Addr}{nl nh nn kL kH kN:Nat}{Lo Hi:Nat->fZ}{N:Nat->fQ}
def NI(d:fQ):Prop:=I64 d.op/\I64 d.a/\I64 d.b/\I64 d.k/\I64 d.s/\d.nv<=100000
theorem pu.rl(h:pu w lo p (.l a m n) m R xs)(C:∀g,(Value.slice a m n).ownBlock=some g->c<=g)(t:∀g,p g->c<=g):m<=n/\∃b o,(0<m->c<=b)/\ph w c a b o m R:=by
 have j:= @World.ownsRow.cells _ _ _ _ _ _ _ h.own;have f:=h.own;have D:=h.at_;obtain⟨_,⟨e,rfl⟩ | ⟨g,M,N,e,O,hb,E,_⟩⟩:=f
 . cases e;exact⟨aC _,0,0,fun h=>absurd h om,fun i k=>absurd k om⟩
 . cases e;refine⟨E,g,0,fun _=>C g rfl,fun i k=>⟨rfl, ?_⟩⟩;obtain⟨x,y,F,G,z,f,A,d⟩:=D i k;have q:=j (g:=g) rfl _ _ z;have r:=j (g:=g) rfl _ _ f;have s:=j (g:=g) rfl _ _ A;rw[Go.WideShapes.add_plain] at q r s;obtain⟨l,K,H,u⟩:=d.LX;obtain⟨B,L,I,v⟩:=d.LY;exact⟨x,y,F,G,q,by rw[fH];exact r,by rw[fH];exact s,d.nc,d.mc,d.ac,d.bc,⟨l,K,fun h=>t l (H h).1,u⟩,⟨B,L,fun h=>t B (I h).1,v⟩,d.lX,d.lY,d.n63,d.m63⟩
theorem bz(hl:∀q,q<n->lab q=9)(h:lab m=c)(b:c≠9):n<=m:=jV fun a=>b (h.symm.trans (hl m a))
theorem mK.gral{x:Int}(h:mK w lab (.l aL nl kL) (.l aH nh kH) (.l aN nn kN) nl nh nn Lo Hi N)(hl:∀q,q<n->lab q=9)(L:∀i,i<nn->NI (N i))(r:I64 z)(u:I64 y)(t:I64 x)(ab:nl<=100000)(l':nh<=100000)(B:nn<=100000):
 aV w n ⟨z,y,nl,Lo,nh,Hi,nn,N,x⟩ aL aH aN kL kH kN:=by
 obtain⟨x1,C⟩:=h.lo;obtain⟨x2,D⟩:=h.hi;obtain⟨x3,v,E⟩:=h.no;have j:∀q,lab q=0->n<=q:=fun q e=>bz hl e om;have c:=C.rl (fun g e=>bz hl (h.lb g e) om) j;have d:=D.rl (fun g e=>bz hl (h.hb g e) om) j;have a:= @World.ownsRow.cells _ _ _ _ _ _ _ v;obtain⟨_,⟨e,f⟩ | ⟨gN,W,X,e,-,-,M,-⟩⟩:=v
 . cases e;exact⟨c.1,d.1,aC _,c.2,d.2,⟨0,0,fun h=>absurd h qz,fun i b=>absurd b qz⟩,r,u,t,by simp only;omega,by simp only;omega,by simp only;omega⟩
 cases e;refine⟨c.1,d.1,M,c.2,d.2,⟨gN,0,fun _=>bz hl (h.nb gN rfl) om,fun i b=>⟨rfl, ?_⟩⟩,r,u,t,by simp only;omega,by simp only;omega,by simp only;omega⟩;obtain⟨Y,V,y0,U,F,G,H,I,K,A,T⟩:=E i b;have s:=A.rl (fun g e=>by simp[Value.ownBlock] at e;subst e;exact bz hl T om) j;obtain⟨O,P,Q,R,S,Z⟩:=L i b;have f:=a (g:=gN) rfl _ _ U;have k:=a (g:=gN) rfl _ _ F;have m:=a (g:=gN) rfl _ _ G;have l:=a (g:=gN) rfl _ _ H;have o:=a (g:=gN) rfl _ _ I;have p:=a (g:=gN) rfl _ _ K;rw[Go.WideShapes.add_plain] at f k m l o p;refine⟨_,_,f, ?_, ?_, ?_, ?_, ?_,s.1,s.2,O,P,Q,R,S,by simp only;omega⟩
 . rw[fH];exact k
 . rw[fH];exact m
 . rw[fH];exact l
 . rw[fH];exact o
 . rw[fH];exact p
end
structure GB(d:eQ):Prop where
 l:1<=d.nl/\d.nl<=8/\d.nh=d.nl
 i:0<=d.inn/\d.inn<=1000/\0<=d.rounds/\d.rounds<=1000/\0<=d.out/\d.out<=1000
 n:d.nn<=12
 H:∀j,j<d.nl->∃q,d.Hi j=rd q/\Qb q 13
 L:∀j,j<d.nl->(d.Lo j).n<=13/\(d.Lo j).m<=13
 N:∀j,j<d.nn->(0<=(d.N j).op/\(d.N j).op<=7)/\(0<=(d.N j).a/\(d.N j).a<=1000)/\(0<=(d.N j).b/\(d.N j).b<=1000)/\(0<=(d.N j).k/\(d.N j).k<=1000)/\(0<=(d.N j).s/\(d.N j).s<=1000)/\(d.N j).nv<=63
 V:∀j,j<d.nn->∀i,i<(d.N j).nv->∃q,(d.N j).V i=rd q/\Qb q 11
theorem GB.ni(B:GB G)(n:Nat)(a:n<G.nn):NI (G.N n):=by
 have:=B.N n a;unfold NI I64;omega
section
variable{X:Nat->Nat}{n:Nat}
theorem aof(b:∀j,j<n->X j<256)(m:Nat):Qb (sd X n m).1.1 13/\Qb (sd X n m).1.2 13:=by
 have g:=wQ b m;have c:∀(z:Int) (d:Nat),z.natAbs<4294967296->d≠0->d<4294967296->Qb (mkRat z d) 1:=fun z d a e f=>b1 e (by simpa using a) (by simpa using f);unfold sd;split
 . have a:=(rU b (nP n m)).2;have e:=wQ b (rP X n (nP n m));exact⟨Qb.more (n:=11) a om,Qb.add (n:=11) (m:=1) a (c _ _ om om om)⟩
 . unfold sdA;repeat' split
   all_goals exact⟨(c _ _ om om om).more om,(c _ _ om om om).more om⟩
theorem aos(m c d:Nat):∀f i,gC X n m c d f i<=f+i
 | 0,i=>by simp[gC]
 | f+1,i=>by
   unfold gC
   split
   . have:=aos m c d f (i+1);omega
   . omega
theorem aou(b:∀j,j<n->X j<256)(m:Nat):GB (drG X n m).1:=by
 unfold drG drB;have a:1<=drI (nV X n m)/\drI (nV X n m)<=8:=by unfold drI;split<;>omega
 have f:drR (nV X n m)<=20:=by unfold drR;split<;>omega
 generalize drI (nV X n m)=I at*;generalize drR (nV X n m)=R at*;generalize sdP X n (nP n m) I=p2;have e:=aos (X:=X) (n:=n) p2 I (drM (nV X n m) n p2) 12 0;generalize gC X n p2 I (drM (nV X n m) n p2) 12 0=C at*;have r:(if nV X n m % 16=15 then nV X n (gS X n p2 I C).2 % (C+1) else C)<=C:=by
  split
  . exact Nat.le_of_lt_succ (iS _ om)
  . exact aC _
 generalize (if nV X n m % 16=15 then nV X n (gS X n p2 I C).2 % (C+1) else C)=o at*;refine⟨⟨a.1,a.2,rfl⟩,by simp only;omega,by simp only;omega,fun j _=>⟨_,rfl,(aof b _).2⟩,fun j _=>akM (aof b _).1,fun j c=> ?_,fun j c i d=> ?_⟩
 . have h:=alW b p2 I a j (by simp only at c;omega);have g:=h.a;have hb:=h.op;have k:=h.b;have l:=h.k;have p:=h.s;have q:=h.nv;simp only at c⊢;omega
 . exact (alW b p2 I a j (by simp only at c;omega)).V i d
end
theorem bq{R:Nat->fZ}(h:∀i,i<n->(R i).n+(R i).m<=m):nU R n<=n*m:=by
 induction n with
 | zero=>simp[nU]
 | succ n ih=>
   have:=ih (fun i a=>h i om);have:=h n om;rw[py,bI];omega
theorem aoC{A:Nat->fQ}(h:∀i,i<n->(A i).size<=m):szN A n<=n*m:=by
 induction n with
 | zero=>simp[szN]
 | succ n ih=>
   have:=ih (fun i a=>h i om);have:=h n om;rw[yc,bI];omega
theorem size_le(hl:G.nl<=8)(h:G.nh<=8)(k:G.nn<=12)(L:∀i,i<G.nl->(G.Lo i).n+(G.Lo i).m<=40)(H:∀i,i<G.nh->(G.Hi i).n+(G.Hi i).m<=40)(N:∀j,j<G.nn->(G.N j).nv<=100/\∀i,i<(G.N j).nv->((G.N j).V i).n+((G.N j).V i).m<=40):G.size<=60000:=by
 have e:=bq L;have f:=bq H;have g:szN G.N G.nn<=G.nn*4100:=aoC fun j c=>by obtain⟨a,b⟩:=N j c;have:=bq b;unfold fQ.size;omega
 unfold eQ.size;omega
section
variable{X:Nat->Nat}{n:Nat}{d:eQ}
theorem aoh(h:Qb Q n)(a:n<=20):(rd Q).n+(rd Q).m<=40:=by
 have:=akM h;omega
theorem GB.lo(B:GB d)(n:Nat)(hi:n<d.nl):(d.Lo n).n+(d.Lo n).m<=40:=by
 have:=B.L n hi;omega
theorem GB.hi(B:GB d)(n:Nat)(a:n<d.nh):(d.Hi n).n+(d.Hi n).m<=40:=by
 obtain⟨q,e,h⟩:=B.H n (by have:=B.l;omega);rw[e];exact aoh h om
theorem GB.no(B:GB d)(n:Nat)(a:n<d.nn):(d.N n).nv<=100/\∀i,i<(d.N n).nv->((d.N n).V i).n+((d.N n).V i).m<=40:=
 ⟨by have:=B.N n a;omega,fun i b=>by
   obtain⟨q,e,h⟩:=B.V n a i b;rw[e];exact aoh h om⟩
theorem GB.sz(B:GB d):d.size<=60000:=size_le B.l.2.1 (by have:=B.l;omega) B.n B.lo B.hi B.no
end
theorem aoS(b:Code w a n m c X):
 Cl 16 #[.slice a c d] w fun e i=>e=.returned (.p w.heap.size 0)/\Rp i w.heap.size a n m c d X 0/\w.S i:=by
 have g:=fA w (.o #[.l a c d,.i 0] 85);go_enter func16,ntmps16;go_wp2;go_ret;exact⟨rfl,⟨⟨qz,⟨0,aJ _,qz⟩,fun k=>by simp,b.aA g,fun h=>Nat.ne_of_lt (b.lt h)⟩,aJ _,qz,fun h=>b.lt h⟩,g⟩
end Go.Proofs.YtinihjgnnlemmaaGreatDoor
