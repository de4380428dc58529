import Derived.Test.YtclgkofcooibfaaGreatDoorOwnP37
set_option maxHeartbeats 6400000
set_option maxRecDepth 100000
namespace Go.Proofs.YtclgkofcooibfaaGreatDoor
open Go.RowKit
theorem tm{x y t:Nat}(h:x % y=t):(x:Int).tmod (y:Int)=(t:Int):=by
 rw[Int.tmod_eq_emod_of_nonneg om,<-h]
 simp
def pk(m:Nat):Nat->Nat
 | 0=>1
 | i+1=>if m % (i+1)=0 then i+1 else pk m i
theorem ai1(m i:Nat):1<=pk m i/\pk m i<=i+1:=by
 induction i with
 | zero=>simp[pk]
 | succ i ih=>unfold pk;split<;>omega
theorem ah3{m k:Nat}{w:World}(hm:m<=1000)(hk:k<=1000):
 Cl 135 #[.i m,.i k] w fun e w'=>e=.returned (.i (pk m (min m (k+1)):Nat))/\Same w w':=by
 go_enter Tryz.func135,Tryz.ntmps135;go_wp2
 go_loopw [5,6] (fun u d wr=>∃j x:Nat,1<=j/\j<=m+1/\j<=k+2/\u=.i x/\Hid (pk m (j-1)=x)/\d=.i j/\Same w wr) (fun _ d _=>m+1-(intOf d).toNat)
 case atStart=>exact⟨1,1,om,om,om,rfl,ae rfl,rfl,Same.refl _⟩
 case round=>
  obtain⟨j,x,h1,h2,h3,rfl,HX,rfl,sm⟩:=hrel
  by_cases q1:j<=m
  . have q1':(j:Int)<=m:=om
    by_cases q2:j<=k+1
    . have q2':(j:Int)<=k+1:=om
      obtain⟨t,ht⟩:∃t,m % j=t:=⟨_,rfl⟩;have ht':=tm ht
      by_cases q3:t=0
      . subst q3
        have HX2:Hid (pk m (j+1-1)=j):=ae (by
         obtain⟨i,rfl⟩:∃i,j=i+1:=⟨j-1,om⟩
         show pk m (i+1)=_
         rw[pk,if_pos ht])
        have hj0:¬(j:Int)=0:=om
        go_wp2;go_roundw
        case rel=>exact⟨j+1,j,om,om,om,rfl,HX2,by go_num,sm⟩
        case measure=>simp[intOf];omega
      . have q3':((t:Int)==0)=false:=by simp;omega
        have HX2:Hid (pk m (j+1-1)=x):=ae (by
         obtain⟨i,rfl⟩:∃i,j=i+1:=⟨j-1,om⟩
         show pk m (i+1)=_
         rw[pk,if_neg om];exact HX.out)
        have hj0:¬(j:Int)=0:=om
        go_wp2;go_roundw
        case rel=>exact⟨j+1,x,om,om,om,rfl,HX2,by go_num,sm⟩
        case measure=>simp[intOf];omega
    . have q2':¬(j:Int)<=k+1:=om
      have HE:Hid (pk m (min m (k+1))=x):=ae (by rw[<-HX.out];congr 1;omega);go_wp2;go_ret;rw[HE.out];exact⟨rfl,sm⟩
  . have q1':¬(j:Int)<=m:=om
    have HE:Hid (pk m (min m (k+1))=x):=ae (by rw[<-HX.out];congr 1;omega);go_wp2;go_ret;rw[HE.out];exact⟨rfl,sm⟩
theorem au.aI{w w':World}{c d:Nat}{x y z u v t:Value}(h:au w c x y z u v t)(s:cu d w w')(hc:c≠d):au w' c x y z u v t:=
 ⟨(s.cell (a:=jj c 0) h.lt hc).trans h.c0,(s.cell (a:=jj c 1) h.lt hc).trans h.c1,(s.cell (a:=jj c 2) h.lt hc).trans h.c2,(s.cell (a:=jj c 3) h.lt hc).trans h.c3,(s.cell (a:=jj c 4) h.lt hc).trans h.c4,(s.cell (a:=jj c 5) h.lt hc).trans h.c5,fun k=>(s.frozen (a:=jj c k) h.lt hc).trans (h.f k)⟩
theorem mf.aI{w w':World}{a:Option Addr}{b off n d:Nat}{X:Nat->Int}(h:mf w a b off n X)(s:cu d w w')(hc:b≠d):mf w' a b off n X:=fun j hj=>
 ⟨(h j hj).1,(s.cell (a:=jj b (off+j)) (gz _ _ (h j hj).2) hc).trans (h j hj).2⟩
theorem fP.marked{w w':World}{lo k d:Nat}{p:Nat->Prop}{v:Value}{R:Nat->br}{xs:List Value}(h:fP w lo p v k R xs)(M:af w w' d)(hd:d<lo)(hp:∀g,p g->g≠d):fP w' lo p v k R xs:=
 h.mv (fun g hg=>M.other g (by have:=(h.own.lt g hg).1;omega)) (fun g _ hp'=>⟨M.other g (hp g hp'),hp'⟩)
theorem fP.low{w:World}{lo lo' k:Nat}{p p':Nat->Prop}{v:Value}{R:Nat->br}{xs:List Value}(h:fP w lo p v k R xs)(hl:lo'<=lo)(hp:∀g,p g->p' g):fP w lo' p' v k R xs:=by
 have h2:=h.mv (w':=w) (p':=p') (fun _ _=>rfl) (fun g _ h=>⟨rfl,hp g h⟩);refine⟨?_,h2.at_⟩;obtain⟨e,h1 | ⟨g,cap,cur,e1,e2,e3⟩⟩:=h2.own
 . exact⟨e,Or.inl h1⟩
 . exact⟨e,Or.inr ⟨g,cap,cur,e1,Nat.le_trans hl e2,e3⟩⟩
theorem fP.nil(w:World)(lo:Nat)(p:Nat->Prop)(R:Nat->br)(h:lo<=w.heap.size):fP (w.alloc (.cells #[] 44)) lo p (.s w.heap.size 0 0) 0 R []:=
 ⟨pv w #[] 0 h (Nat.zero_le _) rfl,fun i hi=>absurd hi om⟩
theorem fP.cells{w:World}{lo k g cp:Nat}{p:Nat->Prop}{R:Nat->br}{xs:List Value}(h:fP w lo p (.s g k cp) k R xs){i:Nat}(hi:i<k):∃a1 a2 k1 k2,w.cell? (jj g (i*3))=some (.bool (R i).neg)/\w.cell? (jj g (i*3+1))=some (.slice a1 (R i).n k1)/\w.cell? (jj g (i*3+2))=some (.slice a2 (R i).m k2)/\dZ w (fun q=>p q/\q≠g) (R i) a1 a2 k1 k2:=by
 obtain⟨a1,a2,k1,k2,h1,h2,h3,h4⟩:=h.at_ i hi;exact⟨a1,a2,k1,k2,(h.own.cellAt _ om).trans h1,(h.own.cellAt _ om).trans h2,(h.own.cellAt _ om).trans h3,h4.mv fun q _ hp=>⟨rfl,hp.1,fun e=>hp.2 (by rw[e];rfl)⟩⟩
theorem fP.put{w:World}{lo k g cp:Nat}{p:Nat->Prop}{R:Nat->br}{xs:List Value}{r:br}{a1 a2:Option Addr}{k1 k2:Nat}(h:fP w lo p (.s g k cp) k R xs)(i:Nat)(K:dZ w (fun q=>p q/\q≠g) r a1 a2 k1 k2):
 ∃xs',fP (((w.setCell ⟨g,i*3,none⟩ (.bool r.neg)).setCell ⟨g,i*3+1,none⟩ (.slice a1 r.n k1)).setCell ⟨g,i*3+2,none⟩ (.slice a2 r.m k2)) lo p (.s g k cp) k (fun j=>if j=i then r else R j) xs':=by
 have M:af w (((w.setCell (jj g (i*3)) (.bool r.neg)).setCell (jj g (i*3+1)) (.slice a1 r.n k1)).setCell (jj g (i*3+2)) (.slice a2 r.m k2)) g:=(((af.refl w _).setCell _ _).setCell _ _).setCell _ _;have hl:=h.own.1;refine⟨_,(((h.own.stored (i*3) (.bool r.neg)).1.stored (i*3+1) (.slice a1 r.n k1)).1.stored (i*3+2) (.slice a2 r.m k2)).1,fun j hj=> ?_⟩
 by_cases e:j=i
 . subst e
   rw[if_pos rfl];refine⟨a1,a2,k1,k2, ?_, ?_, ?_,K.mv fun q _ hp=>⟨M.other q hp.2,hp.1,fun e=>hp.2 (by simp[Value.ownBlock] at e;exact e.symm)⟩⟩
   . rw[List.getElem?_set_ne om,List.getElem?_set_ne om,List.getElem?_set_self om]
   . rw[List.getElem?_set_ne om,List.getElem?_set_self (by simp;omega)]
   . rw[List.getElem?_set_self (by simp;omega)]
 . rw[if_neg e]
   obtain⟨b1,b2,l1,l2,h1,h2,h3,h4⟩:=h.at_ j hj;refine⟨b1,b2,l1,l2, ?_, ?_, ?_,h4.mv fun q _ hp=>⟨M.other q fun e=>hp.2 (by rw[e];rfl),hp⟩⟩
   . rw[List.getElem?_set_ne om,List.getElem?_set_ne om,List.getElem?_set_ne om];exact h1
   . rw[List.getElem?_set_ne om,List.getElem?_set_ne om,List.getElem?_set_ne om];exact h2
   . rw[List.getElem?_set_ne om,List.getElem?_set_ne om,List.getElem?_set_ne om];exact h3
structure oU(w0 w:World)(c:Nat)(a:Option Addr)(b off n cap:Nat)(X:Nat->Nat)(p c4 c9:Nat)(x0 x1 x2 x3 x4 x5:Value):Prop where
 l4:w0.heap.size<=c4
 l9:c4<c9
 lc:c<w0.heap.size
 B4:au w c4 (.int .i64 0) (.int .i64 0) (.int .i64 0) (.int .i64 0) (.int .i64 0) (.slice none 0 0)
 B9:au w c9 x0 x1 x2 x3 x4 x5
 R:Rp w c a b off n cap X p
 O:cu c w0 w
section
variable{w0 w w':World}{c:Nat}{a:Option Addr}{b off n cap:Nat}{X:Nat->Nat}{p p' c4 c9:Nat}{x0 x1 x2 x3 x4 x5 y0 y1 y2 y3 y4 y5:Value}
theorem oU.m9(h:oU w0 w c a b off n cap X p c4 c9 x0 x1 x2 x3 x4 x5)(M:af w w' c9)(B:au w' c9 y0 y1 y2 y3 y4 y5):oU w0 w' c a b off n cap X p c4 c9 y0 y1 y2 y3 y4 y5:=by
 have l4:=h.l4;have l9:=h.l9;have lc:=h.lc;exact⟨l4,l9,lc,h.B4.marked M om,B,h.R.marked M om,jl h.O M om⟩
theorem oU.aE(h:oU w0 w c a b off n cap X p c4 c9 x0 x1 x2 x3 x4 x5)(q:Value):oU w0 (w.setCell ⟨c9,0,none⟩ q) c a b off n cap X p c4 c9 q x1 x2 x3 x4 x5:=h.m9 ((af.refl _ _).setCell 0 q) (h.B9.aE q)
theorem oU.aF(h:oU w0 w c a b off n cap X p c4 c9 x0 x1 x2 x3 x4 x5)(q:Value):oU w0 (w.setCell ⟨c9,2,none⟩ q) c a b off n cap X p c4 c9 x0 x1 q x3 x4 x5:=h.m9 ((af.refl _ _).setCell 2 q) (h.B9.aF q)
theorem oU.aK(h:oU w0 w c a b off n cap X p c4 c9 x0 x1 x2 x3 x4 x5)(q:Value):oU w0 (w.setCell ⟨c9,3,none⟩ q) c a b off n cap X p c4 c9 x0 x1 x2 q x4 x5:=h.m9 ((af.refl _ _).setCell 3 q) (h.B9.aK q)
theorem oU.aS(h:oU w0 w c a b off n cap X p c4 c9 x0 x1 x2 x3 x4 x5)(q:Value):oU w0 (w.setCell ⟨c9,4,none⟩ q) c a b off n cap X p c4 c9 x0 x1 x2 x3 q x5:=h.m9 ((af.refl _ _).setCell 4 q) (h.B9.aS q)
theorem oU.aO(h:oU w0 w c a b off n cap X p c4 c9 x0 x1 x2 x3 x4 x5)(q:Value):oU w0 (w.setCell ⟨c9,5,none⟩ q) c a b off n cap X p c4 c9 x0 x1 x2 x3 x4 q:=h.m9 ((af.refl _ _).setCell 5 q) (h.B9.aO q)
theorem oU.go(h:oU w0 w c a b off n cap X p c4 c9 x0 x1 x2 x3 x4 x5)(R:Rp w' c a b off n cap X p')(O:cu c w w'):oU w0 w' c a b off n cap X p' c4 c9 x0 x1 x2 x3 x4 x5:=by
 have l4:=h.l4;have l9:=h.l9;have lc:=h.lc;exact⟨l4,l9,lc,h.B4.aI O om,h.B9.aI O om,R,h.O.trans O⟩
theorem oU.aA(h:oU w0 w c a b off n cap X p c4 c9 x0 x1 x2 x3 x4 x5)(s:w.S w'):oU w0 w' c a b off n cap X p c4 c9 x0 x1 x2 x3 x4 x5:=h.go (h.R.aA s) (cu.aC c s)
end
def yY(D:Nat->Nat)(d:Nat):Nat->Nat
 | 0=>0
 | b+1=>if D (b+1)=d then b+1 else yY D d b
theorem ahZ(D:Nat->Nat)(d b:Nat):yY D d b<=b:=by
 induction b with
 | zero=>exact Nat.le_refl _
 | succ b ih=>unfold yY;split<;>omega
def ndA(X:Nat->Nat)(n p m:Nat):Nat×Nat:=if nV X n p % 7=6 then (nV X n (nP n p) % m,nP n (nP n p)) else (m-1,nP n p)
def ndB(X:Nat->Nat)(n o t d p m:Nat)(D:Nat->Nat):ay×Nat:=
 if o=2∨o=3 then (⟨2,t,0,0,0,0,px X n p⟩,p)
 else if o=4 then (⟨3,t,0,0,0,1,px X n p⟩,jK X n p 1)
 else if o=5 then (⟨4,t,(if D (yY D d (nV X n p % m))=d then yY D d (nV X n p % m) else t:Nat),0,0,0,px X n p⟩,nP n p)
 else if o=6/\1<d then (⟨5,t,0,(pk d (min d (1+nV X n p % 8+1)):Nat),0,0,px X n p⟩,nP n p)
 else if o=7 then (⟨6,t,0,(1+nV X n p % d:Nat),(1+nV X n (nP n p) % 3:Nat),1+nV X n p % d+1,px X n (nP n (nP n p))⟩,jK X n (nP n (nP n p)) (1+nV X n p % d+1))
 else if o=8 then (⟨7,t,0,0,0,4,fun i=>if i=2/\(px X n p 2).n=0 then rd (mkRat 2 1) else px X n p i⟩,jK X n p 4)
 else if o=9 then (⟨1,t,0,(4+nV X n (nP n p) % 4:Nat),0,(4+nV X n (nP n p) % 4)*(d+1),px X n (nP n (nP n p))⟩,jK X n (nP n (nP n p)) ((4+nV X n (nP n p) % 4)*(d+1)))
 else if o=6 then (⟨1,t,0,6,0,6*(d+1),px X n (nP n p)⟩,jK X n (nP n p) (6*(d+1)))
 else (⟨1,t,0,(1+nV X n p % 4:Nat),0,(1+nV X n p % 4)*(d+1),px X n (nP n p)⟩,jK X n (nP n p) ((1+nV X n p % 4)*(d+1)))
def nd(X:Nat->Nat)(n p m:Nat)(D:Nat->Nat):ay×Nat:=ndB X n (nV X n p/7 % 10) (ndA X n p m).1 (D (ndA X n p m).1) (ndA X n p m).2 m D
def ahm(w:World)(B:Nat)(u:Value)(d:ay):Prop:=∃g cp xs,u=.agg #[.int .i64 d.op,.int .i64 d.a,.int .i64 d.b,.int .i64 d.k,.int .i64 d.s,.slice (some ⟨g,0,none⟩) d.nv cp]/\fP w B (fun q=>B<=q) (.slice (some ⟨g,0,none⟩) d.nv cp) d.nv d.V xs
end Go.Proofs.YtclgkofcooibfaaGreatDoor
