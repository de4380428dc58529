import Derived.Test.YtinihjgnnlemmaaGreatDoorOwnP36
import Derived.Test.YtinihjgnnlemmaaGreatDoorOwnP30
set_option maxHeartbeats 6400000
set_option maxRecDepth 100000
set_option linter.unusedVariables false
namespace Go.Proofs.YtinihjgnnlemmaaGreatDoor
open Tryz Go.RowKit
variable{w v W V:World}{n m c d k i j l o b p q t r s g h e:Nat}{a A B:Option Addr}{X Y Z:Nat->Nat}{P:Nat->Prop}{Q:Rat}{R:fZ}
structure lH(w:World)(p:Nat->Prop)(r:fZ)(a b:Option Addr)(ca cb:Nat):Prop where
 nc:r.n<=ca
 mc:r.m<=cb
 ac:a=none->ca=0
 bc:b=none->cb=0
 LX:∃ba oa,(0<r.n->p ba)/\eO w a ba oa r.n r.X
 LY:∃bb ob,(0<r.m->p bb)/\eO w b bb ob r.m r.Y
 lX:∀j,j<r.n->r.X j<4294967296
 lY:∀j,j<r.m->r.Y j<4294967296
 n63:r.n<=9223372036854775807
 m63:r.m<=9223372036854775807
section
variable{w w' w1:World}{p p':Nat->Prop}{r:fZ}{a b:Option Addr}{ca cb lo k:Nat}{v v':Value}{R R':Nat->fZ}{xs:List Value}
theorem afC(L:eO w a c m n X)(h:0<n->w'.heap[c]?=w.heap[c]?):eO w' a c m n X:=
 fun j b=>⟨(L j b).1,(aO (w:=w) (a:=jj c (m+j)) (h om)).trans (L j b).2⟩
theorem lH.mv(h:lH w p r a b ca cb)(hb:∀g,g<w.heap.size->p g->w'.heap[g]?=w.heap[g]?/\p' g):lH w' p' r a b ca cb:=by
 obtain⟨f,l,j,d⟩:=h.LX;obtain⟨i,m,k,e⟩:=h.LY
 exact⟨h.nc,h.mc,h.ac,h.bc,⟨f,l,fun c=>(hb f (d.lt c) (j c)).2,afC d fun c=>(hb f (d.lt c) (j c)).1⟩,
  ⟨i,m,fun c=>(hb i (e.lt c) (k c)).2,afC e fun c=>(hb i (e.lt c) (k c)).1⟩,h.lX,h.lY,h.n63,h.m63⟩
theorem ai.rk(h:ai w lo r a b ca cb):lH w (fun g=>lo<=g) r a b ca cb:=⟨h.nc,h.mc,h.ac,h.bc,h.LX,h.LY,h.lX,h.lY,h.n63,h.m63⟩
structure pu(w:World)(lo:Nat)(p:Nat->Prop)(v:Value)(k:Nat)(R:Nat->fZ)(xs:List Value):Prop where
 own:w.ownsRow lo 70 3 v k xs
 at_:∀i,i<k->∃a1 a2 k1 k2,xs[i*3]?=some (.bool (R i).neg)/\xs[i*3+1]?=some (.slice a1 (R i).n k1)/\xs[i*3+2]?=some (.slice a2 (R i).m k2)/\lH w (fun g=>p g/\v.ownBlock≠some g) (R i) a1 a2 k1 k2
theorem pu.mv(h:pu w lo p v k R xs)(s:∀g,v.ownBlock=some g->w'.heap[g]?=w.heap[g]?)(hb:∀g,g<w.heap.size->p g->w'.heap[g]?=w.heap[g]?/\p' g):pu w' lo p' v k R xs:=by
 refine⟨?_,fun i r=> ?_⟩
 . obtain⟨hl,a | ⟨g,f,j,rfl,o,q,t⟩⟩:=h.own
   . exact⟨hl,Or.inl a⟩
   . exact⟨hl,Or.inr ⟨g,f,j,rfl,o,(s g (by simp[Value.ownBlock])).trans q,t⟩⟩
 . obtain⟨d,e,u,x,a,l,m,n⟩:=h.at_ i r;exact⟨d,e,u,x,a,l,m,n.mv fun g c b=>⟨(hb g c b.1).1,(hb g c b.1).2,b.2⟩⟩
theorem pu.aA(h:pu w lo p v k R xs)(s:w.S w'):pu w' lo p v k R xs:=
 h.mv (fun g a=>s.block g (h.own.lt g a).2) (fun g a b=>⟨s.block g a,b⟩)
theorem pu.bR(h:pu w lo p v k R xs)(s:il c w w')(d:v.ownBlock≠some c)(f:∀g,p g->g≠c):pu w' lo p v k R xs:=
 h.mv (fun g a=>s.block g (h.own.lt g a).2 (fun e=>d (e▸a))) (fun g a b=>⟨s.block g a (f g b),b⟩)
theorem pu.congr(h:pu w lo p v k R xs)(b:∀i,i<k->R i=R' i):pu w lo p v k R' xs:=
 ⟨h.own,fun i a=>by rw[<-b i a];exact h.at_ i a⟩
theorem pu.snoc{a1 a2:Option Addr}{k1 k2:Nat}(h:pu w lo p v k R xs)(A:w.S w1)(C:w.heap.size<w1.heap.size)(g:w1.grownBy w' v.ownBlock)(own:w'.ownsRow lo 70 3 v' (k+1) (xs++[.bool (R k).neg,.l a1 (R k).n k1,.l a2 (R k).m k2]))
 (u:v'.ownBlock=v.ownBlock∨v'.ownBlock=some w1.heap.size)(r:lH w (fun q=>p q/\v.ownBlock≠some q) (R k) a1 a2 k1 k2):pu w' lo p v' (k+1) R (xs++[.bool (R k).neg,.slice a1 (R k).n k1,.slice a2 (R k).m k2]):=by
 have hl:=h.own.1
 have j:∀ {r:fZ} {a b:Option Addr} {d f:Nat},lH w (fun q=>p q/\v.ownBlock≠some q) r a b d f->lH w' (fun q=>p q/\v'.ownBlock≠some q) r a b d f:=fun r=>r.mv fun q x c=>
  ⟨(g.block q om (fun e=>c.2 e.symm)).trans (A.block q x),c.1,fun e=>by
    rcases u with h | h
    . exact c.2 (h.symm.trans e)
    . rw[e] at h;simp at h;omega⟩
 refine⟨own,fun i B=> ?_⟩;by_cases e:i=k
 . subst e;refine⟨a1,a2,k1,k2, ?_, ?_, ?_,j r⟩
   . rw[bK om,hl];simp
   . rw[bK om,hl];simp
   . rw[bK om,hl];simp
 . obtain⟨l,m,y,z,n,o,s,t⟩:=h.at_ i om;exact⟨l,m,y,z,by rw[bJ om];exact n,by rw[bJ om];exact o,by rw[bJ om];exact s,j t⟩
end
section
variable{w w':World}{p:Nat->Prop}{q:Rat}{v:Value}
theorem jM.kq(h:jM w v (qn q) q.num.natAbs q.den n m)(f:m<=9223372036854775807):∃a b c d,v=.agg #[.bool (rd q).neg,.slice a (rd q).n c,.slice b (rd q).m d]/\lH w (fun g=>n<=g) (rd q) a b c d:=by
 obtain⟨a,b,c,d,e,L,-,-⟩:=h.can f;exact⟨a,b,c,d,e,L.rk⟩
theorem lH.rr(h:lH w p (rd q) a A n m):pO w (.agg #[.bool (rd q).neg,.slice a (rd q).n n,.slice A (rd q).m m]) q:=by
 obtain⟨j,l,-,g⟩:=h.LX;obtain⟨k,b,-,i⟩:=h.LY;refine⟨a,_,n,A,_,m,j,l,k,b,_,_,rfl,⟨h.nc,h.mc,h.ac,h.bc,g,i,h.lX,h.lY,(j8 _).2.1,(j8 _).2.1, ?_⟩,(j8 _).2.2,(j8 _).2.2⟩;show 0<(nT q.den).1;rcases cQ (nT q.den).1 with e | e
 . have f:=(j8 q.den).2.2;rw[e] at f;exact absurd f.symm q.den_nz
 . exact e
end
def rq(X:Nat->Nat)(n p:Nat):Rat:=tq (rt X n p).1
def rP(X:Nat->Nat)(n p:Nat):Nat:=(rt X n p).2
theorem Rp.hX(h:Rp w n a m c d k X i):∀j,j<d->X j<256:=fun j e=>(h.R.code j e).1
theorem eZ{n:Nat}{a:Option Addr}{m c d k:Nat}{X:Nat->Nat}{i:Nat}{w:World}(q:d<=16777216)(R:Rp w n a m c d k X i):
 Cl 119 #[.p n 0] w fun e j=>∃b f h l,e=.returned (.agg #[.bool (rd (rq X d i)).neg,.slice b (rd (rq X d i)).n h,.slice f (rd (rq X d i)).m l])/\lH j (fun g=>w.heap.size<=g) (rd (rq X d i)) b f h l/\Rp j n a m c d k X (rP X d i)/\il n w j:=by
 refine (apJ q R).mono ?_;rintro e j ⟨v,rfl,p,o,O⟩;rw[(rU R.hX i).1] at p;obtain⟨b,f,h,l,rfl,K⟩:=jM.kq (q:=rq X d i) p om;exact⟨b,f,h,l,rfl,K,o,O⟩
def nuP(X:Nat->Nat)(n p:Nat):Nat->Nat
 | 0=>p
 | i+1=>rP X n (nuP X n p i)
def nuQ(X:Nat->Nat)(n p i:Nat):Rat:=rq X n (nuP X n p i)
def xY(X:Nat->Nat)(n p i:Nat):fZ:=rd (nuQ X n p i)
theorem xG{n:Nat}{a:Option Addr}{m c d k:Nat}{X:Nat->Nat}{i j:Nat}{w:World}(hn:d<=16777216)(hN:j<=100000)(R:Rp w n a m c d k X i):
 Cl 120 #[.p n 0,.i (j:Int)] w fun e G=>∃g h t,e=.returned (.s g j h)/\pu G w.heap.size (fun q=>w.heap.size<=q) (.s g j h) j (xY X d i) t/\Rp G n a m c d k X (nuP X d i j)/\il n w G:=by
 obtain⟨i0,C,ab,ac,ad⟩:=pr;have ag:=R.R.lt;have S:=fA w (.o #[] 70);have oA:(w.alloc (.o #[] 70)).ownsRow w.heap.size 70 3 (.s w.heap.size 0 0) 0 []:=iP w #[] 0 zR (aJ _) rfl;go_enter func120,ntmps120;go_wp2_with fail;go_loopw [5,6] (fun af E wr=>∃(b g h:Nat) (t:List Value),b<=j/\E=.i b/\af=.s g b h/\Rp wr n a m c d k X (nuP X d i b)/\il n w wr/\Hid (pu wr w.heap.size (fun q=>w.heap.size<=q) (.s g b h) b (xY X d i) t)) (fun _ E _=>j-(intOf E).toNat)
 case atStart=>exact⟨0,w.heap.size,0,[],aJ _,rfl,rfl,R.aA S,il.aD n S,eI ⟨oA,fun E C=>absurd C om⟩⟩
 case round=>
  obtain⟨b,g,h,t,hk,rfl,rfl,K,y,O⟩:=hrel;by_cases aj:b<j
  . have ae:(b:Int)<j:=om;have I:=eZ hn K;have T:=eI (show rP X d (nuP X d i b)=nuP X d i (b+1) from rfl);obtain⟨r,Q⟩:∃r,rd (rq X d (nuP X d i b))=r:=⟨_,rfl⟩;rw[Q] at I;have H:Hid (xY X d i b=r):=eI Q;go_wp2_with fail;refine I.mono ?_;rintro e s ⟨f,p,B,o,rfl,A,Y,z⟩;have A:=eI A;obtain⟨nb,u,X1,v,Y1⟩:=r;have z1:=z.size;have z0:=y.size;have lg:=O.out.own.lt g rfl;have x:=O.out.bR z (fun e=>by simp[Value.ownBlock] at e;omega) (fun q D=>by omega);have V:=y.trans z;go_wp2_with (at_builtin;refine wpList_append_own_at _ rfl _ _ 50 rfl w.heap.size 70 i0 _ 3 56 underlying50 C ab ac ad rfl qd _ _ _ rfl (x.own.alloc _) (jj s.heap.size 0) 1 1 [.bool nb,.l f u B,.l p v o] rfl rfl (bW _ _ _ _ _) (bV _ _ _ _ _ _ _) (by unfold maxLen;omega) om (by simp;omega) ?_);intro v' w2 P l ak N;replace l:(s.alloc (.o #[.bool nb,.l f u B,.l p v o] 70)).grownBy w2 (Value.s g b h).ownBlock:=l;obtain⟨g',Z,rfl,ah,ai⟩:=P.form om;have F:=fA s (.o #[.bool nb,.l f u B,.l p v o] 70);have zW:(s.alloc (.o #[.bool nb,.l f u B,.l p v o] 70)).heap.size=s.heap.size+1:=(by simp);have M:=fun q D=>(x.own.lt q D).1;have W:=(V.trans (il.aD n F)).grown l M;have L:=(Y.aA F).grown l (fun q e=>by have:=M q e;omega);rw[T.out] at L;have U:=eI (x.snoc (a1:=f) (a2:=p) (k1:=B) (k2:=o) F om l (by rw[H.out];exact P) (by rw[zW];exact N) (by rw[H.out];exact A.out.mv fun q D hp=>⟨rfl,om,fun e=>by simp[Value.ownBlock] at e;omega⟩));go_wp2;go_roundw
    case rel=>exact⟨b+1,g',Z,_,om,by go_num,rfl,L,W,U⟩
    case measure=>exact yI
  . have e:b=j:=om;subst e;have ae:¬((b:Int)<b):=om;go_wp2;go_ret;exact⟨g,h,rfl,⟨t,O.out⟩,K,y⟩
theorem pK{z y:Int}{w:World}(j:-100000<=z)(k:z<=100000)(l:0<y)(m:y<=100000):
 Cl 152 #[.i z,.i y] w fun e h=>∃b c d f,e=.returned (.agg #[.bool (rd (mkRat z y.toNat)).neg,.slice b (rd (mkRat z y.toNat)).n d,.slice c (rd (mkRat z y.toNat)).m f])/\lH h (fun g=>w.heap.size<=g) (rd (mkRat z y.toNat)) b c d f/\w.S h:=by
 refine (xQ j k l m).mono ?_;rintro e h ⟨v,rfl,i,s⟩;rw[e1 _ _ om] at i;obtain⟨b,c,d,f,rfl,K⟩:=jM.kq (q:=mkRat z y.toNat) i om;exact⟨b,c,d,f,rfl,K,s⟩
def sdA(k:Nat):Rat×Rat:=
 if k % 6=0 then (mkRat (-1) 1,mkRat 1 1) else if k % 6=1 then (mkRat 0 1,mkRat 2 1) else if k % 6=2 then (mkRat 1 1,mkRat 3 1) else if k % 6=3 then (mkRat (-3) 2,mkRat (-1) 2)
 else (mkRat ((k:Int)/6 % 7-3) 1,mkRat ((k:Int)/6 % 7-3) 1)
def sd(X:Nat->Nat)(n p:Nat):(Rat×Rat)×Nat:=
 if nV X n p % 6=5 then ((rq X n (nP n p),rq X n (nP n p)+mkRat ((nV X n (rP X n (nP n p)):Int) % 9) (1+(nV X n p:Int)/6 % 3).toNat),nP n (rP X n (nP n p))) else (sdA (nV X n p),nP n p)
theorem lH.marked(h:lH w P R a A n m)(M:eM w v c)(i:∀g,P g->g≠c):lH v P R a A n m:=
 h.mv fun g _ f=>⟨M.other g (i g f),f⟩
theorem lH.aA{w w':World}(h:lH w P R a A n d)(s:w.S w'):lH w' P R a A n d:=
 h.mv fun g e f=>⟨s.block g e,f⟩
theorem lH.bR(h:lH w P R a A c n)(s:il d w v)(i:∀g,P g->g≠d):lH v P R a A c n:=
 h.mv fun g j f=>⟨s.block g j (i g f),f⟩
theorem lH.imp{P p':Nat->Prop}(h:lH w P R a A n m)(i:∀g,g<w.heap.size->P g->p' g):lH w p' R a A n m:=
 h.mv fun g f e=>⟨rfl,i g f e⟩
theorem lH.rq(e:rd Q=R)(h:lH w P R a A n m):pO w (.agg #[.bool R.neg,.slice a R.n n,.slice A R.m m]) Q:=by
 subst e;exact h.rr
def aql(w:World)(B:Nat)(v:Value)(r:fZ):Prop:=∃a1 a2 k1 k2,v=.agg #[.bool r.neg,.slice a1 r.n k1,.slice a2 r.m k2]/\lH w (fun g=>B<=g) r a1 a2 k1 k2
theorem aoF(hn:d<=16777216)(a2:Rp w n a m c d k X i):
 Cl 106 #[.p n 0] w fun e y=>∃aw ag,e=.returned (.tuple #[aw,ag])/\aql y w.heap.size aw (rd (sd X d i).1.1)/\aql y w.heap.size ag (rd (sd X d i).1.2)/\Rp y n a m c d k X (sd X d i).2/\il n w y:=by
 have bn:=a2.R.lt;obtain⟨a1,eA⟩:∃a1:World,a1=(w.alloc yJ).alloc yJ:=⟨_,rfl⟩;have sA:w.S a1:=by rw[eA];exact (fA _ _).alloc qz _
 have rA:eS a1 w.heap.size (.bool false) (.n) (.n):=by rw[eA];exact (eS.new w _ _ _ _).aA (fA _ _)
 have rB:eS a1 (w.heap.size+1) (.bool false) (.n) (.n):=by rw[eA];have h:=eS.new (w.alloc yJ) (.bool false) (.n) (.n) 70;rw[show (w.alloc yJ).heap.size=w.heap.size+1 by simp] at h;exact h
 have RA:=a2.aA sA;obtain⟨f,ah⟩:∃x,sd X d i=x:=⟨_,rfl⟩;rw[ah];have am:=eI ah;clear ah;go_enter func106,ntmps106;go_wp2_with fail;rw[<-eA];clear eA;have zb:=rB.lt;refine (@jd n a m c d k X i a1 hn RA).mono ?_;rintro e W ⟨b,ek,rfl,hk,R1,O1⟩;have ae:=rA.bR O1 om;have af:=rB.bR O1 om;have ad:=(il.aD n sA).trans O1;have z1:=O1.size;have zA:=sA.size;have p:=am.out;unfold sd at p;rw[ek] at p;have EK:=eI ek;clear RA O1 sA ek am rA rB;have a3:b % 6=0∨b % 6=1∨b % 6=2∨b % 6=3∨b % 6=4∨b % 6=5:=om;rcases a3 with x | x | x | x | x | x
 focus
  rw[aM om] at p;unfold sdA at p;rw[aY x] at p;have g0:((b:Int) % 6==0)=true:=by simp;omega
  have E:=@pK (-1) 1 W om om om om;obtain⟨o,j⟩:∃r,rd (mkRat (-1) ((1:Int)).toNat)=r:=⟨_,rfl⟩;obtain⟨R,Z⟩:∃r,rd (mkRat 1 ((1:Int)).toNat)=r:=⟨_,rfl⟩;have P:Hid (rd f.1.1=o):=eI (by rw[<-p];exact j);have Q:Hid (rd f.1.2=R):=eI (by rw[<-p];exact Z);have D:Hid (nP d i=f.2):=eI (by rw[<-p]);have F:=fun G=>@pK 1 1 G om om om om
 rotate_left
 focus
  rw[aM om] at p;unfold sdA at p;rw[aM om,aY x] at p;have g0:((b:Int) % 6==0)=false:=by simp;omega
  have g1:((b:Int) % 6==1)=true:=by simp;omega
  have E:=@pK 0 1 W om om om om;obtain⟨o,j⟩:∃r,rd (mkRat 0 ((1:Int)).toNat)=r:=⟨_,rfl⟩;obtain⟨R,Z⟩:∃r,rd (mkRat 2 ((1:Int)).toNat)=r:=⟨_,rfl⟩;have P:Hid (rd f.1.1=o):=eI (by rw[<-p];exact j);have Q:Hid (rd f.1.2=R):=eI (by rw[<-p];exact Z);have D:Hid (nP d i=f.2):=eI (by rw[<-p]);have F:=fun G=>@pK 2 1 G om om om om
 rotate_left
 focus
  rw[aM om] at p;unfold sdA at p;rw[aM om,aM om,aY x] at p;have g0:((b:Int) % 6==0)=false:=by simp;omega
  have g1:((b:Int) % 6==1)=false:=by simp;omega
  have g2:((b:Int) % 6==2)=true:=by simp;omega
  have E:=@pK 1 1 W om om om om;obtain⟨o,j⟩:∃r,rd (mkRat 1 ((1:Int)).toNat)=r:=⟨_,rfl⟩;obtain⟨R,Z⟩:∃r,rd (mkRat 3 ((1:Int)).toNat)=r:=⟨_,rfl⟩;have P:Hid (rd f.1.1=o):=eI (by rw[<-p];exact j);have Q:Hid (rd f.1.2=R):=eI (by rw[<-p];exact Z);have D:Hid (nP d i=f.2):=eI (by rw[<-p]);have F:=fun G=>@pK 3 1 G om om om om
 rotate_left
 focus
  rw[aM om] at p;unfold sdA at p;rw[aM om,aM om,aM om,aY x] at p;have g0:((b:Int) % 6==0)=false:=by simp;omega
  have g1:((b:Int) % 6==1)=false:=by simp;omega
  have g2:((b:Int) % 6==2)=false:=by simp;omega
  have g3:((b:Int) % 6==3)=true:=by simp;omega
  have E:=@pK (-3) 2 W om om om om;obtain⟨o,j⟩:∃r,rd (mkRat (-3) ((2:Int)).toNat)=r:=⟨_,rfl⟩;obtain⟨R,Z⟩:∃r,rd (mkRat (-1) ((2:Int)).toNat)=r:=⟨_,rfl⟩;have P:Hid (rd f.1.1=o):=eI (by rw[<-p];exact j);have Q:Hid (rd f.1.2=R):=eI (by rw[<-p];exact Z);have D:Hid (nP d i=f.2):=eI (by rw[<-p]);have F:=fun G=>@pK (-1) 2 G om om om om
 rotate_left
 focus
  rw[aM om] at p;unfold sdA at p;rw[aM om,aM om,aM om,aM om] at p;have g0:((b:Int) % 6==0)=false:=by simp;omega
  have g1:((b:Int) % 6==1)=false:=by simp;omega
  have g2:((b:Int) % 6==2)=false:=by simp;omega
  have g3:((b:Int) % 6==3)=false:=by simp;omega
  have g4:((b:Int) % 6==4)=true:=by simp;omega
  have E:=@pK ((b:Int)/6 % 7-3) 1 W om om om om;obtain⟨o,j⟩:∃r,rd (mkRat ((b:Int)/6 % 7-3) ((1:Int)).toNat)=r:=⟨_,rfl⟩;obtain⟨R,Z⟩:∃r,rd (mkRat ((b:Int)/6 % 7-3) ((1:Int)).toNat)=r:=⟨_,rfl⟩;have P:Hid (rd f.1.1=o):=eI (by rw[<-p];exact j);have Q:Hid (rd f.1.2=R):=eI (by rw[<-p];exact Z);have D:Hid (nP d i=f.2):=eI (by rw[<-p]);have F:=fun G=>@pK ((b:Int)/6 % 7-3) 1 G om om om om
 rotate_left;rotate_left
 iterate 5
  focus
   rw[j] at E;rw[Z] at F;have aj:=eI F;clear j Z p x EK F;go_wp2_with fail;refine E.mono ?_;clear E;rintro e Y ⟨s,t,u,v,rfl,K1,V⟩;obtain⟨H,K,X1,I,Y1⟩:=o;go_wp2_with fail;refine (aj.out Y).mono ?_;clear aj;rintro e w7 ⟨z,A,B,C,rfl,K2,l⟩;obtain⟨f2,n2,X2,m2,Y2⟩:=R;have z2:=V.size;have z7:=l.size;have T:=(ae.aA V).aA l;have U:=(af.aA V).aA l;have R7:=(R1.aA V).aA l;rw[D.out] at R7;have ar:=(ad.trans (il.aD n V)).trans (il.aD n l);have ao:=(K1.aA l).imp (p':=fun g=>w.heap.size+1<g) (fun g _ h=>by omega);have aq:=K2.imp (p':=fun g=>w.heap.size+1<g) (fun g _ h=>by omega);clear ae af R1 ad K1 K2 V l D
  rotate_left
 focus
  rw[aY x] at p;have g0:((b:Int) % 6==0)=false:=by simp;omega
  have g1:((b:Int) % 6==1)=false:=by simp;omega
  have g2:((b:Int) % 6==2)=false:=by simp;omega
  have g3:((b:Int) % 6==3)=false:=by simp;omega
  have g4:((b:Int) % 6==4)=false:=by simp;omega
  have JR:=@eZ n a m c d k X _ W hn R1;have HQ:=eI (rU R1.hX (nP d i)).2;obtain⟨q,hq⟩:∃q,rq X d (nP d i)=q:=⟨_,rfl⟩;have hQ:Hid (Qb q 11):=eI (by rw[<-hq];exact HQ.out);obtain⟨p2,av⟩:∃q,rP X d (nP d i)=q:=⟨_,rfl⟩;rw[hq,av] at p JR;have H0:=eI p;obtain⟨o,j⟩:∃r,rd q=r:=⟨_,rfl⟩;rw[j] at JR;have ak:=eI j;clear p x EK HQ hq av j;go_wp2_with fail;refine JR.mono ?_;clear JR;rintro e Y ⟨s,t,u,v,rfl,K1,R2,O2⟩;obtain⟨H,K,X1,I,Y1⟩:=o;have z2:=O2.size;have O:=fA Y (.cells #[.bool H,.slice s K u,.slice t I v] 70);have A3:=eS.new Y (.bool H) (.slice s K u) (.slice t I v) 70;have a4:=(ae.bR O2 om).aA O;have a7:=(af.bR O2 om).aA O;have R3:=R2.aA O;have K3:=(K1.aA O).imp (p':=fun g=>w.heap.size+1<g) (fun g _ h=>by omega);have ay:=(ad.trans O2).trans (il.aD n O);have z3:=O.size;have al:=A3.lt;clear ae af R1 ad R2 O2 K1 O;go_wp2_with fail;generalize (Y.alloc _)=w3 at*;generalize bm:Y.heap.size=L at*;have kk:=A3.cells;have bp:L≠w.heap.size:=om;have bq:L≠w.heap.size+1:=om;have br:w.heap.size≠L:=om;have bs:w.heap.size+1≠L:=om;have bu:w.heap.size+1≠w.heap.size:=om;have bw:w.heap.size≠w.heap.size+1:=om;have E:=@jd n a m c d k X p2 w3.drew hn (R3.aA (gz yD));have bz:IntKind.i64.wrap ((b:Int)/6)=(b:Int)/6:=wrap64 om om
  go_region_held3 (fun y=>y.cell? (jj L 0)=some (.bool H)/\y.cell? (jj L 1)=some (.slice s K u)/\y.cell? (jj L 2)=some (.slice t I v)) (go_keep)
   (first
     | (go_at_call 43;(with_reducible refine E.mono ?_);rintro e w4 ⟨M,au,rfl,bo,R4,O4⟩;have E4:=eI au;clear au;have S:il n w3 w4:=⟨O4.os,O4.tape,O4.output,O4.size,O4.block⟩;have A4:=A3.bR S om;have a5:=a4.bR S om;have a8:=a7.bR S om;have K4:=K3.bR S (fun g h=>by omega);have az:=ay.trans S;have z4:=S.size;have kk:=A4.cells;have F:∀ai d0,ai=(M:Int) % 9->d0=1+(b:Int)/6 % 3->Cl 152 #[.i ai,.i d0] w4 fun e y=>∃s t u v,e=.returned (.agg #[.bool (rd (mkRat ((M:Int) % 9) (1+(b:Int)/6 % 3).toNat)).neg,.slice s (rd (mkRat ((M:Int) % 9) (1+(b:Int)/6 % 3).toNat)).n u,.slice t (rd (mkRat ((M:Int) % 9) (1+(b:Int)/6 % 3).toNat)).m v])/\lH y (fun g=>w4.heap.size<=g) (rd (mkRat ((M:Int) % 9) (1+(b:Int)/6 % 3).toNat)) s t u v/\w4.S y:=fun ai d0 h1 h2=>by
         subst h1 h2;exact @pK _ _ w4 om om om om)
     | (go_at_call 152
        with_reducible refine (F _ _ (by rw[Int.tmod_eq_emod_of_nonneg om]) (by rw[Int.tmod_eq_emod_of_nonneg om];exact wrap64 om om)).mono ?_;rintro e w5 ⟨z,A,B,C,rfl,K5,N⟩;have A5:=A4.aA N;have a6:=a5.aA N;have a9:=a8.aA N;have R5:=R4.aA N;have an:=K4.aA N;have a0:=az.trans (il.aD n N);have z5:=N.size;have kk:=A5.cells;have J3:=ai5 (q:=mkRat ((M:Int) % 9) (1+(b:Int)/6 % 3).toNat) hQ.out (b1 (k:=1) om om om) om (lH.rq ak.out an) K5.rr)
     | (go_at_call 153;(with_reducible refine J3.mono ?_);rintro e w7 ⟨ag,rfl,RV,l⟩;obtain⟨R,Z,z,A,B,C,rfl,K7⟩:∃R,rd (q+mkRat ((M:Int) % 9) (1+(b:Int)/6 % 3).toNat)=R/\∃z A B C,ag=.agg #[.bool R.neg,.slice z R.n B,.slice A R.m C]/\lH w7 (fun g=>w5.heap.size<=g) R z A B C:=(by obtain⟨z,A,B,C,e,ax⟩:=jM.kq RV om;exact⟨_,rfl,z,A,B,C,e,ax⟩);obtain⟨f2,n2,X2,m2,Y2⟩:=R;have kk:=(A5.aA l).cells;have T:=a6.aA l;have U:=a9.aA l;have R7:=R5.aA l;have z7:=l.size;have ar:=a0.trans (il.aD n l);have ao:=an.aA l;have aq:=K7.imp (p':=fun g=>w.heap.size+1<g) (fun g _ h=>by omega);have aa:=H0.out;rw[E4.out] at aa;have P:Hid (rd f.1.1=fZ.mk H K X1 I Y1):=eI (by rw[<-aa];exact ak.out);have Q:Hid (rd f.1.2=fZ.mk f2 n2 X2 m2 Y2):=eI (by rw[<-aa];exact Z);have D:nP d p2=f.2:=(by rw[<-aa]);rw[D] at R7;clear Z aa D K7 RV;obtain⟨u0,u1,u2⟩:=T.g;obtain⟨bb,bc,bf⟩:=T.k;obtain⟨v0,v1,v2⟩:=U.g;obtain⟨bh,bi,bj⟩:=U.k))
 rotate_left
 all_goals
  obtain⟨u0,u1,u2⟩:=T.g;obtain⟨bb,bc,bf⟩:=T.k;obtain⟨v0,v1,v2⟩:=U.g;obtain⟨bh,bi,bj⟩:=U.k;go_wp2;have rC:=((T.bE (.bool H)).bH (.slice s K u)).bF (.slice t I v);have M1:eM w7 _ w.heap.size:=(((eM.refl w7 _).setCell 0 (.bool H)).setCell 1 (.slice s K u)).setCell 2 (.slice t I v);have rD:=(((U.marked M1 om).bE (.bool f2)).bH (.slice z n2 B)).bF (.slice A m2 C);have M2:eM _ _ (w.heap.size+1):=(((eM.refl (((w7.setCell (jj w.heap.size 0) (.bool H)).setCell (jj w.heap.size 1) (.slice s K u)).setCell (jj w.heap.size 2) (.slice t I v)) _).setCell 0 (.bool f2)).setCell 1 (.slice z n2 B)).setCell 2 (.slice A m2 C);have ba:=rC.marked M2 om;refine bO (aeg rfl _ _ _ _ _ _ _ _ _ _ rfl rfl ba rD) rfl ?_;rw[P.out,Q.out];exact⟨_,_,rfl,⟨s,t,u,v,rfl,((ao.marked M1 (fun g h=>by omega)).marked M2 (fun g h=>by omega)).imp (fun g _ h=>by omega)⟩,⟨z,A,B,C,rfl,((aq.marked M1 (fun g h=>by omega)).marked M2 (fun g h=>by omega)).imp (fun g _ h=>by omega)⟩,(R7.marked M1 om).marked M2 om,tP (tP ar M1 zR) M2 om⟩
def sp(r:fZ)(k:Nat):fZ:=
 if k % 7=0 then ⟨r.neg,r.n+1,mN r.X r.n 0,r.m,r.Y⟩ else if k % 7=1 then ⟨r.neg,r.n,r.X,r.m+1,mN r.Y r.m 0⟩ else if k % 7=2 then ⟨r.neg,r.n,r.X,0,fun _=>0⟩ else if k % 7=3 then ⟨r.neg,r.n,r.X,1,fun _=>0⟩
 else if k % 7=4 then ⟨true,0,fun _=>0,1,fun _=>1⟩ else if k % 7=5 then yk r.neg (lv r.X r.n*(2+k/7)) (lv r.Y r.m*(2+k/7)) else ⟨false,0,fun _=>0,1,fun _=>2+k/7⟩
end Go.Proofs.YtinihjgnnlemmaaGreatDoor
