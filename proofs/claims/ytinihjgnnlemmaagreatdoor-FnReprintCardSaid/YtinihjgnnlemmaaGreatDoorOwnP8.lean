import Derived.Test.YtinihjgnnlemmaaGreatDoorOwnP6
import Derived.Lib.BitFns
set_option maxHeartbeats 6400000
set_option maxRecDepth 100000
namespace Go.Proofs.YtinihjgnnlemmaaGreatDoor
open Tryz Go.RowKit
variable{w v W V:World}{n m c d k i j l o b p q t r s g h e:Nat}{a A B:Option Addr}{X Y Z:Nat->Nat}{u U:Value}{z y:Int}
theorem agu:Lib.bitLen 0=0:=by decide
theorem aeI:∀(f x:Nat),f<=64->x<2^f->x≠0->1<=Lib.bitLen x/\2^(Lib.bitLen x-1)<=x/\x<2^Lib.bitLen x:=by
 intro f
 induction f with
 | zero=>intro x _ h a;simp at h;omega
 | succ f ih=>
   intro x c h a;have e:=aS h (dP om c);rw[Lib.bitLen_half x a e];by_cases b:x/2=0
   . have d:x=1:=om;subst d;simp[agu]
   . obtain⟨g,i,j⟩:=ih (x/2) om (by rw[iH] at h;omega) b;generalize Lib.bitLen (x/2)=n at*;refine⟨om, ?_, ?_⟩
     . rw[show 1+n-1=(n-1)+1 by omega,iH];omega
     . rw[jO,iH];omega
theorem ak8:(Lib.len8tab.size:Int)=256:=by have:=Lib.len8tab_size;omega
theorem ca(z:Int)(h:z.toNat<Lib.len8tab.size)(a:0<=z)(b:z<=255):((Lib.len8tab[z.toNat]'h).toNat:Int)=(Lib.bitLen z.toNat:Int):=by
 rw[<-Lib.len8_of z a b];unfold Lib.len8;rw[getElem?_pos Lib.len8tab z.toNat h];rfl
theorem px(n:Nat)(b:n<=64):wrap64 (n:Int)=(n:Int):=by unfold wrap64;omega
theorem ajL(b:0<=z)(d:z<=4294967295):
 Cl 244 #[.int .u32 z] w fun e a=>e=.returned (.i (Lib.bitLen z.toNat))/\a=w:=by
 have c:=ak8;go_enter func244,ntmps244;go_wp2;all_goals (go_ret;refine⟨congrArg Ending.returned (congrArg (Value.int IntKind.i64) ?_),rfl⟩)
 all_goals go_light
 . have l:=Lib.bitLen_le8' (z/65536/256) om om;rw[ca (z/65536/256) _ om om,px _ om];have e:(z/65536/256).toNat=z.toNat/16777216:=om;rw[e] at l⊢;rw[show (24:Int)+(Lib.bitLen (z.toNat/16777216):Int)=((24+Lib.bitLen (z.toNat/16777216):Nat):Int) by omega,px _ om,Lib.bitLen_shift24 z.toNat om om]
 . have l:=Lib.bitLen_le8' (z/65536) om om;rw[ca (z/65536) _ om om,px _ om];have e:(z/65536).toNat=z.toNat/65536:=om;rw[e] at l⊢;rw[show (16:Int)+(Lib.bitLen (z.toNat/65536):Int)=((16+Lib.bitLen (z.toNat/65536):Nat):Int) by omega,px _ om,Lib.bitLen_shift16 z.toNat om om]
 . have l:=Lib.bitLen_le8' (z/256) om om;rw[ca (z/256) _ om om,px _ om];have e:(z/256).toNat=z.toNat/256:=om;rw[e] at l⊢;rw[show (8:Int)+(Lib.bitLen (z.toNat/256):Int)=((8+Lib.bitLen (z.toNat/256):Nat):Int) by omega,px _ om,Lib.bitLen_shift8 z.toNat om om]
 . have l:=Lib.bitLen_le8' z om om;rw[ca z _ om om,px _ om,px _ om]
theorem af3(f:0<n)(i:n<4294967296):
 Cl 231 #[.int .u32 n] w fun e d=>∃s:Nat,e=.returned (.i s)/\d=w/\s<32/\2147483648<=n*2^s/\n*2^s<4294967296:=by
 have a:=aeI 32 n om om om;have h:=Lib.bitLen_le n 32 om om;have H:=eI a;have g:=a.1;go_enter func231,ntmps231;go_wp2_with fail;refine mp (ajL om om) ?_;rw[iL];generalize Lib.bitLen n=k at*;go_wp2;go_ret;refine⟨32-k,jq om,rfl,om, ?_, ?_⟩
 . have b:=aP (2^(32-k)) H.out.2.1;rw[<-iB,show k-1+(32-k)=31 by omega] at b;omega
 . have c:=jX H.out.2.2 (fX (n:=32-k) (show 0<2 by omega));rw[<-iB,show k+(32-k)=32 by omega] at c;omega
structure Fr(c o b:Nat)(w w':World):Prop where
 os:w'.os=w.os
 tape:w'.tape=w.tape
 output:w'.output=w.output
 size:w.heap.size<=w'.heap.size
 block:∀k,k<w.heap.size->k≠c->k≠b->w'.heap[k]?=w.heap[k]?
 cell:∀x,x≠o->w'.cell? ⟨c,x,none⟩=w.cell? ⟨c,x,none⟩
 frozen:∀x,w'.frozen? ⟨c,x,none⟩=w.frozen? ⟨c,x,none⟩
 lt:c<w.heap.size
section
variable{c o b:Nat}{w w1 w2:World}
theorem Fr.refl(n m:Nat)(h:c<w.heap.size):Fr c n m w w:=⟨rfl,rfl,rfl,aC _,fun _ _ _ _=>rfl,fun _ _=>rfl,fun _=>rfl,h⟩
theorem Fr.since(h:Fr c o b w w1)(s:w1.S w2):Fr c o b w w2:=by
 have d:=aS h.lt h.size
 exact⟨s.os.trans h.os,s.tape.trans h.tape,s.output.trans h.output,aU h.size s.size,fun k e g i=>(s.block k (aS e h.size)).trans (h.block k e g i),
  fun x f=>(s.cell (a:=jj c x) d).trans (h.cell x f),fun x=>(s.frozen (a:=jj c x) d).trans (h.frozen x),h.lt⟩
theorem Fr.same(h:Fr c o b w w1)(s:Same w1 w2):Fr c o b w w2:=h.since (s.since _)
theorem Fr.set(h:Fr c o b w w1)(u:Value):Fr c o b w (w1.setCell ⟨c,o,none⟩ u):=
 ⟨h.os,h.tape,h.output,aU h.size (by simp[World.setCell]),fun k f a g=>(fN _ _ _ _ a).trans (h.block k f a g),
   fun x d=>by rw[aI _ _ _ _ (fun e=>by have:=congrArg Addr.off e;simp at this;omega)];exact h.cell x d,fun x=>by simp[h.frozen x],h.lt⟩
theorem Fr.setNew(h:Fr c o b w w1)(j:n=b∨w.heap.size<=n)(l:n≠c)(u:Value):Fr c o b w (w1.setCell ⟨n,m,none⟩ u):=
 ⟨h.os,h.tape,h.output,aU h.size (by simp[World.setCell]),fun k d f i=>(fN _ _ _ _ (show k≠n by omega)).trans (h.block k d f i),
   fun y a=>by rw[aI _ _ _ _ (fun e=>by have:=congrArg Addr.block e;simp at this;omega)];exact h.cell y a,fun y=>by simp[h.frozen y],h.lt⟩
theorem Fr.marked(h:Fr c o b w w1)(m:eM w1 w2 n)(l:n=b∨w.heap.size<=n)(d:n≠c):Fr c o b w w2:=
 ⟨m.os.trans h.os,m.tape.trans h.tape,m.output.trans h.output,by rw[m.size];exact h.size,fun k f i j=>(m.other k om).trans (h.block k f i j),
   fun x e=>(m.cell (a:=jj c x) (fL d)).trans (h.cell x e),fun x=>(m.bU (a:=jj c x) (fL d)).trans (h.frozen x),h.lt⟩
theorem Fr.alloc(h:Fr c o b w w1)(x:Obj):Fr c o b w (w1.alloc x):=h.since (fA _ _)
theorem Fr.grown(h:Fr c o b w w1){a:Option Nat}(d:w1.grownBy w2 a)(f:∀k,a=some k->w.heap.size<=k):Fr c o b w w2:=by
 have i:=aS h.lt h.size;have j:some c≠a:=fun e=>by have:=f c e.symm;have:=h.lt;omega
 have hb:=d.block c i j
 exact⟨d.os.trans h.os,d.tape.trans h.tape,d.output.trans h.output,aU h.size d.size,
  fun k g m n=>(d.block k (aS g h.size) (fun e=>by have:=f k e.symm;omega)).trans (h.block k g m n),
  fun x l=>(aO (w:=w1) (a:=jj c x) hb).trans (h.cell x l),fun x=>(dK (w:=w1) (a:=jj c x) hb).trans (h.frozen x),h.lt⟩
end
theorem amR(h:w.rowIs m 133 d (fun j=>.int .u32 (X j)))(k:c<=d)(f:d<=maxLen)(hb:n<=m):w.ownsRow n 133 1 (.s m c d) c (ll X c):=by
 obtain⟨a,g,l,e⟩:=h;refine⟨by rw[vg];omega,.inr ⟨m,d,a,rfl,hb,g,k,f,om, ?_⟩⟩;apply jF;intro i;rw[iF];by_cases b:i<c
 . rw[xK X c i b,List.getElem?_take,aY b];have:=e i om;simpa using this
 . rw[dJ (by rw[jR];omega),dJ (by rw[vg];omega)]
theorem iu(h:w.ownsRow n 133 1 u m (ll X m))(f:u≠ .n):
 ∃g a,u=.s g m a/\m<=a/\n<=g/\g<w.heap.size/\eO w (jp g 0) g 0 m X/\(∀o,w.frozen? (jj g o)=false):=by
 have c:= @World.ownsRow.cells _ _ _ _ _ _ _ h;rcases h.2 with ⟨rfl,rfl⟩ | ⟨g,a,i,rfl,hb,b,e,_⟩
 . exact absurd rfl f
 . refine⟨g,a,rfl,e,hb,(dM.1 b).1,fun j d=>⟨rfl, ?_⟩,fun o=>by simp[World.frozen?,b]⟩;have:=c (g:=g) rfl j _ (xK X m j d);rw[mT] at this;exact this
theorem dy(h:∀j,j<n->X j=Y j):ll X n=ll Y n:=by
 unfold ll;exact fG (fun j a=>by rw[h j (dU.1 a)])
theorem ajJ(X:Nat->Nat)(n:Nat):ll (oP X n) (n+1)=ll X n++[.int .u32 0]:=by
 rw[tV,xT,dy (fun j a=>show oP X n j=X j by simp[oP,a])];rfl
theorem uz{n m:Nat}{a:Option Addr}{c d k i j:Nat}{X:Nat->Nat}{w:World}(p:k<=67108864)(q:j<32)(g:eO w a c d k X)
 (o:∀b,b<k->X b<4294967296)(l:w.cell? (jj n m)=some (.l a k i))(t:w.frozen? (jj n m)=false):
 Cl 237 #[.p n m,.i (j:Int)] w fun e r=>e=.returned (.tuple #[])/\∃f S,w.S f/\f.rowIs w.heap.size 133 (k+1) (fun b=>.int .u32 (S b:Nat))/\
  (∀s,S s<4294967296)/\lv S (k+1)=lv X k*2^j/\r=f.setCell ⟨n,m,none⟩ (.s w.heap.size (iy (nz S) (k+1)) (k+1)):=by
 have h:=@acL n m a c d k i 0 j X w p om q g o l t;simp only[sJ,aZ,fV] at h;exact h
theorem zZ(q:d<=268435456)(r:d<=k)(u:0<d)(t:i<32)(f:eO w (jp c 0) c 0 d X)
 (g:∀j,j<d->X j<4294967296)(o:w.cell? (jj n m)=some (.s c d k))(p:w.frozen? (jj n m)=false)(s:∀m,w.frozen? (jj c m)=false)(l:n≠c):
 Cl 241 #[.p n m,.i (i:Int)] w fun e v=>e=.returned (.tuple #[])/\∃b S a,eM w b c/\eO b (jp c 0) c 0 a S/\
  a<=d/\(∀j,j<a->S j<4294967296)/\lv S a=lv X d/2^i/\v=b.setCell ⟨n,m,none⟩ (.s c (iy (nz S) a) k):=by
 have h:=abJ q r u t f g o p s l;simp only[sJ,aZ] at h;exact h
def gE(w:World)(v:Value)(g N M:Nat):Prop:=
 ∃a m cap Y,v=.slice a m cap/\m<=cap/\m<=M/\(a=none->cap=0)/\eO w a g 0 m Y/\(0<m->∀o,w.frozen? ⟨g,o,none⟩=false)/\(∀j,j<m->Y j<4294967296)/\(0<m->Y (m-1)≠0)/\lv Y m=N
def kO(w:World)(v:Value)(g:Nat):Prop:=∀a m cap,v=.slice a m cap->a≠none->Shape w g 133 cap/\cap<=maxLen
theorem dk{a:Addr}{j:List Value}(h:w.ownsRow n 133 1 (.l (some a) c d) c j)(e:a=jj m 0):Shape w m 133 d/\d<=maxLen:=by
 subst e;obtain⟨-,h | ⟨l,k,b,e,-,g,-,f,i,-⟩⟩:=h
 . cases h.1
 . cases e;exact⟨⟨b,g,by simpa using i⟩,f⟩
structure Lg(c o b:Nat)(w wr:World)(G BQ QB nn dl L cG:Nat)(S1 W Q:Nat->Nat):Prop where
 fr:Fr c o b w wr
 cC:wr.cell? ⟨c,o,none⟩=some (.slice (some ⟨G,0,none⟩) nn cG)
 box:wr.cell? ⟨w.heap.size,0,none⟩=some (.slice (some ⟨w.heap.size+1,0,none⟩) dl (dl+1))
 D:eO wr (some ⟨w.heap.size+1,0,none⟩) (w.heap.size+1) 0 dl S1
 LW:eO wr (some ⟨G,0,none⟩) G 0 nn W
 FG:∀x,wr.frozen? ⟨G,x,none⟩=false
 rQ:wr.rowIs BQ 133 L (fun j=>.int .u32 (Q j))
 bQ:wr.rowIs QB 102 1 (fun _=>.slice (some ⟨BQ,0,none⟩) L L)
 g0:w.heap.size+2<=G
 g1:G<BQ
 g2:G<QB
 g3:BQ≠QB
 sh:Shape wr G 133 cG/\cG<=maxLen
section
variable{c o b:Nat}{w wr wr':World}{G BQ QB nn dl L cG:Nat}{S1 W W' Q:Nat->Nat}
theorem Lg.same(h:Lg c o b w wr G BQ QB nn dl L cG S1 W Q)(s:Same wr wr'):Lg c o b w wr' G BQ QB nn dl L cG S1 W Q:=
 ⟨h.fr.same s,by rw[s.cell];exact h.cC,by rw[s.cell];exact h.box,h.D.same s,h.LW.same s,fun x=>by rw[s.frozen];exact h.FG x,h.rQ.of_block (by rw[s.heap]),h.bQ.of_block (by rw[s.heap]),h.g0,h.g1,h.g2,h.g3,h.sh.1.of_block (by rw[s.heap]),h.sh.2⟩
theorem Lg.marked(h:Lg c o b w wr G BQ QB nn dl L cG S1 W Q)(m:eM wr wr' G)(d:eO wr' (jp G 0) G 0 nn W'):Lg c o b w wr' G BQ QB nn dl L cG S1 W' Q:=by
 have:=h.g0;have:=h.g1;have:=h.g2;have:=h.fr.lt
 exact⟨h.fr.marked m (Or.inr om) om,by rw[m.cell (a:=jj c o) (by show c≠G;omega)];exact h.cC,by rw[m.cell (a:=jj w.heap.size 0) (by show w.heap.size≠G;omega)];exact h.box,
  h.D.marked m (fun _=>by omega),d,fun x=>by rw[m.frozen];exact h.FG x,h.rQ.of_block (m.other _ om),h.bQ.of_block (m.other _ om),h.g0,h.g1,h.g2,h.g3,m.shape _ _ h.sh.1,h.sh.2⟩
theorem Lg.put(h:Lg c o b w wr G BQ QB nn dl L cG S1 W Q)(n m:Nat):Lg c o b w (wr.setCell ⟨BQ,n,none⟩ (.int .u32 m)) G BQ QB nn dl L cG S1 W (mN Q n m):=by
 have:=h.g0;have:=h.g1;have:=h.g2;have:=h.g3;have:=h.fr.lt;refine⟨h.fr.setNew (Or.inr om) om _, ?_, ?_,h.D.setOther om _,h.LW.setOther om _,fun x=>by simp[h.FG x],(h.rQ.set n _).congr (fun j _=> ?_),h.bQ.setOther (by show QB≠BQ;omega) _,h.g0,h.g1,h.g2,h.g3,h.sh.1.setCell _ _ _,h.sh.2⟩
 . rw[aI _ _ _ _ (fun e=>by have:=congrArg Addr.block e;simp at this;omega)];exact h.cC
 . rw[aI _ _ _ _ (fun e=>by have:=congrArg Addr.block e;simp at this;omega)];exact h.box
 . by_cases e:j=n<;>simp[mN,e]
end
theorem aat(hn:d<=33554432)(de:j<=d)(bs:2<=j)
 (ao:w.cell? (jj n m)=some (.l a d k))(aq:w.frozen? (jj n m)=false)(hX:eO w a c 0 d X)(hY:eO w A i 0 j Y)(cl:∀b,b<d->X b<4294967296)(ag:∀b,b<j->Y b<4294967296)
 (tX:X (d-1)≠0)(tY:Y (j-1)≠0):
 Cl 227 #[.p n m,.slice A j l] w fun e w'=>∃vq vr gq gr,e=.returned vq/\w'.cell? (jj n m)=some vr/\gE w' vq gq (lv X d/lv Y j) (d+2)/\gE w' vr gr (lv X d % lv Y j) (d+2)/\
  w.heap.size<=gq/\w.heap.size<=gr/\gq≠gr/\gq<w'.heap.size/\gr<w'.heap.size/\Fr n m c w w'/\kO w' vr gr:=by
 have ah:=aG _ _ ao;have kd:w.cell? (jj i (j-1))=some (.int .u32 (Y (j-1))):=by simpa using (hY (j-1) om).2
 have dc:=hY.lt om;obtain⟨rfl,-⟩:=hY 0 om;have cc:=eI tX;have b3:0<Y (j-1):=om;have b4:=ag (j-1) om;have dd:(1:Int)<=j:=om;go_enter func227,ntmps227;go_wp2_with fail;refine (af3 b3 b4).mono ?_;rintro e w0 ⟨aa,rfl,rfl,hs,ct,ad⟩;have bh:=eI ct;have al:=eI ad;have f1:Fr n m c w (w.alloc (.o #[.s i j l] 102)):=(Fr.refl m c ah).alloc _;go_wp2_with fail;refine mo (@uz w.heap.size 0 _ i 0 j l aa Y _ om hs (hY.aA (fA _ _)) ag (by simp[go_sem]) (by simp[go_sem])) fun K⟨w2,s,ad,ar,a6,b1,V⟩=> ?_;have ba:(w.alloc (.o #[.s i j l] 102)).heap.size=w.heap.size+1:=by simp
 unfold World.S at ad;rw[ba] at ad ar V;obtain⟨et,ev,ed,bn,bp⟩:=afl om hs ag a6 bh.out al.out b1;rw[et] at V;have z2:w.heap.size+2<=w2.heap.size:=by have:=ar.lt;omega
 have s2:=(fA _ _).trans (sM ad om);have s3:w.S K:=by rw[V];exact s2.setCell zR _
 have cB:K.cell? (jj w.heap.size 0)=some (.s (w.heap.size+1) j (j+1)):=by rw[V];refine aQ _ _ _ (u:=.s i j l) ?_;rw[ad.cell (a:=jj w.heap.size 0) qz];simp[go_sem]
 have D3:eO K (jp (w.heap.size+1) 0) (w.heap.size+1) 0 j s:=by rw[V];exact ((lI ar).take om).setOther om _
 have z3:w.heap.size+2<=K.heap.size:=by rw[V];simpa [World.setCell] using z2
 have HS:=eI a6;have b6:=eI ev;have bf:=eI ed;have bc:=eI bn;have bd:=eI bp;have c2:=eI ag;clear V ad ar s2 z2 ev ed bn bp et b1 a6 ag hY kd bh al b3 b4;go_wp2_with fail;refine mo (uz om hs (hX.aA s3) cl (by rw[s3.cell (a:=jj n m) ah];exact ao) (by rw[s3.frozen (a:=jj n m) ah];exact aq)) fun R⟨w4,F,s4,bz,a7,b2,Z⟩=> ?_;obtain⟨t,au⟩:∃c0,c0=iy (nz F) (d+1):=⟨_,rfl⟩;rw[<-au] at Z;have cu:t<=d+1:=by rw[au];exact jc _ _
 have bi:Hid (lv F t=lv X d*2^aa):=by rw[au];exact (mC _ _).trans b2
 have dj:d<=t:=by
  by_cases h:d<=t
  . exact h
  . exfalso;have h1:=kI F t (fun b _=>a7 b);have h2:=rj X d om cc.out;have h3:2^(32*t)<=2^(32*(d-1)):=dP om om;have h4:lv X d*1<=lv X d*2^aa:=dE _ (fX om);have h5:=bi.out;omega
 have al:=eI a7;clear au b2 a7;have c4:w4.cell? (jj n m)=some (.l a d k):=by rw[s4.cell (a:=jj n m) (by show n<_;omega),s3.cell (a:=jj n m) ah];exact ao
 have c5:R.cell? (jj n m)=some (.s K.heap.size t (d+1)):=by rw[Z];exact aQ _ _ _ c4
 have bq:Fr n m c w R:=by rw[Z];exact (((Fr.refl m c ah).since s3).since s4).set _
 have b5:R.rowIs K.heap.size 133 (d+1) (fun b=>.int .u32 (F b)):=by rw[Z];exact bz.setOther (by show K.heap.size≠n;omega) _
 have cd:R.cell? (jj w.heap.size 0)=some (.s (w.heap.size+1) j (j+1)):=by rw[Z,aI _ _ _ _ (fun h=>by have:=congrArg Addr.block h;simp at this;omega),s4.cell (a:=jj w.heap.size 0) (by show w.heap.size<_;omega)];exact cB
 have D5:eO R (jp (w.heap.size+1) 0) (w.heap.size+1) 0 j s:=by rw[Z];exact (D3.aA s4).setOther om _
 have z5:=b5.lt;clear Z c4 bz s4 cB D3 s3 hX ao;have f5:R.frozen? (jj n m)=false:=by rw[bq.frozen];exact aq
 obtain⟨i0,U,cv,ba,cw⟩:=kT nF;go_wp2_with (at_builtin;refine gK _ rfl _ _ 102 rfl K.heap.size 133 i0 (.int .u32 0) 1 4 underlying102 U cv ba cw rfl qd _ _ _ rfl ((amR b5 cu (by unfold maxLen;omega) zR).alloc _) (jj R.heap.size 0) 1 1 [.int .u32 0] rfl rfl (iq _ _ _) (one_one _ rfl) (by unfold maxLen;omega) om (by simp;omega) ?_);intro v' M a8 ai aj;rw[<-ajJ] at a8;obtain⟨G,q,rfl,br,hG,a5,L6,F6⟩:=iu a8 aj;have H6:=dk a8 rfl;have a3:=(bq.alloc _).grown ai (fun C hk=>by simp[Value.ownBlock] at hk;omega);have cm:some n≠(Value.s K.heap.size t (d+1)).ownBlock:=by simp[Value.ownBlock];omega
 have c6:=ai.cell (a:=jj n m) (by rw[iE _ _ _ (by show n≠_;omega)];exact c5) cm;have f6:M.frozen? (jj n m)=false:=by rw[a3.frozen];exact aq
 have bj:=ai.cell (a:=jj w.heap.size 0) (by rw[iE _ _ _ (by show w.heap.size≠_;omega)];exact cd) (by simp[Value.ownBlock];omega);have D6:eO M (jp (w.heap.size+1) 0) (w.heap.size+1) 0 j s:=fun b hj=>⟨rfl,ai.cell (a:=jj (w.heap.size+1) (0+b)) (by rw[iE _ _ _ (by show w.heap.size+1≠_;omega)];exact (D5 b hj).2) (by simp[Value.ownBlock];omega)⟩;have z6:R.heap.size+1<=M.heap.size:=by have:=ai.size;simpa using this
 obtain⟨o,aj⟩:∃o,o=t+1:=⟨_,rfl⟩;rw[<-aj] at L6 br⊢;obtain⟨L,hL⟩:∃L,L=o-j:=⟨_,rfl⟩;have bw:o=L+j:=om;have af:=eI bw;have c3:(o:Int)-(j:Int)=L:=om;have cs:=run_make_row' (P:=Tryz.prog) 102 133 (.int .u32 0) 4 underlying102 nF rfl .i64 .i64 L om om;have db:1<=L:=om;have bg:=eI aj;have dh:o<=d+2:=om;clear hL bw aj;go_wp2;have cf:=a3.set (.s G o q);have c7:=aQ _ _ (.s G o q) c6;have bm:(M.setCell (jj n m) (.s G o q)).cell? (jj w.heap.size 0)=some (.s (w.heap.size+1) j (j+1)):=by rw[aI _ _ _ _ (fun h=>by have:=congrArg Addr.block h;simp at this;omega)];exact bj
 have D7:=D6.setOther (c:=n) (o:=m) om (.s G o q);have L7:=L6.setOther (c:=n) (o:=m) om (.s G o q);have F7:∀x,(M.setCell (jj n m) (.s G o q)).frozen? (jj G x)=false:=fun x=>by simp[F6 x]
 have H7:Shape (M.setCell (jj n m) (.s G o q)) G 133 q/\q<=maxLen:=⟨H6.1.setCell _ _ _,H6.2⟩;have z7:(M.setCell (jj n m) (.s G o q)).heap.size=M.heap.size:=by simp[World.setCell]
 generalize M.setCell (jj n m) (.s G o q)=f at*;rw[<-z7] at z6 a5;clear z7 a3 c6 f6 bj D6 L6 F6;have n1:n≠f.heap.size:=om;have n2:w.heap.size≠f.heap.size:=om;have ci:IntKind.i64.wrap (L:Int)=L:=by rw[tR];omega
 have a0:∀x,(f.alloc x).cell? (jj w.heap.size 0)=some (.s (w.heap.size+1) j (j+1)):=fun x=>by rw[iE _ _ _ n2];exact bm
 have a1:∀x,(f.alloc x).cell? (jj n m)=some (.s G o q):=fun x=>by rw[iE _ _ _ n1];exact c7
 go_region;all_goals go_wp2
 all_goals clear a0 a1 cs ci
 focus
  have D:=(iY f (.int .u32 0) L 133).alloc (.o #[.s f.heap.size L L] 102);have u:=mJ (f.alloc (.o (madeCells #[.int .u32 0] L) 133)) #[.s f.heap.size L L] 102 (fun _=>.s f.heap.size L L) (fun cx U=>by simp at U;subst U;rfl);rw[show (f.alloc (.o (madeCells #[.int .u32 0] L) 133)).heap.size=f.heap.size+1 by simp] at u;have I:f.S ((f.alloc (.o (madeCells #[.int .u32 0] L) 133)).alloc (.o #[.s f.heap.size L L] 102)).drew:=((fA _ _).alloc qz _).drew;have D:=D.drew;have u:=u.drew;obtain⟨E,ac⟩:∃x,x=f.heap.size+1:=⟨_,rfl⟩;obtain⟨z,ab⟩:∃x,x=f.heap.size:=⟨_,rfl⟩;generalize ((f.alloc _).alloc _).drew=wL at*;rw[<-ac] at u;rw[<-ac];rw[<-ab] at u D;rw[<-ab]
 rotate_left
 focus
  have u:=(mJ f #[.s (f.heap.size+1) L L] 102 (fun _=>.s (f.heap.size+1) L L) (fun cx U=>by simp at U;subst U;rfl)).alloc (.o (madeCells #[.int .u32 0] L) 133);have D:=iY (f.alloc (.o #[.s (f.heap.size+1) L L] 102)) (.int .u32 0) L 133;rw[show (f.alloc (.o #[.s (f.heap.size+1) L L] 102)).heap.size=f.heap.size+1 by simp] at D;have I:f.S ((f.alloc (.o #[.s (f.heap.size+1) L L] 102)).alloc (.o (madeCells #[.int .u32 0] L) 133)).drew:=((fA _ _).alloc qz _).drew;have D:=D.drew;have u:=u.drew;obtain⟨z,ab⟩:∃x,x=f.heap.size+1:=⟨_,rfl⟩;obtain⟨E,ac⟩:∃x,x=f.heap.size:=⟨_,rfl⟩;generalize ((f.alloc _).alloc _).drew=wL at*;rw[<-ab] at u D;rw[<-ab];rw[<-ac] at u;rw[<-ac]
 all_goals
  have cz:Lg n m c w wL G z E o j L q s (oP F t) (fun _=>0):=⟨cf.since I,by rw[I.cell (a:=jj n m) (by show n<_;omega)];exact c7,by rw[I.cell (a:=jj w.heap.size 0) (by show w.heap.size<_;omega)];exact bm,
   D7.aA I,L7.aA I,fun x=>by rw[I.frozen (a:=jj G x) a5];exact F7 x,D,u,om,om,om,om,H7.1.since I a5,H7.2⟩
  clear D u I ac ab H7;have hN:=ahk (W:=oP F t) (D:=lv s j) (dl:=j) (L:=L) (nn:=o) af.out om (ako t al.out) (by rw[bg.out];exact xT F t) bc.out;have HN:=eI hN;have ch:0<lv s j:=by have:=bc.out;have:=fX (n:=32*(j-1)) (show 0<2 by omega);omega
  have ak:=eI ch;go_loopw [7] (fun bb wr=>∃(C:Nat) (ay:Int) (W Q:Nat->Nat),C<=L/\bb=.i ay/\Hid (ay=C-1)/\Lg n m c w wr G z E o j L q s W Q/\Hid (um (lv (oP F t) o) (lv s j) j L o W Q C)) (fun bb _=>(intOf bb+1).toNat)
  case atStart=>exact⟨L,(L:Int)-1,_,_,aC _,rfl,rfl,cz,HN⟩
  case round=>
   obtain⟨C,ay,W,Q,hk,rfl,HZ,r,B⟩:=hrel;by_cases hz:0<=ay
   . obtain⟨p,rfl⟩:=jW hz;have cr:C=p+1:=(by have:=HZ.out;omega);subst cr;have q1:=r.box;have a9:p+j<o:=(by have:=af.out;omega);go_wp2_with fail;refine mo (aka om bs a9 r.cC r.LW r.D B.out.2.2.2.1 (fun b _=>HS.out b) bf.out (al0 B.out om rfl (fun b _=>HS.out b))) fun S s8=> ?_;have P:=r.same s8;have cp:=ahl (W:=W) (Y:=s) (a:=p) bs rfl (fun b _=>HS.out b) B.out.2.2.2.1 (by have:=bf.out;omega) (aa2 B.out);have co:=adK (W (p+j)) (W (p+j-1)) (W (p+j-2)) (s (j-1)) (s (j-2));generalize pJ (W (p+j)) (W (p+j-1)) (W (p+j-2)) (s (j-1)) (s (j-2))=g at*;have a2:=eI cp;have q1:=P.box;go_wp2_with fail;refine (acF om co a9 P.cC P.FG (by have:=P.g0;omega) (by have:=P.g0;omega) P.LW P.D B.out.2.2.2.1 (fun b _=>HS.out b)).mono ?_;rintro e N ⟨W1,bo,rfl,m9,L9,v9,e9,l9⟩;have y:=P.marked m9 L9;have am:=eI v9;have az:=eI e9;have ae:=eI l9;have di:(p:Int)<L:=om;cases bo with
     | false=>
       have v:ur W1 p (j+1)+g*lv s j=ur W p (j+1):=(by have:=am.out;simpa [ur] using this);have bu:=agE ak.out v a2.out.1;obtain⟨T,-⟩:=adA B.out om bd.out ak.out bu v az.out ae.out;have T:=eI T;have q2:=y.bQ.cell (i:=0) om;have q3:=y.rQ.cell (i:=p) om;have q4:=y.rQ.frozen p;clear v bu am az ae B a2;go_wp2;go_roundw
       case rel=>exact⟨p,(p:Int)-1,_,_,om,by go_num,rfl,y.put p g,T⟩
       case measure=>simp[intOf]
     | true=>
       have q1:=y.box;have df:1<=g:=by
        by_cases h:1<=g
        . exact h
        . exfalso;have e0:g=0:=om;have h1:=am.out;have h2:=ew ae.out p (j+1);unfold ur at h2;rw[e0] at h1;simp at h1;omega
       go_wp2_with fail;refine (ae5 om a9 y.cC y.FG (by have:=y.g0;omega) (by have:=y.g0;omega) y.LW y.D ae.out (fun b _=>HS.out b)).mono ?_;rintro e c1 ⟨W2,cy,rfl,H,an,ax,ce,av,cn⟩;have aw:=y.marked H an;have b0:=aiZ (U:=ur W p (j+1)) (V:=ur W1 p (j+1)) (V2:=ur W2 p (j+1)) ak.out (by have:=am.out;simpa [ur] using this) (ew ae.out p (j+1)) a2.out.2 ax cn (ew av p (j+1));obtain⟨T,-⟩:=adA B.out om bd.out ak.out b0.2.1 b0.2.2 (fun C hk=>(ce C hk).trans (az.out C hk)) av;have T:=eI T;have q2:=aw.bQ.cell (i:=0) om;have q3:=aw.rQ.cell (i:=p) om;have q4:=aw.rQ.frozen p;go_wp2;go_roundw
       case rel=>have:=aw.put p (g-1);rw[show ((g-1:Nat):Int)=g-1 by omega] at this;exact⟨p,(p:Int)-1,_,_,om,by go_num,rfl,this,T⟩
       case measure=>simp[intOf]
   . have cq:C=0:=(by have:=HZ.out;omega);subst cq;obtain⟨vQ,vW⟩:=al1 B.out (by have:=af.out;omega);have eN:lv (oP F t) o=lv X d*2^aa:=(by rw[bg.out,ajD];exact bi.out);rw[eN,b6.out] at vQ vW;have q2:=r.bQ.cell (i:=0) om;have q3:=r.bQ.frozen 0;have ck:=eI B.out.2.2.2.1;have cj:=eI B.out.2.2.2.2;have ca:Hid (lv Q L=lv X d/lv Y j):=vQ.trans aid.1;have cb:Hid (lv W o/2^aa=lv X d % lv Y j):=(by rw[vW];exact aid.2);have j0:=r.g0;have j1:=r.g1;have j2:=r.g2;have j3:=r.g3;go_wp2_with fail;refine mo (lZ om zR q2 q3 (lI r.rQ)) fun S O=> ?_;have a4:Fr n m c w S:=(by rw[O];exact r.fr.setNew (Or.inr om) om _);have c8:S.cell? (jj n m)=some (.s G o q):=(by rw[O,aI _ _ _ _ (fun e=>by have:=congrArg Addr.block e;simp at this;omega)];exact r.cC);have L8:eO S (jp G 0) G 0 o W:=(by rw[O];exact r.LW.setOther om _);have F8:∀x,S.frozen? (jj G x)=false:=fun x=>by rw[O];simp[r.FG x]
     have H8:Shape S G 133 q/\q<=maxLen:=⟨by rw[O];exact r.sh.1.setCell _ _ _,r.sh.2⟩;have r8:S.rowIs z 133 L (fun b=>.int .u32 (Q b)):=(by rw[O];exact r.rQ.setOther (by show z≠E;omega) _);have b8:S.cell? (jj E 0)=some (.s z (iy (nz Q) L) L):=(by rw[O];exact aQ _ _ _ q2);clear O r q2 q3;go_wp2_with fail;refine mo (zZ om br (by have:=af.out;omega) hs L8 (fun b _=>ck.out b) c8 (by rw[a4.frozen];exact aq) F8 om) fun N⟨c1,S3,k3,H,an,dg,av,ax,v⟩=> ?_;have b7:=eI (ax.trans cb.out);have cg:Fr n m c w N:=(by rw[v];exact (a4.marked H (Or.inr om) om).set _);have H9:Shape N G 133 q/\q<=maxLen:=⟨by rw[v];exact (H.shape _ _ H8.1).setCell _ _ _,H8.2⟩;have r9:N.rowIs z 133 L (fun b=>.int .u32 (Q b)):=(by rw[v];exact (r8.of_block (H.other _ om)).setOther (by show z≠n;omega) _);have b9:N.cell? (jj E 0)=some (.s z (iy (nz Q) L) L):=(by rw[v,aI _ _ _ _ (fun e=>by have:=congrArg Addr.block e;simp at this;omega),H.cell (a:=jj E 0) (by show E≠G;omega)];exact b8);have c9:N.cell? (jj n m)=some (.s G (iy (nz S3) k3) q):=(by rw[v];exact aQ _ _ _ ((H.cell (a:=jj n m) (by show n≠G;omega)).trans c8));have L9:eO N (jp G 0) G 0 k3 S3:=(by rw[v];exact an.setOther om _);have F9:∀x,N.frozen? (jj G x)=false:=fun x=>by rw[v];simp[H.frozen,F8 x]
     have zG:G<N.heap.size:=(by have:=r9.lt;omega);clear ax v H an L8 F8 r8 b8 c8 a4;go_wp2;go_ret;have t1:=jc (nz Q) L;have t:=jc (nz S3) k3;have da:L<=d+2:=by have:=af.out;omega
     refine⟨_,_,z,G,rfl,c9,⟨_,_,_,Q,rfl,t1,om,fun h=>(by cases h),(lI r9).take t1,fun _ x=>r9.frozen x,fun b _=>cj.out b,fun h=> ?_,(mC _ _).trans ca.out⟩,
      ⟨_,_,_,S3,rfl,om,om,fun h=>(by cases h),L9.take t,fun _ x=>F9 x,fun b hj=>av b om,fun h=> ?_,(mC _ _).trans b7.out⟩,om,om,om,r9.lt,zG,cg,fun _ _ _ h _=>by cases h;exact H9⟩
     . have:=jh _ _ h;simpa [nz] using this
     . have:=jh _ _ h;simpa [nz] using this
def jg(Y:Nat->Nat)(m:Nat):Nat->Nat:=fun j=>if j<m then Y j else 0
theorem yu(X:Nat->Nat)(n m:Nat)(h:n<=m):lv (jg X n) m=lv X n:=by
 rw[yt (jg X n) n m h (fun j b _=>by simp[jg];omega)];exact jS (fun j a=>by simp[jg,a])
theorem akl(h:n<m):lq n m<0:=by rw[uh h];decide
theorem aeC(h:m<=n):0<=lq n m:=by unfold lq;split<;>(try split)<;>omega
theorem ot(a:∀j,j<m->Y j<4294967296)(b:0<n->X (n-1)≠0)(h:lv X n<=lv Y m):n<=m:=by
 by_cases e:n<=m
 . exact e
 . have:=ve (A:=Y) (B:=X) a (show m<n by omega) b;omega
theorem xf(hn:d<=33554432)(ae:d<=k)(ad:a=none->k=0)(a5:0<j)(a6:j<=33554432)
 (p:w.cell? (jj n m)=some (.l a d k))(bb:w.frozen? (jj n m)=false)(u:eO w a c 0 d X)(B:eO w A i 0 j Y)(W:∀o,o<d->X o<4294967296)(C:∀o,o<j->Y o<4294967296)
 (hf:0<d->∀x,w.frozen? (jj c x)=false)(ba:n≠c)(ao:0<d->c<w.heap.size)(tX:0<d->X (d-1)≠0)(y:Y (j-1)≠0):
 Cl 211 #[.p n m,.slice A j l] w fun e E=>∃O D V T,e=.returned O/\E.cell? (jj n m)=some D/\gE E O V (lv X d/lv Y j) (d+2)/\gE E D T (lv X d % lv Y j) (d+2)/\
  (V=c∨w.heap.size<=V)/\(T=c∨w.heap.size<=T)/\V≠T/\V≠n/\T≠n/\Fr n m c w E/\(kO w (.slice a d k) c->kO E D T):=by
 have G:=aG _ _ p;by_cases I:lv X d<lv Y j
 . have aq:=akl I;have aa:=eI I;have t:=eI tX;have R:=eI W;go_enter func211,ntmps211;go_wp2_with fail;refine mo (ru om om p u B W C t.out (fun _=>y)) fun f b=> ?_;generalize lq (lv X d) (lv Y j)=ah at*;go_wp2;go_ret
   refine⟨_,_,f.heap.size+c+1,c,rfl,by rw[b.cell];exact p,⟨none,0,0,fun _=>0,rfl,aC _,om,fun _=>rfl,fun o H=>absurd H om,fun h=>absurd h om,fun o H=>absurd H om,fun h=>absurd h om, ?_⟩,
    ⟨a,d,k,X,rfl,ae,om,ad,u.same b,fun h x=>by rw[b.frozen];exact hf h x,R.out,t.out, ?_⟩,Or.inr (by rw[b.size];omega),Or.inl rfl,om,by rw[b.size];omega,om,(Fr.refl m c G).same b,fun h a ag k e ha=>⟨(h a ag k e ha).1.of_block (by rw[b.heap]),(h a ag k e ha).2⟩⟩
   . rw[iI aa.out];rfl
   . rw[iC aa.out]
 . have aq:=aeC (jV I);have ar:=ot W (fun _=>y) (jV I);have t:=eI tX;have R:=eI W;by_cases h1:j=1
   . subst h1;obtain⟨rfl,kd⟩:=B 0 om;have ax:=C 0 om;have af:0<Y 0:=(by simp at y;omega);have ab:Hid (lv Y 1=Y 0):=(by simp[Hid,lv]);go_enter func211,ntmps211;go_wp2_with fail;refine mo (ru om om p u B W C t.out (fun _=>y)) fun f b=> ?_;generalize lq (lv X d) (lv Y 1)=ah at*;have a9:=(Fr.refl m c G).same b;have c1:f.cell? (jj n m)=some (.l a d k):=(by rw[b.cell];exact p);have a3:f.cell? (jj i 0)=some (.int .u32 (Y 0)):=(by rw[b.cell];simpa using kd);have X1:=u.same b;have P:0<d->∀x,f.frozen? (jj c x)=false:=fun h x=>by rw[b.frozen];exact hf h x
     have Z1:=eI b.size;have zb:c<f.heap.size:=(by rw[b.size];exact ao om);have zc:n<f.heap.size:=(by rw[b.size];exact G);have a0:i<f.heap.size:=aG _ _ a3;have a1:∀x,(f.alloc x).cell? (jj i 0)=some (.int .u32 (Y 0)):=fun x=>by rw[iE _ _ _ (by show i≠_;omega)];exact a3
     go_wp2_with fail;have N:=fA f (.o #[.l a d k] 102);refine mo (sQ om ae (by simp[go_sem]) (by simp[go_sem]) (X1.aA N) R.out (fun h x=>by rw[N.frozen (a:=jj c x) zb];exact P h x) om af ax) fun g⟨Z,Q,v,L2,l2,v2,q⟩=> ?_;have z2:Z.heap.size=f.heap.size+1:=(by rw[v.size];simp);have q0:Z.cell? (jj f.heap.size 0)=some (.l a d k):=(by rw[v.cell (a:=jj f.heap.size 0) (by show f.heap.size≠c;omega)];simp[go_sem]);have F:Fr n m c w g:=(by rw[q];exact ((a9.alloc _).marked v (Or.inl rfl) (fL ba)).setNew (Or.inr (by have:=a9.size;omega)) om _);have c3:g.cell? (jj n m)=some (.l a d k):=(by rw[q,aI _ _ _ _ (fun e=>by have:=congrArg Addr.block e;simp at this;omega),v.cell (a:=jj n m) ba,iE _ _ _ (by show n≠_;omega)];exact c1);have f3:g.frozen? (jj n m)=false:=(by rw[F.frozen];exact bb);have L3:eO g a c 0 d Q:=(by rw[q];exact L2.setOther om _);have b3:g.cell? (jj f.heap.size 0)=some (.l a (iy (nz Q) d) k):=(by rw[q];exact aQ _ _ _ q0);have bc:0<d->∀x,g.frozen? (jj c x)=false:=fun h x=>by rw[q];simp[v.frozen,N.frozen (a:=jj c x) zb,P h x]
     have z3:f.heap.size+1<=g.heap.size:=(by rw[q];simp[World.setCell,z2]);have al:=eI v2;have aj:=eI l2;clear q q0 z2 v L2 l2 v2 N a1 a3 c1 X1 P a9;obtain⟨r,K⟩:∃r,r=lv X d % Y 0:=⟨_,rfl⟩;have ak:=eI K;have aw:r<4294967296:=(by rw[K];have:=iS (lv X d) af;omega);rw[<-K];clear K;have nc:n≠g.heap.size:=om;have z:∀x,(g.alloc x).cell? (jj n m)=some (.l a d k):=fun x=>by rw[iE _ _ _ nc];exact c3
     have a4:∀x,(g.alloc x).frozen? (jj n m)=false:=fun x=>by rw[((aF _ g).alloc zR x).frozen (a:=jj n m) (by show n<g.heap.size;omega)];exact f3
     have M:(g.alloc (.o #[.int .u32 r] 133)).rowIs g.heap.size 133 1 (fun o=>.int .u32 (((fun _=>r):Nat->Nat) o)):=mJ g #[.int .u32 r] 133 _ (fun a8 hi=>by simp at hi;subst hi;rfl);go_wp2_with fail;have ac:=(F.alloc (.o #[.int .u32 r] 133)).set (.s g.heap.size 1 1);have c4:=aQ _ _ (.s g.heap.size 1 1) (z (.o #[.int .u32 r] 133));have R4:=(lI M).setOther (c:=n) (o:=m) nc (.s g.heap.size 1 1);refine mo (lZ om zR c4 (by rw[ac.frozen];exact bb) R4) fun U S=> ?_;rw[wJ] at S;have an:Fr n m c w U:=(by rw[S];exact (F.alloc _).set _);have c5:U.cell? (jj n m)=some (.s g.heap.size (iy (nz (fun _=>r)) 1) 1):=(by rw[S];exact aQ _ _ _ (z _));have R5:eO U (jp g.heap.size 0) g.heap.size 0 1 (fun _=>r):=(by rw[S];exact (lI M).setOther nc _);have H5:Shape U g.heap.size 133 1:=(by rw[S];exact Shape.setCell ⟨_,heap_alloc_new g _,rfl⟩ _ _ _);have ai:∀x,U.frozen? (jj g.heap.size x)=false:=fun x=>by rw[S];simp[M.frozen x]
     have L5:eO U a c 0 d Q:=(by rw[S];exact (L3.aA (fA _ _)).setOther ba _);have F5:0<d->∀x,U.frozen? (jj c x)=false:=fun h x=>by rw[S];simp[((aF g.heap.size g).alloc zR (.o #[.int .u32 r] 133)).frozen (a:=jj c x) (by show c<g.heap.size;omega),bc h x]
     have b5:U.cell? (jj f.heap.size 0)=some (.l a (iy (nz Q) d) k):=(by rw[S,aI _ _ _ _ (fun e=>by have:=congrArg Addr.block e;simp at this;omega),iE _ _ _ (by show f.heap.size≠_;omega)];exact b3);clear S c4 R4 ac M z a4 L3 bc b3 c3 f3 F;go_wp2;go_ret;have t1:=jc (nz Q) d;have t2:=jc (nz (fun _=>r)) 1;have L:=Z1.out
     refine⟨_,_,c,g.heap.size,rfl,c5,⟨_,_,_,Q,rfl,om,om,ad,L5.take t1,fun h x=>F5 om x,fun o H=>aj.out o om,fun h=> ?_, ?_⟩,
      ⟨_,_,_,fun _=>r,rfl,om,om,fun h=>(by cases h),R5.take t2,fun _ x=>ai x,fun o _=>aw,fun h=> ?_, ?_⟩,Or.inl rfl,Or.inr om,om,om,om,an,fun _ _ _ _ h _=>by cases h;exact⟨H5,by decide⟩⟩
     . have:=jh _ _ h;simpa [nz] using this
     . rw[mC,al.out,ab.out]
     . have:=jh _ _ h;simpa [nz] using this
     . rw[mC,ab.out,<-ak.out];simp[lv]
   . have h2:2<=j:=om;have a7:((j:Int)==1)=false:=(by simp;omega);have av:0<d:=om;go_enter func211,ntmps211;go_wp2_with fail;refine mo (ru om om p u B W C t.out (fun _=>y)) fun f b=> ?_;generalize lq (lv X d) (lv Y j)=ah at*;go_wp2_with fail;refine (aat hn ar h2 (by rw[b.cell];exact p) (by rw[b.frozen];exact bb) (u.same b) (B.same b) W C (t.out av) y).mono ?_;rintro e Z ⟨O,D,V,T,rfl,k1,k2,k3,k4,k5,k6,k7,k8,s,az⟩;have L:=b.size;rw[L] at k4 k5;have au:Fr n m c w Z:=⟨s.os.trans b.os,s.tape.trans b.tape,s.output.trans b.output,by rw[<-L];exact s.size,fun ay a1 a2 z=>(s.block ay (by rw[L];exact a1) a2 z).trans (by rw[b.heap]),fun x hx=>(s.cell x hx).trans (b.cell _),fun x=>(s.frozen x).trans (b.frozen _),G⟩;go_wp2;go_ret;exact⟨O,D,V,T,rfl,k1,k2,k3,Or.inr k4,Or.inr k5,k6,om,om,au,fun _=>az⟩
theorem yM{n m:Nat}{a A:Option Addr}{c d k i j l:Nat}{X Y:Nat->Nat}{w:World}(D:d<=33554432)(E:d<=k)(t:a=none->k=0)(z:0<j)(T:j<=33554432)
 (v:w.cell? (jj n m)=some (.l a d k))(C:w.frozen? (jj n m)=false)(p:eO w a c 0 d X)(r:eO w A i 0 j Y)(q:∀o,o<d->X o<4294967296)(s:∀o,o<j->Y o<4294967296)
 (B:0<d->∀x,w.frozen? (jj c x)=false)(y:n≠c)(u:0<d->c<w.heap.size)(P:0<d->X (d-1)≠0)(Q:Y (j-1)≠0):
 Cl 211 #[.p n m,.slice A j l] w fun e S=>∃g h b f,e=.returned g/\S.cell? (jj n m)=some h/\gE S g b (lv X d/lv Y j) (d+2)/\gE S h f (lv X d % lv Y j) (d+2)/\
  (b=c∨w.heap.size<=b)/\(f=c∨w.heap.size<=f)/\b≠f/\b≠n/\f≠n/\Fr n m c w S:=by
 refine (xf D E t z T v C p r q s B y u P Q).mono ?_;rintro e R ⟨g,h,b,f,rfl,F,G,H,I,K,L,M,N,O,-⟩;exact⟨g,h,b,f,rfl,F,G,H,I,K,L,M,N,O⟩
structure Gd(base:Nat)(w wr:World)(c d gn gm:Nat)(an am:Option Addr)(n m cn cm:Nat)(X Y:Nat->Nat):Prop where
 S:w.Since base wr
 bC:wr.cell? ⟨c,0,none⟩=some (.slice an n cn)
 bD:wr.cell? ⟨d,0,none⟩=some (.slice am m cm)
 fC:wr.frozen? ⟨c,0,none⟩=false
 fD:wr.frozen? ⟨d,0,none⟩=false
 LX:eO wr an gn 0 n X
 LY:eO wr am gm 0 m Y
 FX:0<n->∀x,wr.frozen? ⟨gn,x,none⟩=false
 FY:0<m->∀x,wr.frozen? ⟨gm,x,none⟩=false
 nX:n<=cn
 nY:m<=cm
 oX:an=none->cn=0
 oY:am=none->cm=0
 lX:∀j,j<n->X j<4294967296
 lY:∀j,j<m->Y j<4294967296
 pX:0<n->X (n-1)≠0
 pY:0<m->Y (m-1)≠0
 hc:base<=c
 hd:base<=d
 hn:base<=gn
 hm:base<=gm
 d1:c≠d
 d2:gn≠gm
 d3:gn≠c
 d4:gn≠d
 d5:gm≠c
 d6:gm≠d
 uX:kO wr (.slice an n cn) gn
 uY:kO wr (.slice am m cm) gm
section
variable{base:Nat}{w wr wr':World}{c d gn gm:Nat}{an am:Option Addr}{n m cn cm:Nat}{X Y:Nat->Nat}
theorem kO.of_block(h:kO w u n)(e:v.heap[n]?=w.heap[n]?):kO v u n:=fun a m b d c=>⟨(h a m b d c).1.of_block e,(h a m b d c).2⟩
theorem kO.setCell(h:kO w u n)(m c:Nat)(U:Value):kO (w.setCell ⟨m,c,none⟩ U) u n:=fun a f b e d=>⟨(h a f b e d).1.setCell _ _ _,(h a f b e d).2⟩
theorem kO.marked(h:kO w u n)(b:eM w v m):kO v u n:=by
 by_cases e:n=m
 . subst e;exact fun a k c f d=>⟨b.shape _ _ (h a k c f d).1,(h a k c f d).2⟩
 . exact h.of_block (b.other _ e)
theorem kO.len(h:kO w (.l a n c) d):kO w (.slice a m c) d:=fun f j i e b=>by cases e;exact h _ _ _ rfl b
theorem Gd.same(h:Gd base w wr c d gn gm an am n m cn cm X Y)(s:Same wr wr'):Gd base w wr' c d gn gm an am n m cn cm X Y:=
 ⟨h.S.trans (s.since _),by rw[s.cell];exact h.bC,by rw[s.cell];exact h.bD,by rw[s.frozen];exact h.fC,by rw[s.frozen];exact h.fD,h.LX.same s,h.LY.same s,fun a x=>by rw[s.frozen];exact h.FX a x,fun a x=>by rw[s.frozen];exact h.FY a x,
   h.nX,h.nY,h.oX,h.oY,h.lX,h.lY,h.pX,h.pY,h.hc,h.hd,h.hn,h.hm,h.d1,h.d2,h.d3,h.d4,h.d5,h.d6,h.uX.of_block (by rw[s.heap]),h.uY.of_block (by rw[s.heap])⟩
theorem pQ{a b:Addr}{v:Value}(h:a.block≠b.block):(w.setCell a v).cell? b=w.cell? b:=aI _ _ _ _ (fun e=>h (congrArg Addr.block e))
theorem Gd.swap(h:Gd base w wr c d gn gm an am n m cn cm X Y):Gd base w ((wr.setCell ⟨c,0,none⟩ (.slice am m cm)).setCell ⟨d,0,none⟩ (.slice an n cn)) c d gm gn am an m n cm cn Y X:=by
 have b:=h.d1;have e:=h.d3;have f:=h.d4;have g:=h.d5;have i:=h.d6
 refine⟨(h.S.setCell h.hc _).setCell h.hd _, ?_, ?_,by simp[h.fC],by simp[h.fD],(h.LY.setOther (fL g) _).setOther (fL i) _,(h.LX.setOther (fL e) _).setOther (fL f) _,fun a x=>by simp[h.FY a x],fun a x=>by simp[h.FX a x],
  h.nY,h.nX,h.oY,h.oX,h.lY,h.lX,h.pY,h.pX,h.hc,h.hd,h.hm,h.hn,h.d1,fL h.d2,h.d5,h.d6,h.d3,h.d4,(h.uY.setCell _ _ _).setCell _ _ _,(h.uX.setCell _ _ _).setCell _ _ _⟩
 . rw[pQ (by show d≠c;exact fL b)];exact aQ _ _ _ h.bC
 . refine aQ _ _ _ (u:=.l am m cm) ?_;rw[pQ (by show c≠d;exact b)];exact h.bD
end
theorem Same.drew(h:Same w v):Same w v.drew:=⟨h.os,h.tape,h.output,h.heap⟩
theorem mj(g:c<=2)(b:w.cell? (jj n m)=some (.l a c d)):
 Cl 174 #[.p n m] w fun e f=>e=.returned (.bool true)/\f=w:=by
 have h:=aaB b;rw[show decide ((c:Int)<=2)=true by simp;omega] at h;exact h
theorem qC(g:2<c)(b:w.cell? (jj n m)=some (.l a c d)):
 Cl 174 #[.p n m] w fun e f=>e=.returned (.bool false)/\f=w:=by
 have h:=aaB b;rw[show decide ((c:Int)<=2)=false by simp;omega] at h;exact h
theorem nM(h:eO w a n m c X)(b:0<c):a=jp n m:=(h 0 b).1
theorem sj(c:n<=2)(h:∀j,j<n->X j<4294967296):lv X n<18446744073709551616:=by
 have a:=kI X n h;have b:2^(32*n)<=2^64:=dP om om;omega
end Go.Proofs.YtinihjgnnlemmaaGreatDoor
