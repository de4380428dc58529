import Derived.Test.YtclgkofcooibfaaGreatDoorOwnP6
import Derived.Lib.BitFns
set_option maxHeartbeats 6400000
set_option maxRecDepth 100000
namespace Go.Proofs.YtclgkofcooibfaaGreatDoor
open Go.RowKit
theorem aa6:Lib.bitLen 0=0:=by decide
theorem yz:∀(f x:Nat),f<=64->x<2^f->x≠0->1<=Lib.bitLen x/\2^(Lib.bitLen x-1)<=x/\x<2^Lib.bitLen x:=by
 intro f
 induction f with
 | zero=>intro x _ h h0;simp at h;omega
 | succ f ih=>
   intro x hf h h0;have hx64:=Nat.lt_of_lt_of_le h (Nat.pow_le_pow_right om hf);rw[Lib.bitLen_half x h0 hx64]
   by_cases h1:x/2=0
   . have hx1:x=1:=om
     subst hx1
     simp[aa6]
   . obtain⟨a1,a2,a3⟩:=ih (x/2) om (by rw[Nat.pow_succ] at h;omega) h1
     generalize Lib.bitLen (x/2)=n at*;refine⟨om, ?_, ?_⟩
     . rw[show 1+n-1=(n-1)+1 by omega,Nat.pow_succ];omega
     . rw[Nat.add_comm,Nat.pow_succ];omega
theorem adW:(Lib.len8tab.size:Int)=256:=by have:=Lib.len8tab_size;omega
theorem t9(y:Int)(h:y.toNat<Lib.len8tab.size)(h0:0<=y)(h1:y<=255):((Lib.len8tab[y.toNat]'h).toNat:Int)=(Lib.bitLen y.toNat:Int):=by
 rw[<-Lib.len8_of y h0 h1];unfold Lib.len8;rw[getElem?_pos Lib.len8tab y.toNat h]
 rfl
theorem jg(a:Nat)(ha:a<=64):wrap64 (a:Int)=(a:Int):=by unfold wrap64;omega
theorem adn{x:Int}{w:World}(h0:0<=x)(hx:x<=4294967295):
 Cl 225 #[.int .u32 x] w fun e w'=>e=.returned (.i (Lib.bitLen x.toNat))/\w'=w:=by
 have hsz:=adW;go_enter Tryz.func225,Tryz.ntmps225;go_wp2
 all_goals (go_ret;refine⟨congrArg Ending.returned (congrArg (Value.int IntKind.i64) ?_),rfl⟩)
 all_goals go_light
 . have l:=Lib.bitLen_le8' (x/65536/256) om om
   rw[t9 (x/65536/256) _ om om,jg _ om];have e:(x/65536/256).toNat=x.toNat/16777216:=om
   rw[e] at l⊢;rw[show (24:Int)+(Lib.bitLen (x.toNat/16777216):Int)=((24+Lib.bitLen (x.toNat/16777216):Nat):Int) by omega,jg _ om,Lib.bitLen_shift24 x.toNat om om]
 . have l:=Lib.bitLen_le8' (x/65536) om om
   rw[t9 (x/65536) _ om om,jg _ om];have e:(x/65536).toNat=x.toNat/65536:=om
   rw[e] at l⊢;rw[show (16:Int)+(Lib.bitLen (x.toNat/65536):Int)=((16+Lib.bitLen (x.toNat/65536):Nat):Int) by omega,jg _ om,Lib.bitLen_shift16 x.toNat om om]
 . have l:=Lib.bitLen_le8' (x/256) om om
   rw[t9 (x/256) _ om om,jg _ om];have e:(x/256).toNat=x.toNat/256:=om
   rw[e] at l⊢;rw[show (8:Int)+(Lib.bitLen (x.toNat/256):Int)=((8+Lib.bitLen (x.toNat/256):Nat):Int) by omega,jg _ om,Lib.bitLen_shift8 x.toNat om om]
 . have l:=Lib.bitLen_le8' x om om
   rw[t9 x _ om om,jg _ om,jg _ om]
theorem zQ{x:Nat}{w:World}(h0:0<x)(hx:x<4294967296):
 Cl 217 #[.int .u32 x] w fun e w'=>∃s:Nat,e=.returned (.i s)/\w'=w/\s<32/\2147483648<=x*2^s/\x*2^s<4294967296:=by
 have hs:=yz 32 x om om om;have hle:=Lib.bitLen_le x 32 om om;have H:=ae hs;have h1:=hs.1;go_enter Tryz.func217,Tryz.ntmps217;go_wp2_with fail;refine (adn om om).mono ?_;rintro e w1 ⟨rfl,rfl⟩;rw[Int.toNat_natCast];generalize Lib.bitLen x=n at*;go_wp2;go_ret;refine⟨32-n,di om,rfl,om, ?_, ?_⟩
 . have h2:=Nat.mul_le_mul_right (2^(32-n)) H.out.2.1
   rw[<-Nat.pow_add,show n-1+(32-n)=31 by omega] at h2;omega
 . have h3:=Nat.mul_lt_mul_of_pos_right H.out.2.2 (Nat.pow_pos (n:=32-n) (show 0<2 by omega))
   rw[<-Nat.pow_add,show n+(32-n)=32 by omega] at h3;omega
structure Fr(c o b:Nat)(w w':World):Prop where
 os:w'.os=w.os
 tape:w'.tape=w.tape
 output:w'.output=w.output
 size:w.heap.size<=w'.heap.size
 block:∀k,k<w.heap.size->k≠c->k≠b->w'.heap[k]?=w.heap[k]?
 cell:∀x,x≠o->w'.cell? ⟨c,x,none⟩=w.cell? ⟨c,x,none⟩
 frozen:∀x,w'.frozen? ⟨c,x,none⟩=w.frozen? ⟨c,x,none⟩
 lt:c<w.heap.size
section
variable{c o b:Nat}{w w1 w2:World}
theorem Fr.refl(o b:Nat)(h:c<w.heap.size):Fr c o b w w:=⟨rfl,rfl,rfl,Nat.le_refl _,fun _ _ _ _=>rfl,fun _ _=>rfl,fun _=>rfl,h⟩
theorem Fr.since(h:Fr c o b w w1)(s:w1.S w2):Fr c o b w w2:=by
 have hc:=Nat.lt_of_lt_of_le h.lt h.size
 exact⟨s.os.trans h.os,s.tape.trans h.tape,s.output.trans h.output,Nat.le_trans h.size s.size,fun k k1 k2 k3=>(s.block k (Nat.lt_of_lt_of_le k1 h.size)).trans (h.block k k1 k2 k3),
  fun x hx=>(s.cell (a:=jj c x) hc).trans (h.cell x hx),fun x=>(s.frozen (a:=jj c x) hc).trans (h.frozen x),h.lt⟩
theorem Fr.same(h:Fr c o b w w1)(s:Same w1 w2):Fr c o b w w2:=h.since (s.since _)
theorem Fr.set(h:Fr c o b w w1)(v:Value):Fr c o b w (w1.setCell ⟨c,o,none⟩ v):=
 ⟨h.os,h.tape,h.output,Nat.le_trans h.size (by simp[World.setCell]),fun k k1 k2 k3=>(Below.heap_setCell _ _ _ _ k2).trans (h.block k k1 k2 k3),
   fun x hx=>by rw[World.cell?_setCell_other _ _ _ _ (fun e=>by have:=congrArg Addr.off e;simp at this;omega)];exact h.cell x hx,fun x=>by simp[h.frozen x],h.lt⟩
theorem Fr.setNew(h:Fr c o b w w1){g x:Nat}(hg:g=b∨w.heap.size<=g)(hgc:g≠c)(v:Value):Fr c o b w (w1.setCell ⟨g,x,none⟩ v):=
 ⟨h.os,h.tape,h.output,Nat.le_trans h.size (by simp[World.setCell]),fun k k1 k2 k3=>(Below.heap_setCell _ _ _ _ (show k≠g by omega)).trans (h.block k k1 k2 k3),
   fun y hy=>by rw[World.cell?_setCell_other _ _ _ _ (fun e=>by have:=congrArg Addr.block e;simp at this;omega)];exact h.cell y hy,fun y=>by simp[h.frozen y],h.lt⟩
theorem Fr.marked(h:Fr c o b w w1){g:Nat}(m:af w1 w2 g)(hg:g=b∨w.heap.size<=g)(hgc:g≠c):Fr c o b w w2:=
 ⟨m.os.trans h.os,m.tape.trans h.tape,m.output.trans h.output,by rw[m.size];exact h.size,fun k k1 k2 k3=>(m.other k om).trans (h.block k k1 k2 k3),
   fun x hx=>(m.cell (a:=jj c x) (Ne.symm hgc)).trans (h.cell x hx),fun x=>(m.aQ (a:=jj c x) (Ne.symm hgc)).trans (h.frozen x),h.lt⟩
theorem Fr.alloc(h:Fr c o b w w1)(x:Obj):Fr c o b w (w1.alloc x):=h.since (bJ _ _)
theorem Fr.grown(h:Fr c o b w w1){row:Option Nat}(hg:w1.grownBy w2 row)(hr:∀k,row=some k->w.heap.size<=k):Fr c o b w w2:=by
 have hc:=Nat.lt_of_lt_of_le h.lt h.size;have hcr:some c≠row:=fun e=>by have:=hr c e.symm;have:=h.lt;omega
 have hb:=hg.block c hc hcr
 exact⟨hg.os.trans h.os,hg.tape.trans h.tape,hg.output.trans h.output,Nat.le_trans h.size hg.size,
  fun k k1 k2 k3=>(hg.block k (Nat.lt_of_lt_of_le k1 h.size) (fun e=>by have:=hr k e.symm;omega)).trans (h.block k k1 k2 k3),
  fun x hx=>(fa (w:=w1) (a:=jj c x) hb).trans (h.cell x hx),fun x=>(wW (w:=w1) (a:=jj c x) hb).trans (h.frozen x),h.lt⟩
end
theorem afP{w:World}{base g t cap:Nat}{S:Nat->Nat}(hr:w.rowIs g 129 cap (fun j=>.int .u32 (S j)))(ht:t<=cap)(hc:cap<=maxLen)(hb:base<=g):w.ownsRow base 129 1 (.s g t cap) t (ll S t):=by
 obtain⟨cur,h1,h2,h3⟩:=hr;refine⟨by rw[mC];omega,.inr ⟨g,cap,cur,rfl,hb,h1,ht,hc,om, ?_⟩⟩
 apply List.ext_getElem?
 intro i;rw[Nat.mul_one]
 by_cases hi:i<t
 . rw[mD S t i hi,List.getElem?_take,if_pos hi]
   have:=h3 i om
   simpa using this
 . rw[List.getElem?_eq_none (by rw[List.length_take];omega),List.getElem?_eq_none (by rw[mC];omega)]
theorem bX{w:World}{base:Nat}{v:Value}{m:Nat}{X:Nat->Nat}(h:w.ownsRow base 129 1 v m (ll X m))(hv:v≠ .n):
 ∃g cap,v=.s g m cap/\m<=cap/\base<=g/\g<w.heap.size/\ag w (jp g 0) g 0 m X/\(∀o,w.frozen? (jj g o)=false):=by
 have hc:= @World.ownsRow.cells _ _ _ _ _ _ _ h
 rcases h.2 with ⟨rfl,rfl⟩ | ⟨g,cap,cur,rfl,hb,hg,hm,_⟩
 . exact absurd rfl hv
 . refine⟨g,cap,rfl,hm,hb,(Array.getElem?_eq_some_iff.1 hg).1,fun j hj=>⟨rfl, ?_⟩,fun o=>by simp[World.frozen?,hg]⟩
   have:=hc (g:=g) rfl j _ (mD X m j hj);rw[Addr.add_lit] at this;exact this
theorem pN{B C:Nat->Nat}{m:Nat}(h:∀j,j<m->B j=C j):ll B m=ll C m:=by
 unfold ll;exact List.map_congr_left (fun j hj=>by rw[h j (List.mem_range.1 hj)])
theorem adl(S:Nat->Nat)(t:Nat):ll (iD S t) (t+1)=ll S t++[.int .u32 0]:=by
 rw[jV,pp,pN (fun j hj=>show iD S t j=S j by simp[iD,hj])]
 rfl
theorem lO{c o:Nat}{a:Option Addr}{b off n cap s:Nat}{X:Nat->Nat}{w:World}(hn:n<=67108864)(hp:s<32)(hX:ag w a b off n X)
 (hXl:∀j,j<n->X j<4294967296)(hc0:w.cell? (jj c o)=some (.slice a n cap))(hf0:w.frozen? (jj c o)=false):
 Cl 218 #[.p c o,.i (s:Int)] w fun e w'=>e=.returned (.tuple #[])/\∃w2 S,w.S w2/\w2.rowIs w.heap.size 129 (n+1) (fun j=>.int .u32 (S j:Nat))/\
  (∀k,S k<4294967296)/\lv S (n+1)=lv X n*2^s/\w'=w2.setCell ⟨c,o,none⟩ (.s w.heap.size (ce (nz S) (n+1)) (n+1)):=by
 have h:=@vC c o a b off n cap 0 s X w hn om hp hX hXl hc0 hf0;simp only[Nat.mul_zero,Nat.zero_add,Nat.add_zero] at h;exact h
theorem qU{c o:Nat}{b n cap s:Nat}{X:Nat->Nat}{w:World}(hn:n<=268435456)(hnc:n<=cap)(hw:0<n)(hp:s<32)(hX:ag w (jp b 0) b 0 n X)
 (hXl:∀j,j<n->X j<4294967296)(hc0:w.cell? (jj c o)=some (.s b n cap))(hf0:w.frozen? (jj c o)=false)(hf:∀o,w.frozen? (jj b o)=false)(hcb:c≠b):
 Cl 222 #[.p c o,.i (s:Int)] w fun e w'=>e=.returned (.tuple #[])/\∃w2 S k,af w w2 b/\ag w2 (jp b 0) b 0 k S/\
  k<=n/\(∀j,j<k->S j<4294967296)/\lv S k=lv X n/2^s/\w'=w2.setCell ⟨c,o,none⟩ (.s b (ce (nz S) k) cap):=by
 have h:=um hn hnc hw hp hX hXl hc0 hf0 hf hcb;simp only[Nat.mul_zero,Nat.zero_add] at h;exact h
def bU(w:World)(v:Value)(g N M:Nat):Prop:=
 ∃a m cap Y,v=.slice a m cap/\m<=cap/\m<=M/\(a=none->cap=0)/\ag w a g 0 m Y/\(0<m->∀o,w.frozen? ⟨g,o,none⟩=false)/\(∀j,j<m->Y j<4294967296)/\(0<m->Y (m-1)≠0)/\lv Y m=N
def fg(w:World)(v:Value)(g:Nat):Prop:=∀a m cap,v=.slice a m cap->a≠none->Shape w g 129 cap/\cap<=maxLen
theorem qW{w:World}{base g n cap:Nat}{a:Addr}{xs:List Value}(h:w.ownsRow base 129 1 (.slice (some a) n cap) n xs)(e:a=jj g 0):Shape w g 129 cap/\cap<=maxLen:=by
 subst e;obtain⟨-,h | ⟨g',cap',cur,e,-,hh,-,hm,hs,-⟩⟩:=h
 . cases h.1
 . cases e
   exact⟨⟨cur,hh,by simpa using hs⟩,hm⟩
structure Lg(c o b:Nat)(w wr:World)(G BQ QB nn dl L cG:Nat)(S1 W Q:Nat->Nat):Prop where
 fr:Fr c o b w wr
 cC:wr.cell? ⟨c,o,none⟩=some (.slice (some ⟨G,0,none⟩) nn cG)
 box:wr.cell? ⟨w.heap.size,0,none⟩=some (.slice (some ⟨w.heap.size+1,0,none⟩) dl (dl+1))
 D:ag wr (some ⟨w.heap.size+1,0,none⟩) (w.heap.size+1) 0 dl S1
 LW:ag wr (some ⟨G,0,none⟩) G 0 nn W
 FG:∀x,wr.frozen? ⟨G,x,none⟩=false
 rQ:wr.rowIs BQ 129 L (fun j=>.int .u32 (Q j))
 bQ:wr.rowIs QB 98 1 (fun _=>.slice (some ⟨BQ,0,none⟩) L L)
 g0:w.heap.size+2<=G
 g1:G<BQ
 g2:G<QB
 g3:BQ≠QB
 sh:Shape wr G 129 cG/\cG<=maxLen
section
variable{c o b:Nat}{w wr wr':World}{G BQ QB nn dl L cG:Nat}{S1 W W' Q:Nat->Nat}
theorem Lg.same(h:Lg c o b w wr G BQ QB nn dl L cG S1 W Q)(s:Same wr wr'):Lg c o b w wr' G BQ QB nn dl L cG S1 W Q:=
 ⟨h.fr.same s,by rw[s.cell];exact h.cC,by rw[s.cell];exact h.box,h.D.same s,h.LW.same s,fun x=>by rw[s.frozen];exact h.FG x,h.rQ.of_block (by rw[s.heap]),h.bQ.of_block (by rw[s.heap]),h.g0,h.g1,h.g2,h.g3,h.sh.1.of_block (by rw[s.heap]),h.sh.2⟩
theorem Lg.marked(h:Lg c o b w wr G BQ QB nn dl L cG S1 W Q)(m:af wr wr' G)(hL:ag wr' (jp G 0) G 0 nn W'):Lg c o b w wr' G BQ QB nn dl L cG S1 W' Q:=by
 have:=h.g0;have:=h.g1;have:=h.g2;have:=h.fr.lt
 exact⟨h.fr.marked m (Or.inr om) om,by rw[m.cell (a:=jj c o) (by show c≠G;omega)];exact h.cC,by rw[m.cell (a:=jj w.heap.size 0) (by show w.heap.size≠G;omega)];exact h.box,
  h.D.marked m (fun _=>by omega),hL,fun x=>by rw[m.frozen];exact h.FG x,h.rQ.of_block (m.other _ om),h.bQ.of_block (m.other _ om),h.g0,h.g1,h.g2,h.g3,m.shape _ _ h.sh.1,h.sh.2⟩
theorem Lg.put(h:Lg c o b w wr G BQ QB nn dl L cG S1 W Q)(i v:Nat):Lg c o b w (wr.setCell ⟨BQ,i,none⟩ (.int .u32 v)) G BQ QB nn dl L cG S1 W (fX Q i v):=by
 have:=h.g0;have:=h.g1;have:=h.g2;have:=h.g3;have:=h.fr.lt;refine⟨h.fr.setNew (Or.inr om) om _, ?_, ?_,h.D.setOther om _,h.LW.setOther om _,fun x=>by simp[h.FG x],(h.rQ.set i _).congr (fun j _=> ?_),h.bQ.setOther (by show QB≠BQ;omega) _,h.g0,h.g1,h.g2,h.g3,h.sh.1.setCell _ _ _,h.sh.2⟩
 . rw[World.cell?_setCell_other _ _ _ _ (fun e=>by have:=congrArg Addr.block e;simp at this;omega)];exact h.cC
 . rw[World.cell?_setCell_other _ _ _ _ (fun e=>by have:=congrArg Addr.block e;simp at this;omega)];exact h.box
 . by_cases e:j=i<;>simp[fX,e]
end
theorem rv{c o:Nat}{a a':Option Addr}{b n cap b' dl cap':Nat}{X Y:Nat->Nat}{w:World}(hn:n<=33554432)(hdn:dl<=n)(hdl:2<=dl)
 (hc0:w.cell? (jj c o)=some (.slice a n cap))(hf0:w.frozen? (jj c o)=false)(hX:ag w a b 0 n X)(hY:ag w a' b' 0 dl Y)(hXl:∀j,j<n->X j<4294967296)(hYl:∀j,j<dl->Y j<4294967296)
 (tX:X (n-1)≠0)(tY:Y (dl-1)≠0):
 Cl 214 #[.p c o,.slice a' dl cap'] w fun e w'=>∃vq vr gq gr,e=.returned vq/\w'.cell? (jj c o)=some vr/\bU w' vq gq (lv X n/lv Y dl) (n+2)/\bU w' vr gr (lv X n % lv Y dl) (n+2)/\
  w.heap.size<=gq/\w.heap.size<=gr/\gq≠gr/\gq<w'.heap.size/\gr<w'.heap.size/\Fr c o b w w'/\fg w' vr gr:=by
 have hcl:=gz _ _ hc0;have kd:w.cell? (jj b' (dl-1))=some (.int .u32 (Y (dl-1))):=by simpa using (hY (dl-1) om).2
 have hbl:=hY.lt om;obtain⟨rfl,-⟩:=hY 0 om;have HtX:=ae tX;have hy0:0<Y (dl-1):=om
 have hyl:=hYl (dl-1) om;have hd1:(1:Int)<=dl:=om
 go_enter Tryz.func214,Tryz.ntmps214;go_wp2_with fail;refine (@zQ (Y (dl-1)) _ hy0 hyl).mono ?_;rintro e w0 ⟨s,rfl,rfl,hs,hs1,hs2⟩;have HS1:=ae hs1;have HS2:=ae hs2;have f1:Fr c o b w (w.alloc (.cells #[.s b' dl cap'] 98)):=(Fr.refl o b hcl).alloc _;go_wp2_with fail;refine (@lO w.heap.size 0 _ b' 0 dl cap' s Y _ om hs (hY.aA (bJ _ _)) hYl (by simp[go_sem]) (by simp[go_sem])).mono ?_;rintro e w3 ⟨rfl,w2,S1,hs2,hr1,hS1,hv1,hw3⟩;have hz1:(w.alloc (.cells #[.s b' dl cap'] 98)).heap.size=w.heap.size+1:=by simp
 unfold World.S at hs2;rw[hz1] at hs2 hr1 hw3;obtain⟨et,ev,ed,ed1,ed2⟩:=ze om hs hYl hS1 HS1.out HS2.out hv1;rw[et] at hw3;have z2:w.heap.size+2<=w2.heap.size:=by have:=hr1.lt;omega
 have s2:=(bJ _ _).trans (sM hs2 om);have s3:w.S w3:=by rw[hw3];exact s2.setCell (Nat.le_refl _) _
 have afA:w3.cell? (jh w 0)=some (.s (w.heap.size+1) dl (dl+1)):=by
  rw[hw3];refine j6 _ _ _ (u:=.s b' dl cap') ?_;rw[hs2.cell (a:=jj w.heap.size 0) qz];simp[go_sem]
 have D3:ag w3 (jp (w.heap.size+1) 0) (w.heap.size+1) 0 dl S1:=by
  rw[hw3];exact ((dT hr1).take om).setOther om _
 have z3:w.heap.size+2<=w3.heap.size:=by rw[hw3];simpa [World.setCell] using z2
 have HS:=ae hS1;have HEv:=ae ev;have HEd:=ae ed;have HE1:=ae ed1;have HE2:=ae ed2;have HYl:=ae hYl;clear hw3 hs2 hr1 s2 z2 ev ed ed1 ed2 et hv1 hS1 hYl hY kd HS1 HS2 hy0 hyl;go_wp2_with fail;refine (@lO c o a b 0 n cap s X _ om hs (hX.aA s3) hXl (by rw[s3.cell (a:=jj c o) hcl];exact hc0) (by rw[s3.frozen (a:=jj c o) hcl];exact hf0)).mono ?_;rintro e w5 ⟨rfl,w4,S2,s4,hr2,hS2,hv2,hw5⟩;obtain⟨t2,ht2⟩:∃t,t=ce (nz S2) (n+1):=⟨_,rfl⟩;rw[<-ht2] at hw5;have ht2l:t2<=n+1:=by rw[ht2];exact co _ _
 have HV2:Hid (lv S2 t2=lv X n*2^s):=by rw[ht2];exact (dP _ _).trans hv2
 have ht2g:n<=t2:=by
  by_cases h:n<=t2
  . exact h
  . exfalso
    have h1:=fy S2 t2 (fun j _=>hS2 j);have h2:=jU X n om HtX.out;have h3:2^(32*t2)<=2^(32*(n-1)):=Nat.pow_le_pow_right om om;have h4:lv X n*1<=lv X n*2^s:=Nat.mul_le_mul_left _ (Nat.pow_pos om);have h5:=HV2.out;omega
 have HS2:=ae hS2;clear ht2 hv2 hS2;have c4:w4.cell? (jj c o)=some (.slice a n cap):=by rw[s4.cell (a:=jj c o) (by show c<_;omega),s3.cell (a:=jj c o) hcl];exact hc0
 have c5:w5.cell? (jj c o)=some (.s w3.heap.size t2 (n+1)):=by rw[hw5];exact j6 _ _ _ c4
 have fr5:Fr c o b w w5:=by rw[hw5];exact (((Fr.refl o b hcl).since s3).since s4).set _
 have row5:w5.rowIs w3.heap.size 129 (n+1) (fun j=>.int .u32 (S2 j)):=by rw[hw5];exact hr2.setOther (by show w3.heap.size≠c;omega) _
 have box5:w5.cell? (jh w 0)=some (.s (w.heap.size+1) dl (dl+1)):=by
  rw[hw5,World.cell?_setCell_other _ _ _ _ (fun h=>by have:=congrArg Addr.block h;simp at this;omega),s4.cell (a:=jj w.heap.size 0) (by show w.heap.size<_;omega)];exact afA
 have D5:ag w5 (jp (w.heap.size+1) 0) (w.heap.size+1) 0 dl S1:=by rw[hw5];exact (D3.aA s4).setOther om _
 have z5:=row5.lt;clear hw5 c4 hr2 s4 afA D3 s3 hX hc0;have f5:w5.frozen? (jj c o)=false:=by rw[fr5.frozen];exact hf0
 obtain⟨i0,hi,hz0,hz1,hz2⟩:=info_parts Tryz.info129
 go_wp2_with (at_builtin;refine wpList_append_own _ rfl _ _ 98 rfl w3.heap.size 129 i0 (.int .u32 0) 1 4 Tryz.underlying98 hi hz0 hz1 hz2 rfl qd _ _ _ rfl ((afP row5 ht2l (by unfold maxLen;omega) (Nat.le_refl _)).alloc _) (jh w5 0) 1 1 [.int .u32 0] rfl rfl (bO _ _ _) (bZ _ rfl) (by unfold maxLen;omega) om (by simp;omega) ?_)
 intro v' w6 hown' hgrow hnn;rw[<-adl] at hown';obtain⟨G,cG,rfl,hcG,hG,hGl,L6,F6⟩:=bX hown' hnn;have H6:=qW hown' rfl;have fr6:=(fr5.alloc _).grown hgrow (fun k hk=>by simp[Value.ownBlock] at hk;omega);have hcc:some c≠(Value.s w3.heap.size t2 (n+1)).ownBlock:=by simp[Value.ownBlock];omega
 have c6:=hgrow.cell (a:=jj c o) (by rw[World.cell?_alloc_old _ _ _ (by show c≠_;omega)];exact c5) hcc;have f6:w6.frozen? (jj c o)=false:=by rw[fr6.frozen];exact hf0
 have box6:=hgrow.cell (a:=jj w.heap.size 0) (by rw[World.cell?_alloc_old _ _ _ (by show w.heap.size≠_;omega)];exact box5) (by simp[Value.ownBlock];omega);have D6:ag w6 (jp (w.heap.size+1) 0) (w.heap.size+1) 0 dl S1:=fun j hj=>⟨rfl,hgrow.cell (a:=jj (w.heap.size+1) (0+j)) (by rw[World.cell?_alloc_old _ _ _ (by show w.heap.size+1≠_;omega)];exact (D5 j hj).2) (by simp[Value.ownBlock];omega)⟩
 have z6:w5.heap.size+1<=w6.heap.size:=by have:=hgrow.size;simpa using this
 obtain⟨nn,hnn⟩:∃nn,nn=t2+1:=⟨_,rfl⟩;rw[<-hnn] at L6 hcG⊢;obtain⟨L,hL⟩:∃L,L=nn-dl:=⟨_,rfl⟩;have hnL:nn=L+dl:=om
 have HnL:=ae hnL;have hLi:(nn:Int)-(dl:Int)=L:=om
 have hmk:=run_make_row' (P:=Tryz.prog) 98 129 (.int .u32 0) 4 Tryz.underlying98 Tryz.info129 rfl .i64 .i64 L om om;have hLp:1<=L:=om
 have HNN:=ae hnn;have hnnl:nn<=n+2:=om
 clear hL hnL hnn;go_wp2;have fr7:=fr6.set (.s G nn cG);have c7:=j6 _ _ (.s G nn cG) c6
 have box7:(w6.setCell (jj c o) (.s G nn cG)).cell? (jh w 0)=some (.s (w.heap.size+1) dl (dl+1)):=by
  rw[World.cell?_setCell_other _ _ _ _ (fun h=>by have:=congrArg Addr.block h;simp at this;omega)];exact box6
 have D7:=D6.setOther (c:=c) (o:=o) om (.s G nn cG);have L7:=L6.setOther (c:=c) (o:=o) om (.s G nn cG);have F7:∀x,(w6.setCell (jj c o) (.s G nn cG)).frozen? (jj G x)=false:=fun x=>by simp[F6 x]
 have H7:Shape (w6.setCell (jj c o) (.s G nn cG)) G 129 cG/\cG<=maxLen:=⟨H6.1.setCell _ _ _,H6.2⟩;have z7:(w6.setCell (jj c o) (.s G nn cG)).heap.size=w6.heap.size:=by simp[World.setCell]
 generalize w6.setCell (jj c o) (.s G nn cG)=w7 at*;rw[<-z7] at z6 hGl;clear z7 fr6 c6 f6 box6 D6 L6 F6;have n1:c≠w7.heap.size:=om
 have n2:w.heap.size≠w7.heap.size:=om
 have hLw:IntKind.i64.wrap (L:Int)=L:=by rw[IntKind.wrap_i64];omega
 have a0:∀x,(w7.alloc x).cell? (jh w 0)=some (.s (w.heap.size+1) dl (dl+1)):=fun x=>by rw[World.cell?_alloc_old _ _ _ n2];exact box7
 have a1:∀x,(w7.alloc x).cell? (jj c o)=some (.s G nn cG):=fun x=>by rw[World.cell?_alloc_old _ _ _ n1];exact c7
 go_region
 all_goals go_wp2
 all_goals clear a0 a1 hmk hLw
 focus
  have rQ:=(World.rowIs_made w7 (.int .u32 0) L 129).alloc (.cells #[.s w7.heap.size L L] 98);have bQ:=World.rowIs_alloc (w7.alloc (.cells (madeCells #[.int .u32 0] L) 129)) #[.s w7.heap.size L L] 98 (fun _=>.s w7.heap.size L L) (fun i hi=>by simp at hi;subst hi;rfl);rw[show (w7.alloc (.cells (madeCells #[.int .u32 0] L) 129)).heap.size=w7.heap.size+1 by simp] at bQ;have sL:w7.S ((w7.alloc (.cells (madeCells #[.int .u32 0] L) 129)).alloc (.cells #[.s w7.heap.size L L] 98)).drew:=((bJ _ _).alloc qz _).drew;have rQ:=rQ.drew;have bQ:=bQ.drew;obtain⟨QB,hQB⟩:∃x,x=w7.heap.size+1:=⟨_,rfl⟩;obtain⟨BQ,hBQ⟩:∃x,x=w7.heap.size:=⟨_,rfl⟩;generalize ((w7.alloc _).alloc _).drew=wL at*;rw[<-hQB] at bQ;rw[<-hQB];rw[<-hBQ] at bQ rQ;rw[<-hBQ]
 rotate_left
 focus
  have bQ:=(World.rowIs_alloc w7 #[.s (w7.heap.size+1) L L] 98 (fun _=>.s (w7.heap.size+1) L L) (fun i hi=>by simp at hi;subst hi;rfl)).alloc (.cells (madeCells #[.int .u32 0] L) 129);have rQ:=World.rowIs_made (w7.alloc (.cells #[.s (w7.heap.size+1) L L] 98)) (.int .u32 0) L 129;rw[show (w7.alloc (.cells #[.s (w7.heap.size+1) L L] 98)).heap.size=w7.heap.size+1 by simp] at rQ;have sL:w7.S ((w7.alloc (.cells #[.s (w7.heap.size+1) L L] 98)).alloc (.cells (madeCells #[.int .u32 0] L) 129)).drew:=((bJ _ _).alloc qz _).drew;have rQ:=rQ.drew;have bQ:=bQ.drew;obtain⟨BQ,hBQ⟩:∃x,x=w7.heap.size+1:=⟨_,rfl⟩;obtain⟨QB,hQB⟩:∃x,x=w7.heap.size:=⟨_,rfl⟩;generalize ((w7.alloc _).alloc _).drew=wL at*;rw[<-hBQ] at bQ rQ;rw[<-hBQ];rw[<-hQB] at bQ;rw[<-hQB]
 all_goals
  have lg0:Lg c o b w wL G BQ QB nn dl L cG S1 (iD S2 t2) (fun _=>0):=⟨fr7.since sL,by rw[sL.cell (a:=jj c o) (by show c<_;omega)];exact c7,by rw[sL.cell (a:=jj w.heap.size 0) (by show w.heap.size<_;omega)];exact box7,
   D7.aA sL,L7.aA sL,fun x=>by rw[sL.frozen (a:=jj G x) hGl];exact F7 x,rQ,bQ,om,om,om,om,H7.1.since sL hGl,H7.2⟩
  clear rQ bQ sL hQB hBQ H7;have hN:=abf (W:=iD S2 t2) (D:=lv S1 dl) (dl:=dl) (L:=L) (nn:=nn) HnL.out om (adC t2 HS2.out) (by rw[HNN.out];exact pp S2 t2) HE1.out;have HN:=ae hN;have hD0:0<lv S1 dl:=by have:=HE1.out;have:=Nat.pow_pos (n:=32*(dl-1)) (show 0<2 by omega);omega
  have HD0:=ae hD0
  go_loopw [7] (fun q wr=>∃(k:Nat) (z:Int) (W Q:Nat->Nat),k<=L/\q=.i z/\Hid (z=k-1)/\Lg c o b w wr G BQ QB nn dl L cG S1 W Q/\Hid (lJ (lv (iD S2 t2) nn) (lv S1 dl) dl L nn W Q k)) (fun q _=>(intOf q+1).toNat)
  case atStart=>exact⟨L,(L:Int)-1,_,_,Nat.le_refl _,rfl,rfl,lg0,HN⟩
  case round=>
   obtain⟨k,z,W,Q,hk,rfl,HZ,lg,HR⟩:=hrel
   by_cases hz:0<=z
   . obtain⟨p,rfl⟩:=Int.eq_ofNat_of_zero_le hz
     have hkp:k=p+1:=by have:=HZ.out;omega
     subst hkp;have q1:=lg.box;have hpn:p+dl<nn:=by have:=HnL.out;omega
     go_wp2_with fail;refine (@ad0 c o G nn cG (w.heap.size+1) dl (dl+1) p W S1 _ om hdl hpn lg.cC lg.LW lg.D HR.out.2.2.2.1 (fun j _=>HS.out j) HEd.out (aeI HR.out om rfl (fun j _=>HS.out j))).mono ?_;rintro e w8 ⟨rfl,s8⟩;have lg8:=lg.same s8;have hgs:=abg (W:=W) (Y:=S1) (a:=p) hdl rfl (fun j _=>HS.out j) HR.out.2.2.2.1 (by have:=HEd.out;omega) (sj HR.out);have hgl:=wU (W (p+dl)) (W (p+dl-1)) (W (p+dl-2)) (S1 (dl-1)) (S1 (dl-2));generalize jm (W (p+dl)) (W (p+dl-1)) (W (p+dl-2)) (S1 (dl-1)) (S1 (dl-2))=g at*;have HGS:=ae hgs;have q1:=lg8.box;go_wp2_with fail;refine (@vx c o G nn cG (w.heap.size+1) dl (dl+1) g p W S1 _ om hgl hpn lg8.cC lg8.FG (by have:=lg8.g0;omega) (by have:=lg8.g0;omega) lg8.LW lg8.D HR.out.2.2.2.1 (fun j _=>HS.out j)).mono ?_;rintro e w9 ⟨W1,bo,rfl,m9,L9,v9,e9,l9⟩;have lg9:=lg8.marked m9 L9;have HV9:=ae v9;have HE9:=ae e9;have HL9:=ae l9;have hpL:(p:Int)<L:=om
     cases bo with
     | false=>
       have hw9:lM W1 p (dl+1)+g*lv S1 dl=lM W p (dl+1):=by have:=HV9.out;simpa [lM] using this
       have hgq:=aaJ HD0.out hw9 HGS.out.1;obtain⟨HLR,-⟩:=wO HR.out om HE2.out HD0.out hgq hw9 HE9.out HL9.out;have HLR:=ae HLR;have q2:=lg9.bQ.cell (i:=0) om;have q3:=lg9.rQ.cell (i:=p) om;have q4:=lg9.rQ.frozen p;clear hw9 hgq HV9 HE9 HL9 HR HGS;go_wp2;go_roundw
       case rel=>exact⟨p,(p:Int)-1,_,_,om,by go_num,rfl,lg9.put p g,HLR⟩
       case measure=>simp[intOf]
     | true=>
       have q1:=lg9.box
       have hg1:1<=g:=by
        by_cases h:1<=g
        . exact h
        . exfalso
          have e0:g=0:=om
          have h1:=HV9.out;have h2:=aaD HL9.out p (dl+1);unfold lM at h2;rw[e0] at h1
          simp at h1
          omega
       go_wp2_with fail;refine (@ya c o G nn cG (w.heap.size+1) dl (dl+1) p W1 S1 _ om hpn lg9.cC lg9.FG (by have:=lg9.g0;omega) (by have:=lg9.g0;omega) lg9.LW lg9.D HL9.out (fun j _=>HS.out j)).mono ?_;rintro e w10 ⟨W2,cy,rfl,m10,L10,v10,e10,l10,hcy⟩;have lg10:=lg9.marked m10 L10;have hto:=acP (U:=lM W p (dl+1)) (V:=lM W1 p (dl+1)) (V2:=lM W2 p (dl+1)) HD0.out (by have:=HV9.out;simpa [lM] using this) (aaD HL9.out p (dl+1)) HGS.out.2 v10 hcy (aaD l10 p (dl+1));obtain⟨HLR,-⟩:=wO HR.out om HE2.out HD0.out hto.2.1 hto.2.2 (fun k hk=>(e10 k hk).trans (HE9.out k hk)) l10;have HLR:=ae HLR;have q2:=lg10.bQ.cell (i:=0) om;have q3:=lg10.rQ.cell (i:=p) om;have q4:=lg10.rQ.frozen p;go_wp2;go_roundw
       case rel=>
        have:=lg10.put p (g-1);rw[show ((g-1:Nat):Int)=g-1 by omega] at this;exact⟨p,(p:Int)-1,_,_,om,by go_num,rfl,this,HLR⟩
       case measure=>simp[intOf]
   . have hk0:k=0:=by have:=HZ.out;omega
     subst hk0;obtain⟨vQ,vW⟩:=aeJ HR.out (by have:=HnL.out;omega);have eN:lv (iD S2 t2) nn=lv X n*2^s:=by rw[HNN.out,adi];exact HV2.out
     rw[eN,HEv.out] at vQ vW;have q2:=lg.bQ.cell (i:=0) om;have q3:=lg.bQ.frozen 0;have hWl:=ae HR.out.2.2.2.1;have hQl:=ae HR.out.2.2.2.2;have HVQ:Hid (lv Q L=lv X n/lv Y dl):=vQ.trans acf.1;have HVW:Hid (lv W nn/2^s=lv X n % lv Y dl):=by rw[vW];exact acf.2
     have j0:=lg.g0;have j1:=lg.g1;have j2:=lg.g2;have j3:=lg.g3;go_wp2_with fail;refine (@eK QB 0 _ BQ 0 L L Q _ om (Nat.le_refl _) q2 q3 (dT lg.rQ)).mono ?_;rintro e w8 ⟨rfl,hw8⟩;have fr8:Fr c o b w w8:=by rw[hw8];exact lg.fr.setNew (Or.inr om) om _
     have c8:w8.cell? (jj c o)=some (.s G nn cG):=by rw[hw8,World.cell?_setCell_other _ _ _ _ (fun e=>by have:=congrArg Addr.block e;simp at this;omega)];exact lg.cC
     have L8:ag w8 (jp G 0) G 0 nn W:=by rw[hw8];exact lg.LW.setOther om _
     have F8:∀x,w8.frozen? (jj G x)=false:=fun x=>by rw[hw8];simp[lg.FG x]
     have H8:Shape w8 G 129 cG/\cG<=maxLen:=⟨by rw[hw8];exact lg.sh.1.setCell _ _ _,lg.sh.2⟩;have r8:w8.rowIs BQ 129 L (fun j=>.int .u32 (Q j)):=by rw[hw8];exact lg.rQ.setOther (by show BQ≠QB;omega) _
     have b8:w8.cell? (jj QB 0)=some (.s BQ (ce (nz Q) L) L):=by rw[hw8];exact j6 _ _ _ q2
     clear hw8 lg q2 q3;go_wp2_with fail;refine (@qU c o G nn cG s W _ om hcG (by have:=HnL.out;omega) hs L8 (fun j _=>hWl.out j) c8 (by rw[fr8.frozen];exact hf0) F8 om).mono ?_;rintro e w9 ⟨rfl,w10,S3,k3,m10,L10,hk3,l10,v10,hw9⟩;have HV10:=ae (v10.trans HVW.out);have fr9:Fr c o b w w9:=by rw[hw9];exact (fr8.marked m10 (Or.inr om) om).set _
     have H9:Shape w9 G 129 cG/\cG<=maxLen:=⟨by rw[hw9];exact (m10.shape _ _ H8.1).setCell _ _ _,H8.2⟩;have r9:w9.rowIs BQ 129 L (fun j=>.int .u32 (Q j)):=by rw[hw9];exact (r8.of_block (m10.other _ om)).setOther (by show BQ≠c;omega) _
     have b9:w9.cell? (jj QB 0)=some (.s BQ (ce (nz Q) L) L):=by
      rw[hw9,World.cell?_setCell_other _ _ _ _ (fun e=>by have:=congrArg Addr.block e;simp at this;omega),m10.cell (a:=jj QB 0) (by show QB≠G;omega)];exact b8
     have c9:w9.cell? (jj c o)=some (.s G (ce (nz S3) k3) cG):=by
      rw[hw9];exact j6 _ _ _ ((m10.cell (a:=jj c o) (by show c≠G;omega)).trans c8)
     have L9:ag w9 (jp G 0) G 0 k3 S3:=by rw[hw9];exact L10.setOther om _
     have F9:∀x,w9.frozen? (jj G x)=false:=fun x=>by rw[hw9];simp[m10.frozen,F8 x]
     have zG:G<w9.heap.size:=by have:=r9.lt;omega
     clear v10 hw9 m10 L10 L8 F8 r8 b8 c8 fr8;go_wp2;go_ret;have t1:=co (nz Q) L;have t2:=co (nz S3) k3;have hLn:L<=n+2:=by have:=HnL.out;omega
     refine⟨_,_,BQ,G,rfl,c9,⟨_,_,_,Q,rfl,t1,om,fun h=>(by cases h),(dT r9).take t1,fun _ x=>r9.frozen x,fun j _=>hQl.out j,fun h=> ?_,(dP _ _).trans HVQ.out⟩,
      ⟨_,_,_,S3,rfl,om,om,fun h=>(by cases h),L9.take t2,fun _ x=>F9 x,fun j hj=>l10 j om,fun h=> ?_,(dP _ _).trans HV10.out⟩,om,om,om,r9.lt,zG,fr9,fun _ _ _ h _=>by cases h;exact H9⟩
     . have:=cI _ _ h;simpa [nz] using this
     . have:=cI _ _ h;simpa [nz] using this
def cZ(Y:Nat->Nat)(m:Nat):Nat->Nat:=fun j=>if j<m then Y j else 0
theorem lf(Y:Nat->Nat)(m n:Nat)(h:m<=n):lv (cZ Y m) n=lv Y m:=by
 rw[nT (cZ Y m) m n h (fun j h1 _=>by simp[cZ];omega)];exact dD (fun j hj=>by simp[cZ,hj])
theorem ad9{x y:Nat}(h:x<y):fd x y<0:=by rw[lD h];decide
theorem yg{x y:Nat}(h:y<=x):0<=fd x y:=by unfold fd;split<;>(try split)<;>omega
theorem ip{X Y:Nat->Nat}{n m:Nat}(hY:∀j,j<m->Y j<4294967296)(pX:0<n->X (n-1)≠0)(h:lv X n<=lv Y m):n<=m:=by
 by_cases e:n<=m
 . exact e
 . have:=mB (A:=Y) (B:=X) hY (show m<n by omega) pX
   omega
theorem oS{c o:Nat}{a a':Option Addr}{b n cap b' dl cap':Nat}{X Y:Nat->Nat}{w:World}(hn:n<=33554432)(hnc:n<=cap)(hac:a=none->cap=0)(hdl:0<dl)(hdm:dl<=33554432)
 (hc0:w.cell? (jj c o)=some (.slice a n cap))(hf0:w.frozen? (jj c o)=false)(hX:ag w a b 0 n X)(hY:ag w a' b' 0 dl Y)(hXl:∀j,j<n->X j<4294967296)(hYl:∀j,j<dl->Y j<4294967296)
 (hf:0<n->∀x,w.frozen? (jj b x)=false)(hcb:c≠b)(hbl:0<n->b<w.heap.size)(tX:0<n->X (n-1)≠0)(tY:Y (dl-1)≠0):
 Cl 204 #[.p c o,.slice a' dl cap'] w fun e w'=>∃vq vr gq gr,e=.returned vq/\w'.cell? (jj c o)=some vr/\bU w' vq gq (lv X n/lv Y dl) (n+2)/\bU w' vr gr (lv X n % lv Y dl) (n+2)/\
  (gq=b∨w.heap.size<=gq)/\(gr=b∨w.heap.size<=gr)/\gq≠gr/\gq≠c/\gr≠c/\Fr c o b w w'/\(fg w (.slice a n cap) b->fg w' vr gr):=by
 have hcl:=gz _ _ hc0
 by_cases hlt:lv X n<lv Y dl
 . have hcmp:=ad9 hlt
   have HLt:=ae hlt;have HtX:=ae tX;have HXl:=ae hXl;go_enter Tryz.func204,Tryz.ntmps204;go_wp2_with fail;refine (iv om om hc0 hX hY hXl hYl HtX.out (fun _=>tY)).mono ?_;rintro e w1 ⟨rfl,s1⟩;generalize fd (lv X n) (lv Y dl)=z at*;go_wp2;go_ret
   refine⟨_,_,w1.heap.size+b+1,b,rfl,by rw[s1.cell];exact hc0,⟨none,0,0,fun _=>0,rfl,Nat.le_refl _,om,fun _=>rfl,fun j hj=>absurd hj om,fun h=>absurd h om,fun j hj=>absurd hj om,fun h=>absurd h om, ?_⟩,
    ⟨a,n,cap,X,rfl,hnc,om,hac,hX.same s1,fun h x=>by rw[s1.frozen];exact hf h x,HXl.out,HtX.out, ?_⟩,Or.inr (by rw[s1.size];omega),Or.inl rfl,om,by rw[s1.size];omega,om,(Fr.refl o b hcl).same s1,fun h a m cap e ha=>⟨(h a m cap e ha).1.of_block (by rw[s1.heap]),(h a m cap e ha).2⟩⟩
   . rw[Nat.div_eq_of_lt HLt.out];rfl
   . rw[Nat.mod_eq_of_lt HLt.out]
 . have hcmp:=yg (Nat.le_of_not_lt hlt)
   have hdn:=ip hXl (fun _=>tY) (Nat.le_of_not_lt hlt);have HtX:=ae tX;have HXl:=ae hXl
   by_cases h1:dl=1
   . subst h1
     obtain⟨rfl,kd⟩:=hY 0 om;have hyl:=hYl 0 om;have hy0:0<Y 0:=by simp at tY;omega
     have HYv:Hid (lv Y 1=Y 0):=by simp[Hid,lv]
     go_enter Tryz.func204,Tryz.ntmps204;go_wp2_with fail;refine (iv om om hc0 hX hY hXl hYl HtX.out (fun _=>tY)).mono ?_;rintro e w1 ⟨rfl,s1⟩;generalize fd (lv X n) (lv Y 1)=z at*;have fr1:=(Fr.refl o b hcl).same s1;have c1:w1.cell? (jj c o)=some (.slice a n cap):=by rw[s1.cell];exact hc0
     have d1:w1.cell? (jj b' 0)=some (.int .u32 (Y 0)):=by rw[s1.cell];simpa using kd
     have X1:=hX.same s1;have F1:0<n->∀x,w1.frozen? (jj b x)=false:=fun h x=>by rw[s1.frozen];exact hf h x
     have Z1:=ae s1.size;have zb:b<w1.heap.size:=by rw[s1.size];exact hbl om
     have zc:c<w1.heap.size:=by rw[s1.size];exact hcl
     have bl':b'<w1.heap.size:=gz _ _ d1;have a1:∀x,(w1.alloc x).cell? (jj b' 0)=some (.int .u32 (Y 0)):=fun x=>by rw[World.cell?_alloc_old _ _ _ (by show b'≠_;omega)];exact d1
     go_wp2_with fail;have sA:=bJ w1 (.cells #[.slice a n cap] 98);refine (kI om hnc (by simp[go_sem]) (by simp[go_sem]) (X1.aA sA) HXl.out (fun h x=>by rw[sA.frozen (a:=jj b x) zb];exact F1 h x) om hy0 hyl).mono ?_;rintro e w3 ⟨rfl,w2,Q,m2,L2,l2,v2,hw3⟩;have z2:w2.heap.size=w1.heap.size+1:=by rw[m2.size];simp
     have q0:w2.cell? (jh w1 0)=some (.slice a n cap):=by rw[m2.cell (a:=jj w1.heap.size 0) (by show w1.heap.size≠b;omega)];simp[go_sem]
     have fr3:Fr c o b w w3:=by rw[hw3];exact ((fr1.alloc _).marked m2 (Or.inl rfl) (Ne.symm hcb)).setNew (Or.inr (by have:=fr1.size;omega)) om _
     have c3:w3.cell? (jj c o)=some (.slice a n cap):=by
      rw[hw3,World.cell?_setCell_other _ _ _ _ (fun e=>by have:=congrArg Addr.block e;simp at this;omega),m2.cell (a:=jj c o) hcb,World.cell?_alloc_old _ _ _ (by show c≠_;omega)];exact c1
     have f3:w3.frozen? (jj c o)=false:=by rw[fr3.frozen];exact hf0
     have L3:ag w3 a b 0 n Q:=by rw[hw3];exact L2.setOther om _
     have b3:w3.cell? (jh w1 0)=some (.slice a (ce (nz Q) n) cap):=by rw[hw3];exact j6 _ _ _ q0
     have F3:0<n->∀x,w3.frozen? (jj b x)=false:=fun h x=>by rw[hw3];simp[m2.frozen,sA.frozen (a:=jj b x) zb,F1 h x]
     have z3:w1.heap.size+1<=w3.heap.size:=by rw[hw3];simp[World.setCell,z2]
     have HV2:=ae v2;have HL2:=ae l2;clear hw3 q0 z2 m2 L2 l2 v2 sA a1 d1 c1 X1 F1 fr1;obtain⟨r,hr⟩:∃r,r=lv X n % Y 0:=⟨_,rfl⟩;have HRr:=ae hr;have hrl:r<4294967296:=by rw[hr];have:=Nat.mod_lt (lv X n) hy0;omega
     rw[<-hr];clear hr;have nc:c≠w3.heap.size:=om
     have a3:∀x,(w3.alloc x).cell? (jj c o)=some (.slice a n cap):=fun x=>by rw[World.cell?_alloc_old _ _ _ nc];exact c3
     have a4:∀x,(w3.alloc x).frozen? (jj c o)=false:=fun x=>by
      rw[((eg _ w3).alloc (Nat.le_refl _) x).frozen (a:=jj c o) (by show c<w3.heap.size;omega)];exact f3
     have rr:(w3.alloc (.cells #[.int .u32 r] 129)).rowIs w3.heap.size 129 1 (fun j=>.int .u32 (((fun _=>r):Nat->Nat) j)):=World.rowIs_alloc w3 #[.int .u32 r] 129 _ (fun i hi=>by simp at hi;subst hi;rfl);go_wp2_with fail;have fr4:=(fr3.alloc (.cells #[.int .u32 r] 129)).set (.s w3.heap.size 1 1);have c4:=j6 _ _ (.s w3.heap.size 1 1) (a3 (.cells #[.int .u32 r] 129));have R4:=(dT rr).setOther (c:=c) (o:=o) nc (.s w3.heap.size 1 1);refine (eK om (Nat.le_refl _) c4 (by rw[fr4.frozen];exact hf0) R4).mono ?_;rintro e w5 ⟨rfl,hw5⟩;rw[oD] at hw5;have fr5:Fr c o b w w5:=by rw[hw5];exact (fr3.alloc _).set _
     have c5:w5.cell? (jj c o)=some (.s w3.heap.size (ce (nz (fun _=>r)) 1) 1):=by rw[hw5];exact j6 _ _ _ (a3 _)
     have R5:ag w5 (jp w3.heap.size 0) w3.heap.size 0 1 (fun _=>r):=by rw[hw5];exact (dT rr).setOther nc _
     have H5:Shape w5 w3.heap.size 129 1:=by rw[hw5];exact Shape.setCell ⟨_,heap_alloc_new w3 _,rfl⟩ _ _ _
     have FR5:∀x,w5.frozen? (jh w3 x)=false:=fun x=>by rw[hw5];simp[rr.frozen x]
     have L5:ag w5 a b 0 n Q:=by rw[hw5];exact (L3.aA (bJ _ _)).setOther hcb _
     have F5:0<n->∀x,w5.frozen? (jj b x)=false:=fun h x=>by
      rw[hw5];simp[((eg w3.heap.size w3).alloc (Nat.le_refl _) (.cells #[.int .u32 r] 129)).frozen (a:=jj b x) (by show b<w3.heap.size;omega),F3 h x]
     have b5:w5.cell? (jh w1 0)=some (.slice a (ce (nz Q) n) cap):=by
      rw[hw5,World.cell?_setCell_other _ _ _ _ (fun e=>by have:=congrArg Addr.block e;simp at this;omega),World.cell?_alloc_old _ _ _ (by show w1.heap.size≠_;omega)];exact b3
     clear hw5 c4 R4 fr4 rr a3 a4 L3 F3 b3 c3 f3 fr3;go_wp2;go_ret;have t1:=co (nz Q) n;have t2:=co (nz (fun _=>r)) 1;have hz:=Z1.out
     refine⟨_,_,b,w3.heap.size,rfl,c5,⟨_,_,_,Q,rfl,om,om,hac,L5.take t1,fun h x=>F5 om x,fun j hj=>HL2.out j om,fun h=> ?_, ?_⟩,
      ⟨_,_,_,fun _=>r,rfl,om,om,fun h=>(by cases h),R5.take t2,fun _ x=>FR5 x,fun j _=>hrl,fun h=> ?_, ?_⟩,Or.inl rfl,Or.inr om,om,om,om,fr5,fun _ _ _ _ h _=>by cases h;exact⟨H5,by decide⟩⟩
     . have:=cI _ _ h;simpa [nz] using this
     . rw[dP,HV2.out,HYv.out]
     . have:=cI _ _ h;simpa [nz] using this
     . rw[dP,HYv.out,<-HRr.out];simp[lv]
   . have h2:2<=dl:=om
     have hne:((dl:Int)==1)=false:=by simp;omega
     have hn0:0<n:=om
     go_enter Tryz.func204,Tryz.ntmps204;go_wp2_with fail;refine (iv om om hc0 hX hY hXl hYl HtX.out (fun _=>tY)).mono ?_;rintro e w1 ⟨rfl,s1⟩;generalize fd (lv X n) (lv Y dl)=z at*;go_wp2_with fail;refine (rv hn hdn h2 (by rw[s1.cell];exact hc0) (by rw[s1.frozen];exact hf0) (hX.same s1) (hY.same s1) hXl hYl (HtX.out hn0) tY).mono ?_;rintro e w2 ⟨vq,vr,gq,gr,rfl,k1,k2,k3,k4,k5,k6,k7,k8,k9,k10⟩;have hz:=s1.size;rw[hz] at k4 k5;have hfr:Fr c o b w w2:=⟨k9.os.trans s1.os,k9.tape.trans s1.tape,k9.output.trans s1.output,by rw[<-hz];exact k9.size,fun k a1 a2 a3=>(k9.block k (by rw[hz];exact a1) a2 a3).trans (by rw[s1.heap]),fun x hx=>(k9.cell x hx).trans (s1.cell _),fun x=>(k9.frozen x).trans (s1.frozen _),hcl⟩;go_wp2;go_ret;exact⟨vq,vr,gq,gr,rfl,k1,k2,k3,Or.inr k4,Or.inr k5,k6,om,om,hfr,fun _=>k10⟩
theorem qk{c o:Nat}{a a':Option Addr}{b n cap b' dl cap':Nat}{X Y:Nat->Nat}{w:World}(hn:n<=33554432)(hnc:n<=cap)(hac:a=none->cap=0)(hdl:0<dl)(hdm:dl<=33554432)
 (hc0:w.cell? (jj c o)=some (.slice a n cap))(hf0:w.frozen? (jj c o)=false)(hX:ag w a b 0 n X)(hY:ag w a' b' 0 dl Y)(hXl:∀j,j<n->X j<4294967296)(hYl:∀j,j<dl->Y j<4294967296)
 (hf:0<n->∀x,w.frozen? (jj b x)=false)(hcb:c≠b)(hbl:0<n->b<w.heap.size)(tX:0<n->X (n-1)≠0)(tY:Y (dl-1)≠0):
 Cl 204 #[.p c o,.slice a' dl cap'] w fun e w'=>∃vq vr gq gr,e=.returned vq/\w'.cell? (jj c o)=some vr/\bU w' vq gq (lv X n/lv Y dl) (n+2)/\bU w' vr gr (lv X n % lv Y dl) (n+2)/\
  (gq=b∨w.heap.size<=gq)/\(gr=b∨w.heap.size<=gr)/\gq≠gr/\gq≠c/\gr≠c/\Fr c o b w w':=by
 refine (oS hn hnc hac hdl hdm hc0 hf0 hX hY hXl hYl hf hcb hbl tX tY).mono ?_;rintro e w2 ⟨vq,vr,gq,gr,rfl,k1,k2,k3,k4,k5,k6,k7,k8,k9,-⟩;exact⟨vq,vr,gq,gr,rfl,k1,k2,k3,k4,k5,k6,k7,k8,k9⟩
structure Gd(base:Nat)(w wr:World)(c d gn gm:Nat)(an am:Option Addr)(n m cn cm:Nat)(X Y:Nat->Nat):Prop where
 S:w.Since base wr
 bC:wr.cell? ⟨c,0,none⟩=some (.slice an n cn)
 bD:wr.cell? ⟨d,0,none⟩=some (.slice am m cm)
 fC:wr.frozen? ⟨c,0,none⟩=false
 fD:wr.frozen? ⟨d,0,none⟩=false
 LX:ag wr an gn 0 n X
 LY:ag wr am gm 0 m Y
 FX:0<n->∀x,wr.frozen? ⟨gn,x,none⟩=false
 FY:0<m->∀x,wr.frozen? ⟨gm,x,none⟩=false
 nX:n<=cn
 nY:m<=cm
 oX:an=none->cn=0
 oY:am=none->cm=0
 lX:∀j,j<n->X j<4294967296
 lY:∀j,j<m->Y j<4294967296
 pX:0<n->X (n-1)≠0
 pY:0<m->Y (m-1)≠0
 hc:base<=c
 hd:base<=d
 hn:base<=gn
 hm:base<=gm
 d1:c≠d
 d2:gn≠gm
 d3:gn≠c
 d4:gn≠d
 d5:gm≠c
 d6:gm≠d
 uX:fg wr (.slice an n cn) gn
 uY:fg wr (.slice am m cm) gm
section
variable{base:Nat}{w wr wr':World}{c d gn gm:Nat}{an am:Option Addr}{n m cn cm:Nat}{X Y:Nat->Nat}
theorem fg.of_block{w w':World}{v:Value}{g:Nat}(h:fg w v g)(e:w'.heap[g]?=w.heap[g]?):fg w' v g:=fun a m cap hv ha=>⟨(h a m cap hv ha).1.of_block e,(h a m cap hv ha).2⟩
theorem fg.setCell{w:World}{v:Value}{g:Nat}(h:fg w v g)(c o:Nat)(x:Value):fg (w.setCell ⟨c,o,none⟩ x) v g:=fun a m cap hv ha=>⟨(h a m cap hv ha).1.setCell _ _ _,(h a m cap hv ha).2⟩
theorem fg.marked{w w':World}{v:Value}{g b:Nat}(h:fg w v g)(m:af w w' b):fg w' v g:=by
 by_cases e:g=b
 . subst e;exact fun a k cap hv ha=>⟨m.shape _ _ (h a k cap hv ha).1,(h a k cap hv ha).2⟩
 . exact h.of_block (m.other _ e)
theorem fg.len{w:World}{a:Option Addr}{n n' cap g:Nat}(h:fg w (.slice a n cap) g):fg w (.slice a n' cap) g:=fun a' m' cap' hv ha=>by cases hv;exact h _ _ _ rfl ha
theorem Gd.same(h:Gd base w wr c d gn gm an am n m cn cm X Y)(s:Same wr wr'):Gd base w wr' c d gn gm an am n m cn cm X Y:=
 ⟨h.S.trans (s.since _),by rw[s.cell];exact h.bC,by rw[s.cell];exact h.bD,by rw[s.frozen];exact h.fC,by rw[s.frozen];exact h.fD,h.LX.same s,h.LY.same s,fun a x=>by rw[s.frozen];exact h.FX a x,fun a x=>by rw[s.frozen];exact h.FY a x,
   h.nX,h.nY,h.oX,h.oY,h.lX,h.lY,h.pX,h.pY,h.hc,h.hd,h.hn,h.hm,h.d1,h.d2,h.d3,h.d4,h.d5,h.d6,h.uX.of_block (by rw[s.heap]),h.uY.of_block (by rw[s.heap])⟩
theorem iO{w:World}{a b:Addr}{v:Value}(h:a.block≠b.block):(w.setCell a v).cell? b=w.cell? b:=World.cell?_setCell_other _ _ _ _ (fun e=>h (congrArg Addr.block e))
theorem Gd.swap(h:Gd base w wr c d gn gm an am n m cn cm X Y):Gd base w ((wr.setCell ⟨c,0,none⟩ (.slice am m cm)).setCell ⟨d,0,none⟩ (.slice an n cn)) c d gm gn am an m n cm cn Y X:=by
 have k1:=h.d1;have k2:=h.d3;have k3:=h.d4;have k4:=h.d5;have k5:=h.d6
 refine⟨(h.S.setCell h.hc _).setCell h.hd _, ?_, ?_,by simp[h.fC],by simp[h.fD],(h.LY.setOther (Ne.symm k4) _).setOther (Ne.symm k5) _,(h.LX.setOther (Ne.symm k2) _).setOther (Ne.symm k3) _,fun a x=>by simp[h.FY a x],fun a x=>by simp[h.FX a x],
  h.nY,h.nX,h.oY,h.oX,h.lY,h.lX,h.pY,h.pX,h.hc,h.hd,h.hm,h.hn,h.d1,Ne.symm h.d2,h.d5,h.d6,h.d3,h.d4,(h.uY.setCell _ _ _).setCell _ _ _,(h.uX.setCell _ _ _).setCell _ _ _⟩
 . rw[iO (by show d≠c;exact Ne.symm k1)];exact j6 _ _ _ h.bC
 . refine j6 _ _ _ (u:=.slice am m cm) ?_
   rw[iO (by show c≠d;exact k1)];exact h.bD
end
theorem Same.drew{w w':World}(h:Same w w'):Same w w'.drew:=⟨h.os,h.tape,h.output,h.heap⟩
theorem fU{c o:Nat}{a:Option Addr}{n cap:Nat}{w:World}(hn:n<=2)(hc0:w.cell? (jj c o)=some (.slice a n cap)):
 Cl 205 #[.p c o] w fun e w'=>e=.returned (.bool true)/\w'=w:=by
 have h:=sw hc0;rw[show decide ((n:Int)<=2)=true by simp;omega] at h;exact h
theorem jC{c o:Nat}{a:Option Addr}{n cap:Nat}{w:World}(hn:2<n)(hc0:w.cell? (jj c o)=some (.slice a n cap)):
 Cl 205 #[.p c o] w fun e w'=>e=.returned (.bool false)/\w'=w:=by
 have h:=sw hc0;rw[show decide ((n:Int)<=2)=false by simp;omega] at h;exact h
theorem hJ{w:World}{a:Option Addr}{b off n:Nat}{X:Nat->Nat}(h:ag w a b off n X)(hn:0<n):a=jp b off:=(h 0 hn).1
theorem kC{X:Nat->Nat}{n:Nat}(hn:n<=2)(h:∀j,j<n->X j<4294967296):lv X n<18446744073709551616:=by
 have h1:=fy X n h;have h2:2^(32*n)<=2^64:=Nat.pow_le_pow_right om om;omega
end Go.Proofs.YtclgkofcooibfaaGreatDoor
