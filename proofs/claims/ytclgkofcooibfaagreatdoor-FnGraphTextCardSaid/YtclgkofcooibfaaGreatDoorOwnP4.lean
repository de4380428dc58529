import Derived.Test.YtclgkofcooibfaaGreatDoorChecked
import Derived.Test.YtclgkofcooibfaaGreatDoorOwnP1
import Derived.WalkKit
import Derived.Deep.OwnRows
import Derived.Deep.Light
import Derived.BigQuiet
set_option maxHeartbeats 6400000
set_option maxRecDepth 100000
namespace Go
theorem World.Since.tr{B:Nat}{w w' w'':World}(h:w.Since B w')(k:w'.Since w'.heap.size w'')(e:B<=w'.heap.size:=by first|exact World.Since.size ‹_›|omega):w.Since B w'':=h.trans ⟨k.os,k.tape,k.output,k.size,fun j hj=>k.block j (Nat.lt_of_lt_of_le hj e)⟩
end Go
namespace Go
abbrev Value.i(x:Int):Value:=.int .i64 x
abbrev jj(b o:Nat):Addr:=⟨b,o,none⟩
abbrev jp(b o:Nat):Option Addr:=some ⟨b,o,none⟩
abbrev Value.s(b n c:Nat):Value:=.slice (some ⟨b,0,none⟩) n c
abbrev jh(w:World)(o:Nat):Addr:=⟨w.heap.size,o,none⟩
abbrev Value.p(b o:Nat):Value:=.pointer (some ⟨b,o,none⟩)
abbrev Value.n:Value:=.slice none 0 0
abbrev World.S(w v:World):Prop:=w.Since w.heap.size v
end Go
namespace Go.Proofs.YtclgkofcooibfaaGreatDoor
open Go.RowKit
theorem kr {p:Prop}(h:p:=by kernel_rfl):p:=h
theorem sM{B B':Nat}{w w':World}(h:w.Since B w')(hB:B'<=B):w.Since B' w':=⟨h.os,h.tape,h.output,h.size,fun k hk=>h.block k (Nat.lt_of_lt_of_le hk hB)⟩
theorem bJ(w:World)(o:Obj):w.Since w.heap.size (w.alloc o):=(World.Since.refl _ _).alloc (Nat.le_refl _) _
theorem sT(w:World):w.Since w.heap.size w.drew:=(World.Since.refl _ _).drew
theorem fJ{w:World}{a b:Addr}{v:Value}(h:a≠b:=by simp):(w.setCell a v).cell? b=w.cell? b:=World.cell?_setCell_other _ _ _ _ h
abbrev fa:=@World.cell?_of_block
abbrev gz:=@World.block_lt_of_cell?
abbrev eg:=@World.Since.refl
abbrev j6:=@World.cell?_setCell_same
abbrev wW:=@World.frozen?_of_block
abbrev pv:=@World.ownsRow_made
abbrev Cl:=Calls Tryz.prog
end Go.Proofs.YtclgkofcooibfaaGreatDoor
namespace Go.Proofs.YtclgkofcooibfaaGreatDoor
open Go.RowKit
theorem Tryz.info129:(Tryz.prog.info? 129).map (fun i=>(i.zero,i.size,i.bytes))=some (some (.int .u32 0),1,4):=by kernel_rfl
theorem Tryz.info4:(Tryz.prog.info? 4).map (fun i=>(i.zero,i.size,i.bytes))=some (some (.bool false),1,1):=by kernel_rfl
theorem ae{p:Prop}(h:p):Hid p:=h
theorem di{k:IntKind}{a b:Int}(h:a=b):Ending.returned (.int k a)=.returned (.int k b):=by rw[h]
def ag(w:World)(a:Option Addr)(b off n:Nat)(X:Nat->Nat):Prop:=
 ∀j,j<n->a=some ⟨b,off,none⟩/\w.cell? ⟨b,off+j,none⟩=some (.int .u32 (X j))
def dz(w:World)(a:Option Addr)(b off n:Nat)(B:Nat->Bool):Prop:=
 ∀j,j<n->a=some ⟨b,off,none⟩/\w.cell? ⟨b,off+j,none⟩=some (.bool (B j))
structure Same(w w':World):Prop where
 os:w'.os=w.os
 tape:w'.tape=w.tape
 output:w'.output=w.output
 heap:w'.heap=w.heap
theorem Same.refl(w:World):Same w w:=⟨rfl,rfl,rfl,rfl⟩
theorem Same.drewN{w w':World}(h:Same w w')(n:Nat):Same w (w'.drewN n):=⟨h.os,h.tape,h.output,h.heap⟩
theorem Same.cell{w w':World}(h:Same w w')(a:Addr):w'.cell? a=w.cell? a:=by simp[World.cell?,h.heap]
theorem Same.frozen{w w':World}(h:Same w w')(a:Addr):w'.frozen? a=w.frozen? a:=by simp[World.frozen?,h.heap]
theorem Same.size{w w':World}(h:Same w w'):w'.heap.size=w.heap.size:=by rw[h.heap]
theorem Same.since{w w':World}(h:Same w w')(B:Nat):w.Since B w':=⟨h.os,h.tape,h.output,by rw[h.heap];exact Nat.le_refl _,fun k _=>by rw[h.heap]⟩
def Shape(w:World)(b:Nat)(t:TypeId)(n:Nat):Prop:=∃cur:Array Value,w.heap[b]?=some (.cells cur t)/\cur.size=n
theorem Shape.setCell{w:World}{b:Nat}{t:TypeId}{n:Nat}(h:Shape w b t n)(c o:Nat)(v:Value):Shape (w.setCell ⟨c,o,none⟩ v) b t n:=by
 obtain⟨cur,h1,h2⟩:=h
 by_cases e:c=b
 . subst e
   have r:w.rowIs c t n (fun j=>cur[j]?.getD (.bool false)):=⟨cur,h1,h2,fun j hj=>by show cur[j]?=some (cur[j]?.getD (.bool false));rw[Array.getElem?_eq_getElem om];rfl⟩;obtain⟨c2,k1,k2,-⟩:=r.set o v;exact⟨c2,k1,k2⟩
 . exact⟨cur,(Below.heap_setCell _ _ _ _ (Ne.symm e)).trans h1,h2⟩
theorem Shape.since{w w':World}{b B:Nat}{t:TypeId}{n:Nat}(h:Shape w b t n)(s:w.Since B w')(hb:b<B):Shape w' b t n:=by
 obtain⟨cur,h1,h2⟩:=h;exact⟨cur,(s.block b hb).trans h1,h2⟩
theorem Shape.of_block{w w':World}{b:Nat}{t:TypeId}{n:Nat}(h:Shape w b t n)(e:w'.heap[b]?=w.heap[b]?):Shape w' b t n:=by
 obtain⟨cur,h1,h2⟩:=h;exact⟨cur,e.trans h1,h2⟩
theorem Shape.lt{w:World}{b:Nat}{t:TypeId}{n:Nat}(h:Shape w b t n):b<w.heap.size:=by
 obtain⟨cur,h1,-⟩:=h;exact (Array.getElem?_eq_some_iff.1 h1).1
structure af(w w':World)(b:Nat):Prop where
 os:w'.os=w.os
 tape:w'.tape=w.tape
 output:w'.output=w.output
 size:w'.heap.size=w.heap.size
 other:∀k,k≠b->w'.heap[k]?=w.heap[k]?
 frozen:∀o,w'.frozen? ⟨b,o,none⟩=w.frozen? ⟨b,o,none⟩
 shape:∀t n,Shape w b t n->Shape w' b t n
theorem af.refl(w:World)(b:Nat):af w w b:=⟨rfl,rfl,rfl,rfl,fun _ _=>rfl,fun _=>rfl,fun _ _ h=>h⟩
theorem af.setCell{w w':World}{b:Nat}(h:af w w' b)(o:Nat)(v:Value):af w (w'.setCell ⟨b,o,none⟩ v) b:=
 ⟨h.os,h.tape,h.output,by rw[<-h.size];simp[World.setCell],fun k hk=>by rw[<-h.other k hk];exact Below.heap_setCell _ _ _ _ hk,fun o'=>by rw[<-h.frozen o'];simp,fun t n k=>(h.shape t n k).setCell _ _ _⟩
theorem af.since{w w':World}{b B:Nat}(h:af w w' b)(hB:B<=b):w.Since B w':=
 ⟨h.os,h.tape,h.output,by rw[h.size];exact Nat.le_refl _,fun k hk=>h.other k om⟩
theorem af.cell{w w':World}{b:Nat}(h:af w w' b){a:Addr}(hne:a.block≠b):w'.cell? a=w.cell? a:=fa (w:=w) (h.other _ hne)
theorem af.aQ{w w':World}{b:Nat}(h:af w w' b){a:Addr}(hne:a.block≠b):w'.frozen? a=w.frozen? a:=wW (w:=w) (h.other _ hne)
section
variable{w w':World}{a:Option Addr}{b off n m B:Nat}{X Y:Nat->Nat}{T:Nat->Bool}
theorem ag.lt(h:ag w a b off n X)(hn:0<n):b<w.heap.size:=gz _ _ (h 0 hn).2
theorem dz.lt(h:dz w a b off n T)(hn:0<n):b<w.heap.size:=gz _ _ (h 0 hn).2
theorem ag.since(h:ag w a b off n X)(hs:w.Since B w')(hb:0<n->b<B):ag w' a b off n X:=
 fun j hj=>⟨(h j hj).1,by rw[hs.cell (a:=jj b (off+j)) (hb om)];exact (h j hj).2⟩
theorem ag.aA(h:ag w a b off n X)(hs:w.S w'):ag w' a b off n X:=h.since hs h.lt
theorem dz.since(h:dz w a b off n T)(hs:w.Since B w')(hb:0<n->b<B):dz w' a b off n T:=
 fun j hj=>⟨(h j hj).1,by rw[hs.cell (a:=jj b (off+j)) (hb om)];exact (h j hj).2⟩
theorem dz.aA(h:dz w a b off n T)(hs:w.S w'):dz w' a b off n T:=h.since hs h.lt
theorem ag.same(h:ag w a b off n X)(hs:Same w w'):ag w' a b off n X:=
 fun j hj=>⟨(h j hj).1,by rw[hs.cell];exact (h j hj).2⟩
theorem dz.same(h:dz w a b off n T)(hs:Same w w'):dz w' a b off n T:=
 fun j hj=>⟨(h j hj).1,by rw[hs.cell];exact (h j hj).2⟩
theorem ag.marked{c:Nat}(h:ag w a b off n X)(hs:af w w' c)(hne:0<n->b≠c):ag w' a b off n X:=
 fun j hj=>⟨(h j hj).1,by rw[hs.cell (a:=jj b (off+j)) (hne om)];exact (h j hj).2⟩
theorem ag.take(h:ag w a b off n X)(hm:m<=n):ag w a b off m X:=fun j hj=>h j om
theorem dz.take(h:dz w a b off n T)(hm:m<=n):dz w a b off m T:=fun j hj=>h j om
theorem ag.congr(h:ag w a b off n X)(e:∀j,j<n->X j=Y j):ag w a b off n Y:=fun j hj=>by rw[<-e j hj];exact h j hj
theorem dT(h:w.rowIs b 129 n (fun j=>.int .u32 (X j))):ag w (jp b 0) b 0 n X:=
 fun j hj=>⟨rfl,by rw[Nat.zero_add];exact h.cell hj⟩
theorem q9(h:w.rowIs b 4 n (fun j=>.bool (T j))):dz w (jp b 0) b 0 n T:=
 fun j hj=>⟨rfl,by rw[Nat.zero_add];exact h.cell hj⟩
end
theorem oZ{P:Nat->Bool}{k:Nat}(h0:0<k)(h:P (k-1)=false):ce P (k-1)=ce P k:=by
 obtain⟨m,rfl⟩:∃m,k=m+1:=⟨k-1,om⟩;simp only[Nat.add_sub_cancel] at*
 simp[ce,h]
theorem qN{P:Nat->Bool}{k:Nat}(h0:0<k)(h:P (k-1)=true):ce P k=k:=by
 obtain⟨m,rfl⟩:∃m,k=m+1:=⟨k-1,om⟩;simp only[Nat.add_sub_cancel] at*
 simp[ce,h]
theorem wF{a:Option Addr}{n m cap:Nat}(h:n=m):Ending.returned (.slice a n cap)=.returned (.slice a m cap):=by rw[h]
theorem fS{a:Option Addr}{b off n cap:Nat}{B:Nat->Bool}{w:World}(hn:n<=281474976710656)(hnc:n<=cap)(hX:dz w a b off n B):
 Cl 125 #[.slice a n cap] w fun e w'=>e=.returned (.slice a (ce B n) cap)/\w'=w:=by
 go_enter Tryz.func125,Tryz.ntmps125;go_wp2
 go_loop [3] (fun i=>∃k:Nat,k<=n/\i=.i k/\ce B k=ce B n) (fun i=>(intOf i).toNat)
 case atStart=>exact⟨n,Nat.le_refl _,rfl,rfl⟩
 case round=>
  obtain⟨k,hk,rfl,ht⟩:=hrel;have HT:Hid (ce B k=ce B n):=ht
  by_cases hlt:0<k
  . obtain⟨rfl,hc⟩:=hX (k-1) om
    cases hB:B (k-1)
    . rw[hB] at hc
      have HB:Hid (B (k-1)=false):=hB;go_wp2
      go_round
      case rel=>exact⟨k-1,om,by go_num,(oZ hlt HB.out).trans HT.out⟩
      case measure=>simp[intOf];omega
    . rw[hB] at hc
      have HB:Hid (B (k-1)=true):=hB;go_wp2;go_ret;exact⟨wF ((qN hlt HB.out).symm.trans HT.out),rfl⟩
  . have e:k=0:=om
    subst e;go_wp2;go_ret;exact⟨wF HT.out,rfl⟩
theorem yO{c:Nat}{a:Option Addr}{b off n cap:Nat}{X:Nat->Nat}{w:World}(hn:n<=281474976710656)(hnc:n<=cap)
 (hc0:w.cell? (jj c 0)=some (.slice a n cap))(hf0:w.frozen? (jj c 0)=false)(hX:ag w a b off n X):
 Cl 155 #[.p c 0] w fun e w'=>e=.returned (.tuple #[])/\w'=w.setCell ⟨c,0,none⟩ (.slice a (ce (nz X) n) cap):=by
 go_enter Tryz.func155,Tryz.ntmps155;go_wp2
 go_loop [2] (fun i=>∃k:Nat,k<=n/\i=.i k/\ce (nz X) k=ce (nz X) n) (fun i=>(intOf i).toNat)
 case atStart=>exact⟨n,Nat.le_refl _,rfl,rfl⟩
 case round=>
  obtain⟨k,hk,rfl,ht⟩:=hrel;have HT:Hid (ce (nz X) k=ce (nz X) n):=ht
  by_cases hlt:0<k
  . obtain⟨rfl,hc⟩:=hX (k-1) om
    by_cases hB:X (k-1)=0
    . rw[hB] at hc
      have HB:Hid (nz X (k-1)=false):=by simp[Hid,nz,hB]
      go_wp2
      go_round
      case rel=>exact⟨k-1,om,by go_num,(oZ hlt HB.out).trans HT.out⟩
      case measure=>simp[intOf];omega
    . have HB:Hid (nz X (k-1)=true):=by simp[Hid,nz,hB]
      have hne:((X (k-1):Int)==0)=false:=by simp;omega
      go_wp2
      go_end0
      exact⟨rfl,by rw[<-HT.out,qN hlt HB.out]⟩
  . have e:k=0:=om
    subst e;go_wp2
    go_end0
    exact⟨rfl,by rw[<-HT.out];rfl⟩
theorem jt{a:Option Addr}{b off n cap:Nat}{X:Nat->Nat}{w:World}(hn:n<=281474976710656)(hnc:n<=cap)(hX:ag w a b off n X):
 Cl 115 #[.slice a n cap] w fun e w'=>e=.returned (.slice a (ce (nz X) n) cap)/\w.S w':=by
 go_enter Tryz.func115,Tryz.ntmps115;go_wp2_with fail;refine (yO hn hnc (by simp[go_sem]) (by simp[go_sem]) (hX.aA ((eg _ _).alloc (Nat.le_refl _) _))).mono ?_;rintro e w1 ⟨rfl,rfl⟩;go_wp2;go_ret;exact⟨rfl,bJ _ _⟩
theorem eK{c o:Nat}{a:Option Addr}{b off n cap:Nat}{X:Nat->Nat}{w:World}(hn:n<=281474976710656)(hnc:n<=cap)
 (hc0:w.cell? (jj c o)=some (.slice a n cap))(hf0:w.frozen? (jj c o)=false)(hX:ag w a b off n X):
 Cl 155 #[.p c o] w fun e w'=>e=.returned (.tuple #[])/\w'=w.setCell ⟨c,o,none⟩ (.slice a (ce (nz X) n) cap):=by
 go_enter Tryz.func155,Tryz.ntmps155;go_wp2
 go_loop [2] (fun i=>∃k:Nat,k<=n/\i=.i k/\ce (nz X) k=ce (nz X) n) (fun i=>(intOf i).toNat)
 case atStart=>exact⟨n,Nat.le_refl _,rfl,rfl⟩
 case round=>
  obtain⟨k,hk,rfl,ht⟩:=hrel;have HT:Hid (ce (nz X) k=ce (nz X) n):=ht
  by_cases hlt:0<k
  . obtain⟨rfl,hc⟩:=hX (k-1) om
    by_cases hB:X (k-1)=0
    . rw[hB] at hc
      have HB:Hid (nz X (k-1)=false):=by simp[Hid,nz,hB]
      go_wp2
      go_round
      case rel=>exact⟨k-1,om,by go_num,(oZ hlt HB.out).trans HT.out⟩
      case measure=>simp[intOf];omega
    . have HB:Hid (nz X (k-1)=true):=by simp[Hid,nz,hB]
      have hne:((X (k-1):Int)==0)=false:=by simp;omega
      go_wp2
      go_end0
      exact⟨rfl,by rw[<-HT.out,qN hlt HB.out]⟩
  . have e:k=0:=om
    subst e;go_wp2
    go_end0
    exact⟨rfl,by rw[<-HT.out];rfl⟩
theorem ic{c o:Nat}{a:Option Addr}{n cap:Nat}{w:World}(hc0:w.cell? (jj c o)=some (.slice a n cap)):
 Cl 116 #[.p c o] w fun e w'=>e=.returned (.bool ((n:Int)==0))/\w'=w:=by
 go_enter Tryz.func116,Tryz.ntmps116;go_wp2;go_ret;exact⟨rfl,rfl⟩
theorem adA{x y:Int}{w:World}(h:x<y):Cl 191 #[.i x,.i y] w fun e w'=>e=.returned (.i (-1))/\w'=w:=by
 go_enter Tryz.func191,Tryz.ntmps191;go_wp2;go_ret;exact⟨rfl,rfl⟩
theorem adB{x y:Int}{w:World}(h:y<x):Cl 191 #[.i x,.i y] w fun e w'=>e=.returned (.i 1)/\w'=w:=by
 go_enter Tryz.func191,Tryz.ntmps191;go_wp2;go_ret;exact⟨rfl,rfl⟩
theorem abF{x y:Int}{w:World}(h:x<y):Cl 192 #[.int .u32 x,.int .u32 y] w fun e w'=>e=.returned (.i (-1))/\w'=w:=by
 go_enter Tryz.func192,Tryz.ntmps192;go_wp2;go_ret;exact⟨rfl,rfl⟩
theorem abG{x y:Int}{w:World}(h:y<x):Cl 192 #[.int .u32 x,.int .u32 y] w fun e w'=>e=.returned (.i 1)/\w'=w:=by
 go_enter Tryz.func192,Tryz.ntmps192;go_wp2;go_ret;exact⟨rfl,rfl⟩
theorem iv{c o:Nat}{a a':Option Addr}{b off n cap b' off' m cap':Nat}{A B:Nat->Nat}{w:World}(hn:n<=281474976710656)(hm:m<=281474976710656)(hc0:w.cell? (jj c o)=some (.slice a n cap))
 (hA:ag w a b off n A)(hB:ag w a' b' off' m B)(lA:∀j,j<n->A j<4294967296)(lB:∀j,j<m->B j<4294967296)(tA:0<n->A (n-1)≠0)(tB:0<m->B (m-1)≠0):
 Cl 169 #[.p c o,.slice a' m cap'] w fun e w'=>e=.returned (.i (fd (lv A n) (lv B m)))/\Same w w':=by
 by_cases h1:n<m
 . rw[lD (mB lA h1 tB)]
   go_enter Tryz.func169,Tryz.ntmps169;go_wp2_with fail;refine (adA om).mono ?_;rintro e w1 ⟨rfl,rfl⟩;go_wp2;go_ret;exact⟨rfl,Same.refl _⟩
 by_cases h2:m<n
 . rw[qw (mB lB h2 tA)]
   go_enter Tryz.func169,Tryz.ntmps169;go_wp2_with fail;refine (adB om).mono ?_;rintro e w1 ⟨rfl,rfl⟩;go_wp2;go_ret;exact⟨rfl,Same.refl _⟩
 have e:m=n:=om
 subst e;have HA:=ae lA;have HB:=ae lB;go_enter Tryz.func169,Tryz.ntmps169;go_wp2
 go_loopw [5] (fun t wr=>∃(k:Nat) (z:Int),k<=m/\t=.i z/\Hid (z=k-1)/\Same w wr/\Hid (∀j,k<=j->j<m->A j=B j)) (fun t _=>(intOf t+1).toNat)
 case atStart=>exact⟨m,(m:Int)-1,Nat.le_refl _,rfl,rfl,Same.refl _,fun j h1 h2=>absurd h2 om⟩
 case round=>
  obtain⟨k,z,hk,rfl,HZ,hs,HE⟩:=hrel
  by_cases hz:0<=z
  . obtain⟨i,rfl⟩:=Int.eq_ofNat_of_zero_le hz
    have hki:k=i+1:=by have:=HZ.out;omega
    subst hki;obtain⟨rfl,hc⟩:=hA i om;obtain⟨rfl,hc'⟩:=hB i om;have g0:wr.cell? (jj b (off+i))=some (.int .u32 (A i)):=by rw[hs.cell];exact hc
    have g1:wr.cell? (jj b' (off'+i))=some (.int .u32 (B i)):=by rw[hs.cell];exact hc'
    have g2:wr.cell? (jj c o)=some (.slice (jp b off) m cap):=by rw[hs.cell];exact hc0
    have hzi:(i:Int)<m:=om
    by_cases hab:A i=B i
    . have HAB:Hid (A i=B i):=hab
      rw[hab] at g0;go_wp2
      go_quiet (fail)
      go_wp2;go_roundw
      case rel=>
       refine⟨i,(i:Int)-1,om,rfl,rfl,hs.drewN _,fun j h1 h2=> ?_⟩
       by_cases e:j=i
       . subst e;exact HAB.out
       . exact HE.out j om h2
      case measure=>simp[intOf]
    . have hne:((A i:Int)==(B i:Int))=false:=by simp;omega
      by_cases hlt:A i<B i
      . have HC:Hid (fd (lv A m) (lv B m)=-1):=lD (aeB HA.out (i:=i) om (fun j h1 h2=>HE.out j om h2) hlt)
        go_wp2
        go_quiet (fail)
        go_wp2;have hs1:=hs.drewN nq;obtain⟨wq,hwq⟩:∃wq,wq=wr.drewN nq:=⟨_,rfl⟩;have q0:wq.cell? (jj b (off+i))=some (.int .u32 (A i)):=by rw[hwq];exact g0
        have q1:wq.cell? (jj b' (off'+i))=some (.int .u32 (B i)):=by rw[hwq];exact g1
        have q2:wq.cell? (jj c o)=some (.slice (jp b off) m cap):=by rw[hwq];exact g2
        rw[<-hwq] at hs1⊢;clear hwq g0 g1 g2
        go_quiet ((go_at_call 192;exact Calls.quiet_of_same (abF om)))
        go_wp2;go_ret;exact⟨di HC.out.symm,hs1.drewN _⟩
      . have HC:Hid (fd (lv A m) (lv B m)=1):=qw (aeB HB.out (i:=i) om (fun j h1 h2=>(HE.out j om h2).symm) om)
        have hgt:B i<A i:=om
        go_wp2
        go_quiet (fail)
        go_wp2;have hs1:=hs.drewN nq;obtain⟨wq,hwq⟩:∃wq,wq=wr.drewN nq:=⟨_,rfl⟩;have q0:wq.cell? (jj b (off+i))=some (.int .u32 (A i)):=by rw[hwq];exact g0
        have q1:wq.cell? (jj b' (off'+i))=some (.int .u32 (B i)):=by rw[hwq];exact g1
        have q2:wq.cell? (jj c o)=some (.slice (jp b off) m cap):=by rw[hwq];exact g2
        rw[<-hwq] at hs1⊢;clear hwq g0 g1 g2
        go_quiet ((go_at_call 192;exact Calls.quiet_of_same (abG om)))
        go_wp2;go_ret;exact⟨di HC.out.symm,hs1.drewN _⟩
  . have hk0:k=0:=by have:=HZ.out;omega
    subst hk0;have HC:Hid (fd (lv A m) (lv B m)=0):=yj (dD (fun j hj=>HE.out j om hj));go_wp2;go_ret;exact⟨di HC.out.symm,hs⟩
def bl(B:Nat->Bool)(m:Nat):List Value:=(List.range m).map fun j=>.bool (B j)
theorem jJ(B:Nat->Bool)(m:Nat):(bl B m).length=m:=by simp[bl]
theorem yx(B:Nat->Bool)(m:Nat):bl B (m+1)=bl B m++[.bool (B m)]:=by simp[bl,List.range_succ]
theorem lF(B:Nat->Bool)(m j:Nat)(h:j<m):(bl B m)[j]?=some (.bool (B j)):=by simp[bl,h]
def ll(X:Nat->Nat)(m:Nat):List Value:=(List.range m).map fun j=>.int .u32 (X j)
theorem mC(X:Nat->Nat)(m:Nat):(ll X m).length=m:=by simp[ll]
theorem jV(X:Nat->Nat)(m:Nat):ll X (m+1)=ll X m++[.int .u32 (X m)]:=by simp[ll,List.range_succ]
theorem mD(X:Nat->Nat)(m j:Nat)(h:j<m):(ll X m)[j]?=some (.int .u32 (X j)):=by simp[ll,h]
theorem zv{w:World}{base:Nat}{v:Value}{m:Nat}{B:Nat->Bool}(h:w.ownsRow base 4 1 v m (bl B m)):
 ∃a g cap,v=.slice a m cap/\m<=cap/\(0<m->base<=g)/\dz w a g 0 m B:=by
 have hc:= @World.ownsRow.cells _ _ _ _ _ _ _ h
 rcases h.2 with ⟨rfl,rfl⟩ | ⟨g,cap,cur,rfl,hb,hg,hm,_⟩
 . exact⟨none,0,0,rfl,Nat.le_refl _,fun h=>absurd h om,fun j hj=>absurd hj om⟩
 . refine⟨_,g,cap,rfl,hm,fun _=>hb,fun j hj=>⟨rfl, ?_⟩⟩
   have:=hc (g:=g) rfl j _ (lF B m j hj);rw[Addr.add_lit] at this;exact this
theorem aig{w:World}{base:Nat}{v:Value}{m:Nat}{X:Nat->Nat}(h:w.ownsRow base 129 1 v m (ll X m)):
 ∃a g cap,v=.slice a m cap/\m<=cap/\(0<m->base<=g)/\ag w a g 0 m X/\(0<m->∀o,w.frozen? (jj g o)=false):=by
 have hc:= @World.ownsRow.cells _ _ _ _ _ _ _ h
 rcases h.2 with ⟨rfl,rfl⟩ | ⟨g,cap,cur,rfl,hb,hg,hm,_⟩
 . exact⟨none,0,0,rfl,Nat.le_refl _,fun h=>absurd h om,fun j hj=>absurd hj om,fun h=>absurd h om⟩
 . refine⟨_,g,cap,rfl,hm,fun _=>hb,fun j hj=>⟨rfl, ?_⟩,fun _ o=>by simp[World.frozen?,hg]⟩
   have:=hc (g:=g) rfl j _ (mD X m j hj);rw[Addr.add_lit] at this;exact this
theorem aia(X:Nat->Nat)(i k q:Nat)(hk:k<32)(hq:q=X i/2^k):((q:Int) % 2==1)=bitsOf X (32*i+k):=by
 have d1:(32*i+k)/32=i:=om
 have d2:(32*i+k) % 32=k:=om
 unfold bitsOf;rw[d1,d2,<-hq,Bool.eq_iff_iff];simp only[beq_iff_eq];omega
theorem ag3(X:Nat->Nat)(i k q:Nat)(hq:q=X i/2^k):q/2=X i/2^(k+1):=by
 rw[hq,Nat.div_div_eq_div_mul,Nat.pow_succ]
theorem cO{a:Option Addr}{b off n cap:Nat}{X:Nat->Nat}{w:World}(hn:n<=67108864)(hX:ag w a b off n X)(hXl:∀j,j<n->X j<4294967296):
 Cl 75 #[.slice a n cap] w fun e w'=>∃a' g m cap' B,e=.returned (.slice a' m cap')/\m<=cap'/\m<=32*n/\dz w' a' g 0 m B/\(0<m->w.heap.size<=g)/\
  (0<m->B (m-1)=true)/\bv B m=lv X n/\w.S w':=by
 obtain⟨i0,hi,hz0,hz1,hz2⟩:=info_parts Tryz.info4;go_enter Tryz.func75,Tryz.ntmps75;go_wp2
 go_loopw [3,4] (fun v q wr=>∃i:Nat,i<=n/\q=.i i/\wr.ownsRow w.heap.size 4 1 v (32*i) (bl (bitsOf X) (32*i))/\w.S wr) (fun _ i _=>n-(intOf i).toNat)
 case atStart=>
  exact⟨0,Nat.zero_le _,rfl,pv w #[] 0 (Nat.le_refl _) qd rfl,bJ _ _⟩
 case round=>
  obtain⟨i,hin,rfl,hown,hs⟩:=hrel
  by_cases hlt:i<n
  . obtain⟨rfl,hc⟩:=hX i hlt
    have g0:wr.cell? (jj b (off+i))=some (.int .u32 (X i)):=by rw[hs.cell (a:=jj b (off+i)) (hX.lt om)];exact hc
    have hxi:=hXl i hlt;go_wp2
    go_loopw [3,5,6] (fun v x t wr'=>∃k q:Nat,k<=32/\t=.i k/\x=.int .u32 q/\q=X i/2^k/\q<4294967296/\wr'.ownsRow w.heap.size 4 1 v (32*i+k) (bl (bitsOf X) (32*i+k))/\w.S wr') (fun _ _ t _=>32-(intOf t).toNat)
    case atStart=>exact⟨0,X i,om,rfl,rfl,qz,hxi,hown,hs⟩
    case round=>
     obtain⟨k,q,hk,rfl,rfl,hq,hql,hown,hs⟩:=hrel;have HQ:Hid (q=X i/2^k):=hq;clear hq
     by_cases hk2:k<32
     . go_wp2_with (at_builtin;refine wpList_append_own _ rfl _ _ 125 rfl w.heap.size 4 i0 (.bool false) 1 1 Tryz.underlying125 hi hz0 hz1 hz2 rfl qd _ _ _ rfl (hown.alloc _) (jh wr 0) 1 1 [.bool ((q:Int) % 2==1)] rfl rfl ?c1 ?c2 ?c3 ?c4 ?c5 ?_)
       case c1=>
        intro j u hj
        match j,hj with
        | 0,hj=>simp at hj;subst hj;simp[Addr.add]
       case c2=>intro u hu;simp at hu;subst hu;rfl
       case c3=>unfold maxLen;omega
       case c4=>omega
       case c5=>have:=hs.size;simp;omega
       intro v' w1 hown' hgrow _;have hs1:=(hs.alloc hs.size _).grown hgrow (by have:=hs.size;simp;omega) (fun k hk=>(hown.lt k hk).1);rw[aia X i k q hk2 HQ.out,<-yx] at hown';go_wp2;go_roundw
       case rel=>exact⟨k+1,q/2,om,by go_num,by go_num,ag3 X i k q HQ.out,om,hown',hs1⟩
       case measure=>simp[intOf];omega
     . have e:k=32:=om
       subst e;go_wp2;go_roundw
       case rel=>exact⟨i+1,om,by go_num,hown,hs⟩
       case measure=>simp[intOf];omega
  . have e:i=n:=om
    subst e;obtain⟨a',g,cap',rfl,hmc,hg,hB⟩:=zv hown;go_wp2_with fail;refine (fS om hmc hB).mono ?_;rintro e w1 ⟨rfl,rfl⟩;go_wp2;go_ret;have htl:=co (bitsOf X) (32*i);exact⟨a',g,_,cap',bitsOf X,rfl,om,htl,hB.take htl,fun h=>hg om,fun h=>cI _ _ h,(jZ _ _).trans (aa4 X i hXl),hs⟩
theorem gI{w:World}{base:Nat}{v:Value}{m:Nat}{B:Nat->Bool}(h:w.ownsRow base 4 1 v m (bl B m))(hv:v≠ .n):
 ∃g cap,v=.s g m cap/\m<=cap/\base<=g/\dz w (jp g 0) g 0 m B:=by
 have hc:= @World.ownsRow.cells _ _ _ _ _ _ _ h
 rcases h.2 with ⟨rfl,rfl⟩ | ⟨g,cap,cur,rfl,hb,hg,hm,_⟩
 . exact absurd rfl hv
 . refine⟨g,cap,rfl,hm,hb,fun j hj=>⟨rfl, ?_⟩⟩
   have:=hc (g:=g) rfl j _ (lF B m j hj);rw[Addr.add_lit] at this;exact this
theorem afD{B C:Nat->Bool}{m:Nat}(h:∀j,j<m->B j=C j):bl B m=bl C m:=by
 unfold bl;exact List.map_congr_left (fun j hj=>by rw[h j (List.mem_range.1 hj)])
theorem rG(D:Nat->Bool)(i:Nat)(v:Bool):bl (fX D i v) (i+1)=bl D i++[.bool v]:=by
 rw[yx,bK,afD (fun j hj=>az D i v j om)]
theorem bO(w:World)(x:Value)(t:TypeId):∀j u,[x][j]?=some u->(w.alloc (.cells #[x] t)).cell? (((jj w.heap.size 0):Addr).add j)=some u:=by
 intro j u hj
 match j,hj with
 | 0,hj=>simp at hj;subst hj;simp[Addr.add]
theorem bZ(x:Value)(h:x.oneCell'=true):∀u∈[x],u.oneCell'=true:=by
 intro u hu;simp at hu;subst hu;exact h
theorem aci(x y c:Bool):(!(!x==y)==c)=((x != y) != c):=by cases x<;>cases y<;>cases c<;>rfl
theorem acj(x c:Bool):(!(x==c))=((x != false) != c):=by cases x<;>cases c<;>rfl
theorem gO{a a':Option Addr}{b off n cap b' off' m cap':Nat}{A B:Nat->Bool}{w:World}(hn:n<=4294967296)(hm:m<=n)(hA:dz w a b off n A)(hB:dz w a' b' off' m B)(hle:bv B m<=bv A n):
 Cl 143 #[.slice a n cap,.slice a' m cap'] w fun e w'=>∃g t cap'' D,e=.returned (.s g t cap'')/\t<=cap''/\t<=n/\dz w' (jp g 0) g 0 t D/\w.heap.size<=g/\
  (0<t->D (t-1)=true)/\bv D t=bv A n-bv B m/\w.S w':=by
 obtain⟨i0,hi,hz0,hz1,hz2⟩:=info_parts Tryz.info4;have HL:Hid (bv B m<=bv A n):=hle;go_enter Tryz.func143,Tryz.ntmps143;go_wp2
 go_loopw [5,6,7] (fun v c t wr=>∃(i:Nat) (cb:Bool) (D:Nat->Bool),i<=n/\t=.i i/\c=.bool cb/\Hid (v≠ .n)/\wr.ownsRow w.heap.size 4 1 v i (bl D i)/\w.S wr/\Hid (rJ D A B m i cb)) (fun _ _ t _=>n-(intOf t).toNat)
 case atStart=>exact⟨0,false,fun _=>false,Nat.zero_le _,rfl,rfl,ae qz,pv w #[] 0 (Nat.le_refl _) qd rfl,bJ _ _,ae rfl⟩
 case round=>
  obtain⟨i,cb,D,hin,rfl,rfl,HN,hown,hs,HR⟩:=hrel
  by_cases hlt:i<n
  . obtain⟨rfl,hc⟩:=hA i hlt
    have g0:wr.cell? (jj b (off+i))=some (.bool (A i)):=by rw[hs.cell (a:=jj b (off+i)) (hA.lt om)];exact hc
    obtain⟨x,hx⟩:∃x,x=A i:=⟨_,rfl⟩;rw[<-hx] at g0;have HX:Hid (A i=x):=hx.symm;clear hx
    by_cases him:i<m
    . obtain⟨rfl,hc⟩:=hB i him
      have g1:wr.cell? (jj b' (off'+i))=some (.bool (B i)):=by rw[hs.cell (a:=jj b' (off'+i)) (hB.lt om)];exact hc
      obtain⟨y,hy⟩:∃y,y=B i:=⟨_,rfl⟩;rw[<-hy] at g1;have HY:Hid (ext B m i=y):=by simp[Hid,ext,him,hy]
      clear hc hy;have HS:=ae (rU HR.out HX.out HY.out)
      go_wp2_with (at_builtin;refine wpList_append_own _ rfl _ _ 125 rfl w.heap.size 4 i0 (.bool false) 1 1 Tryz.underlying125 hi hz0 hz1 hz2 rfl qd _ _ _ rfl (hown.alloc _) (jh wr 0) 1 1 [.bool _] rfl rfl (bO _ _ _) (bZ _ rfl) (by unfold maxLen;omega) om (by have:=hs.size;simp;omega) ?_)
      intro v' w1 hown' hgrow hnn;have hs1:=(hs.alloc hs.size _).grown hgrow (by have:=hs.size;simp;omega) (fun k hk=>(hown.lt k hk).1);have HN':=ae hnn;rw[aci x y cb,<-rG] at hown';cases x<;>cases y<;>cases cb
      all_goals
       go_wp2;go_roundw
       case rel=>exact⟨i+1,_,_,om,by go_num,rfl,HN',hown',hs1,HS⟩
       case measure=>simp[intOf];omega
    . have HY:Hid (ext B m i=false):=by simp[Hid,ext,him]
      have HS:=ae (rU HR.out HX.out HY.out)
      go_wp2_with (at_builtin;refine wpList_append_own _ rfl _ _ 125 rfl w.heap.size 4 i0 (.bool false) 1 1 Tryz.underlying125 hi hz0 hz1 hz2 rfl qd _ _ _ rfl (hown.alloc _) (jh wr 0) 1 1 [.bool _] rfl rfl (bO _ _ _) (bZ _ rfl) (by unfold maxLen;omega) om (by have:=hs.size;simp;omega) ?_)
      intro v' w1 hown' hgrow hnn;have hs1:=(hs.alloc hs.size _).grown hgrow (by have:=hs.size;simp;omega) (fun k hk=>(hown.lt k hk).1);have HN':=ae hnn;rw[acj x cb,<-rG] at hown';cases x<;>cases cb
      all_goals
       go_wp2;go_roundw
       case rel=>exact⟨i+1,_,_,om,by go_num,rfl,HN',hown',hs1,HS⟩
       case measure=>simp[intOf];omega
  . have e:i=n:=om
    subst e;obtain⟨g,cap',rfl,hmc,hg,hD⟩:=gI hown HN.out;go_wp2_with fail;refine (fS om hmc hD).mono ?_;rintro e w1 ⟨rfl,rfl⟩;go_wp2;go_ret;have htl:=co D i;exact⟨g,_,cap',D,rfl,om,htl,hD.take htl,hg,fun h=>cI _ _ h,(jZ _ _).trans (aaP HR.out hm HL.out),hs⟩
def part(E:Nat->Bool)(s k:Nat):Nat:=bv (fun t=>E (s+k+t)) (32-k)
theorem acX(E:Nat->Bool)(s k:Nat)(hk:k<32):part E s k=2*part E s (k+1)+(E (s+k)).toNat:=by
 unfold part;rw[show 32-k=(32-(k+1))+1 by omega,mV]
 congr 2
 exact fW (fun j _=>by rw[show s+k+(j+1)=s+(k+1)+j by omega])
theorem afY(E:Nat->Bool)(s k:Nat)(hk:0<k):part E s k<2147483648:=by
 have h:=sJ (fun t=>E (s+k+t)) (32-k);have h2:2^(32-k)<=2^31:=Nat.pow_le_pow_right om om;unfold part;omega
theorem aeq(E:Nat->Bool)(q:Nat):part E (32*q) 0=jW E q:=rfl
theorem aep(E:Nat->Bool)(s:Nat):part E s 32=0:=rfl
theorem aga{w:World}{base:Nat}{v:Value}{m:Nat}{X:Nat->Nat}(h:w.ownsRow base 129 1 v m (ll X m))(far:Nat)(hfar:base<=far):
 ∃a g cap,v=.slice a m cap/\m<=cap/\(a=none->cap=0)/\base<=g/\(g=far∨g<w.heap.size)/\(0<m->g<w.heap.size)/\ag w a g 0 m X/\(0<m->∀o,w.frozen? (jj g o)=false):=by
 have hc:= @World.ownsRow.cells _ _ _ _ _ _ _ h
 rcases h.2 with ⟨rfl,rfl⟩ | ⟨g,cap,cur,rfl,hb,hg,hm,_⟩
 . exact⟨none,far,0,rfl,Nat.le_refl _,fun _=>rfl,hfar,Or.inl rfl,fun h=>absurd h om,fun j hj=>absurd hj om,fun h=>absurd h om⟩
 . have hlt:=(Array.getElem?_eq_some_iff.1 hg).1
   refine⟨_,g,cap,rfl,hm,fun h=>(by cases h),hb,Or.inr hlt,fun _=>hlt,fun j hj=>⟨rfl, ?_⟩,fun _ o=>by simp[World.frozen?,hg]⟩;have:=hc (g:=g) rfl j _ (mD X m j hj);rw[Addr.add_lit] at this;exact this
theorem lj{a:Option Addr}{b off n cap:Nat}{B:Nat->Bool}{w:World}(hn:n<=4294967296)(hnc:n<=cap)(hB:dz w a b off n B):
 Cl 138 #[.slice a n cap] w fun e w'=>∃a' g m cap' Y,e=.returned (.slice a' m cap')/\m<=cap'/\(a'=none->cap'=0)/\32*m<n+32/\ag w' a' g 0 m Y/\(0<m->w.heap.size<=g)/\(0<m->∀o,w'.frozen? (jj g o)=false)/\
  (∀j,Y j<4294967296)/\(0<m->Y (m-1)≠0)/\lv Y m=bv B n/\w.S w':=by
 obtain⟨i0,hi,hz0,hz1,hz2⟩:=info_parts Tryz.info129;obtain⟨m,hm⟩:∃m,m=ce B n:=⟨_,rfl⟩;have hmn:m<=n:=by rw[hm];exact co _ _
 have HM:Hid (m=ce B n):=hm;clear hm;obtain⟨E,hE⟩:∃E,E=ext B m:=⟨_,rfl⟩;have HE:Hid (E=ext B m):=hE;clear hE;have hB':=hB.take hmn;go_enter Tryz.func138,Tryz.ntmps138;go_wp2_with fail;refine (fS om hnc hB).mono ?_;rintro e w1 ⟨rfl,rfl⟩;rw[<-HM.out];clear hB;go_wp2
 go_loopw [4,5] (fun v t wr=>∃q:Nat,32*q<m+32/\t=.i ((32*q:Nat):Int)/\wr.ownsRow w1.heap.size 129 1 v q (ll (jW E) q)/\w1.S wr) (fun _ t _=>m+32-(intOf t).toNat)
 case atStart=>exact⟨0,om,rfl,pv w1 #[] 0 (Nat.le_refl _) qd rfl,bJ _ _⟩
 case round=>
  obtain⟨q,hq,rfl,hown,hs⟩:=hrel
  by_cases hlt:32*q<m
  . go_wp2
    go_loop [6,7] (fun v t=>∃(k p:Nat) (z:Int),k<=32/\t=.i z/\v=.int .u32 p/\Hid (z=k-1)/\Hid (p=part E (32*q) k)) (fun _ t=>(intOf t+1).toNat)
    case atStart=>exact⟨32,0,31,om,rfl,rfl,(by decide:(31:Int)=((32:Nat):Int)-1),(aep E (32*q)).symm⟩
    case round=>
     obtain⟨k,p,z,hk,rfl,rfl,HZ,HP⟩:=hrel
     by_cases hz:0<=z
     . obtain⟨k',rfl⟩:=Int.eq_ofNat_of_zero_le hz
       have hkk:k=k'+1:=by have:=HZ.out;omega
       subst hkk;clear HZ;have hp:=afY E (32*q) (k'+1) om;rw[<-HP.out] at hp;have HS:Hid (part E (32*q) k'=2*p+(E (32*q+k')).toNat):=by have:=acX E (32*q) k' om;rw[<-HP.out] at this;exact this
       by_cases hin:32*q+k'<m
       . obtain⟨rfl,hc⟩:=hB' (32*q+k') hin
         have g0:wr.cell? (jj b (off+(32*q+k')))=some (.bool (B (32*q+k'))):=by rw[hs.cell (a:=jj b (off+(32*q+k'))) (hB'.lt om)];exact hc
         have HEk:Hid (E (32*q+k')=B (32*q+k')):=by rw[HE.out];simp[Hid,ext,hin]
         clear hc;cases hb:B (32*q+k')
         . rw[hb] at g0
           have HF:Hid (E (32*q+k')=false):=HEk.out.trans hb;clear hb HEk;go_wp2;go_light;exact⟨⟨k',om,2*p,om,show (k':Int)=k' from rfl,show 2*p=_ by rw[HS.out,HF.out];rfl⟩,by simp[intOf];omega⟩
         . rw[hb] at g0
           have HF:Hid (E (32*q+k')=true):=HEk.out.trans hb;clear hb HEk;go_wp2;go_light;exact⟨⟨k',om,2*p+1,om,show (k':Int)=k' from rfl,show 2*p+1=_ by rw[HS.out,HF.out];rfl⟩,by simp[intOf];omega⟩
       . have HF:Hid (E (32*q+k')=false):=by rw[HE.out];simp[Hid,ext,hin]
         go_wp2;go_light;exact⟨⟨k',om,2*p,om,show (k':Int)=k' from rfl,show 2*p=_ by rw[HS.out,HF.out];rfl⟩,by simp[intOf];omega⟩
     . have hk0:k=0:=by have:=HZ.out;omega
       subst hk0
       go_wp2_with (at_builtin;refine wpList_append_own _ rfl _ _ 42 rfl w1.heap.size 129 i0 (.int .u32 0) 1 4 Tryz.underlying42 hi hz0 hz1 hz2 rfl qd _ _ _ rfl (hown.alloc _) (jh wr 0) 1 1 [.int .u32 p] rfl rfl ?c1 ?c2 ?c3 ?c4 ?c5 ?_)
       case c2=>first | rfl | (intro u hu;simp at hu;subst hu;rfl)
       case c3=>unfold maxLen;omega
       case c4=>omega
       case c5=>have:=hs.size;simp;omega
       intro v' w2 hown' hgrow _;have hs1:w1.S w2:=(hs.alloc hs.size _).grown hgrow (by have:=hs.size;simp;omega) (fun k hk=>(hown.lt k hk).1);rw[HP.out,aeq,<-jV] at hown';clear hgrow hown hs;go_wp2;go_roundw
       case rel=>exact⟨q+1,om,by go_num,hown',hs1⟩
       case measure=>simp[intOf];omega
  . obtain⟨a',g,cap',rfl,hmc,hnn,hg,-,-,hL,hf⟩:=aga hown w1.heap.size (Nat.le_refl _)
    go_wp2;go_ret;refine⟨a',g,q,cap',jW E,rfl,hmc,hnn,om,hL,fun _=>hg,hf,fun j=>abk E j, ?_, ?_,hs⟩
    . intro h0
      have hm0:0<m:=om
      refine adm E m (q-1) om om ?_;rw[HE.out];have:=cI B n (by rw[<-HM.out];exact hm0);rw[<-HM.out] at this
      simp[ext,this];omega
    . rw[aeD,HE.out,vi B m (32*q) om,HM.out,jZ]
theorem su{a:Option Addr}{b off n cap:Nat}{B:Nat->Bool}{w:World}(hn:n<=4294967296)(hnc:n<=cap)(hB:dz w a b off n B):
 Cl 138 #[.slice a n cap] w fun e w'=>∃a' g m cap' Y,e=.returned (.slice a' m cap')/\m<=cap'/\32*m<n+32/\ag w' a' g 0 m Y/\(0<m->w.heap.size<=g)/\(0<m->∀o,w'.frozen? (jj g o)=false)/\
  (∀j,Y j<4294967296)/\(0<m->Y (m-1)≠0)/\lv Y m=bv B n/\w.S w':=
 (lj hn hnc hB).mono fun _ _ ⟨a',g,m,c,Y,h1,h2,_,h⟩=>⟨a',g,m,c,Y,h1,h2,h⟩
theorem jb{a a':Option Addr}{b off n cap b' off' m cap':Nat}{A B:Nat->Bool}{w:World}(hn:n<=281474976710656)(hm:m<=281474976710656)(hA:dz w a b off n A)(hB:dz w a' b' off' m B)
 (tA:0<n->A (n-1)=true)(tB:0<m->B (m-1)=true):
 Cl 103 #[.slice a n cap,.slice a' m cap'] w fun e w'=>e=.returned (.i (fd (bv A n) (bv B m)))/\Same w w':=by
 by_cases h1:n<m
 . rw[lD (mT h1 tB)]
   go_enter Tryz.func103,Tryz.ntmps103;go_wp2;go_ret;exact⟨rfl,Same.refl _⟩
 by_cases h2:m<n
 . rw[qw (mT h2 tA)]
   go_enter Tryz.func103,Tryz.ntmps103;go_wp2;go_ret;exact⟨rfl,Same.refl _⟩
 have e:m=n:=om
 subst e;go_enter Tryz.func103,Tryz.ntmps103;go_wp2
 go_loopw [5] (fun t wr=>∃(k:Nat) (z:Int),k<=m/\t=.i z/\Hid (z=k-1)/\Same w wr/\Hid (∀j,k<=j->j<m->A j=B j)) (fun t _=>(intOf t+1).toNat)
 case atStart=>exact⟨m,(m:Int)-1,Nat.le_refl _,rfl,rfl,Same.refl _,fun j h1 h2=>absurd h2 om⟩
 case round=>
  obtain⟨k,z,hk,rfl,HZ,hs,HE⟩:=hrel
  by_cases hz:0<=z
  . obtain⟨i,rfl⟩:=Int.eq_ofNat_of_zero_le hz
    have hki:k=i+1:=by have:=HZ.out;omega
    subst hki;obtain⟨rfl,hc⟩:=hA i om;obtain⟨rfl,hc'⟩:=hB i om;have g0:wr.cell? (jj b (off+i))=some (.bool (A i)):=by rw[hs.cell];exact hc
    have g1:wr.cell? (jj b' (off'+i))=some (.bool (B i)):=by rw[hs.cell];exact hc'
    have hzi:(i:Int)<m:=om
    by_cases hab:A i=B i
    . have HAB:Hid (A i=B i):=hab
      rw[hab] at g0;go_wp2
      go_quiet (fail)
      go_wp2;go_roundw
      case rel=>
       refine⟨i,(i:Int)-1,om,rfl,rfl,hs.drewN _,fun j h1 h2=> ?_⟩
       by_cases e:j=i
       . subst e;exact HAB.out
       . exact HE.out j om h2
      case measure=>simp[intOf]
    . cases hb:B i
      . have ha:A i=true:=by cases h:A i<;>simp_all
        have HC:Hid (fd (bv A m) (bv B m)=1):=qw (af8 (i:=i) om (fun j h1 h2=>(HE.out j om h2).symm) hb ha);rw[ha] at g0;rw[hb] at g1;go_wp2
        go_quiet (fail)
        go_wp2;go_ret;exact⟨di HC.out.symm,hs.drewN _⟩
      . have ha:A i=false:=by cases h:A i<;>simp_all
        have HC:Hid (fd (bv A m) (bv B m)=-1):=lD (af8 (i:=i) om (fun j h1 h2=>(HE.out j om h2)) ha hb);rw[ha] at g0;rw[hb] at g1;go_wp2
        go_quiet (fail)
        go_wp2;go_ret;exact⟨di HC.out.symm,hs.drewN _⟩
  . have hk0:k=0:=by have:=HZ.out;omega
    subst hk0;have HC:Hid (fd (bv A m) (bv B m)=0):=yj (fW (fun j hj=>HE.out j om hj));go_wp2;go_ret;exact⟨di HC.out.symm,hs⟩
theorem agJ(b:Bool)(R:Nat->Bool)(n:Nat):bl (push b R) (n+1)=[.bool b]++bl R n:=by
 unfold bl;rw[List.range_succ_eq_map]
 simp[push,Function.comp_def]
theorem ach(w:World)(base:Nat)(x:Value)(t:TypeId)(hb:base<=w.heap.size):(w.alloc (.cells #[x] t)).ownsRow base t 1 (.s w.heap.size 1 1) 1 [x]:=
 ⟨rfl,.inr ⟨w.heap.size,1, #[x],rfl,hb,heap_alloc_new w _,Nat.le_refl _,by decide,rfl,rfl⟩⟩
theorem adG{w:World}{g t:Nat}{R:Nat->Bool}(h:dz w (jp g 0) g 0 t R):∀j u,(bl R t)[j]?=some u->w.cell? (((jj g 0):Addr).add j)=some u:=by
 intro j u hu;have hj:j<t:=by have:=(List.getElem?_eq_some_iff.1 hu).1;rwa[jJ] at this
 rw[lF R t j hj] at hu;rw[Addr.add_lit,(h j hj).2];exact hu
theorem afC(R:Nat->Bool)(t:Nat):∀u∈bl R t,u.oneCell'=true:=by
 intro u hu;obtain⟨_,_,rfl⟩:=List.mem_map.1 hu
 rfl
theorem mR{x y:Nat}(h:y<=x):0<=fd x y:=by unfold fd;split<;>(try split)<;>omega
theorem qu{x y:Nat}(h:x<y):fd x y<0:=by rw[lD h];decide
theorem oK{a a':Option Addr}{b off n cap b' off' m cap':Nat}{A B:Nat->Bool}{w:World}(hn:n<=2147483648)(hm:m<=2147483648)(hA:dz w a b off n A)(hB:dz w a' b' off' m B)
 (tB:0<m->B (m-1)=true)(hD:0<bv B m):
 Cl 137 #[.slice a n cap,.slice a' m cap'] w fun e w'=>∃gq tq cq Q gr tr cr R,e=.returned (.tuple #[.s gq tq cq,.s gr tr cr])/\
  tq<=cq/\tq<=n/\tr<=cr/\tr<=n/\dz w' (jp gq 0) gq 0 tq Q/\dz w' (jp gr 0) gr 0 tr R/\w.heap.size<=gq/\w.heap.size<=gr/\
  (0<tq->Q (tq-1)=true)/\(0<tr->R (tr-1)=true)/\bv Q tq=bv A n/bv B m/\bv R tr=bv A n % bv B m/\w.S w':=by
 obtain⟨i0,hi,hz0,hz1,hz2⟩:=info_parts Tryz.info4;have hmk:=run_make_row' (P:=Tryz.prog) 125 4 (.bool false) 1 Tryz.underlying125 Tryz.info4 rfl .i64 .i64 n om om;have HT:=ae tB;have HD:=ae hD;go_enter Tryz.func137,Tryz.ntmps137;go_wp2
 go_loopw [7,8] (fun v q wr=>∃(k:Nat) (z:Int) (Q R:Nat->Bool) (g t c:Nat),k<=n/\q=.i z/\v=.s g t c/\Hid (z=k-1)/\t<=c/\t<=n-k/\w.heap.size<g/\
  dz wr (jp g 0) g 0 t R/\Hid (0<t->R (t-1)=true)/\Hid (lK A Q n k (bv B m) (bv R t))/\w.S wr/\wr.rowIs w.heap.size 4 n (fun j=>.bool (Q j))) (fun _ q _=>(intOf q+1).toNat)
 case atStart=>
  refine⟨n,(n:Int)-1,fun _=>false,fun _=>false,w.heap.size+1,0,0,Nat.le_refl _,rfl,rfl,rfl,Nat.le_refl _,Nat.zero_le _,om,fun j hj=>absurd hj om,fun h=>absurd h om,ye A n _ HD.out,
   (bJ _ _).alloc qz _,(World.rowIs_made w _ n 4).alloc _⟩
 case round=>
  obtain⟨k,z,Q,R,g,t,c,hk,rfl,rfl,HZ,htc,htn,hg,hR,HRt,HR,hs,hq⟩:=hrel
  by_cases hz:0<=z
  . obtain⟨i,rfl⟩:=Int.eq_ofNat_of_zero_le hz
    have hki:k=i+1:=by have:=HZ.out;omega
    subst hki;obtain⟨rfl,hc⟩:=hA i om;have g0:wr.cell? (jj b (off+i))=some (.bool (A i)):=by rw[hs.cell (a:=jj b (off+i)) (hA.lt om)];exact hc
    obtain⟨x,hx⟩:∃x,x=A i:=⟨_,rfl⟩;rw[<-hx] at g0;have HX:Hid (A i=x):=hx.symm;clear hx;have hsz:=hs.size;have hqlt:=hq.lt;have hR1:dz (wr.alloc (.cells #[.bool x] 4)) (jp g 0) g 0 t R:=hR.aA (bJ _ _)
    go_wp2_with (at_builtin;refine wpList_append_own _ rfl _ _ 125 rfl (w.heap.size+1) 4 i0 (.bool false) 1 1 Tryz.underlying125 hi hz0 hz1 hz2 rfl qd _ _ _ rfl (ach _ _ _ _ om) (jj g 0) t c (bl R t) rfl (by rw[jJ];omega) (adG hR1) (afC R t) (by unfold maxLen;omega) om (by simp;omega) ?_)
    intro v' w1 hown' hgrow hnn;have hsw:=(bJ _ _).grown hgrow qz (fun k hk=>by simp[Value.ownBlock] at hk;omega);have e1:Value.bool x::bl R t=bl (push x R) (t+1):=(agJ x R t).symm;rw[e1,Nat.add_comm 1 t] at hown';obtain⟨g1,cap1,rfl,hmc1,hg1,hP⟩:=gI hown' hnn;have hs1:=hs.tr hsw;have hq1:=hq.of_block (hsw.block _ hqlt);have HV:=ae (agE x R t);obtain⟨P,hPd⟩:∃P,P=push x R:=⟨_,rfl⟩;rw[<-hPd] at hP HV;go_wp2_with fail;refine (fS om hmc1 hP).mono ?_;rintro e w2 ⟨rfl,rfl⟩;have htl:=co P (t+1);have HTop:=ae (cI P (t+1));have HV2:Hid (bv P (ce P (t+1))=x.toNat+2*bv R t):=(jZ P (t+1)).trans HV.out;have hP:=hP.take htl;generalize ce P (t+1)=t1 at*;have hB1:=hB.aA hs1;go_wp2_with fail;refine (jb om om hP hB1 HTop.out HT.out).mono ?_;rintro e w3 ⟨rfl,s3⟩;have hP:=hP.same s3;have hB1:=hB1.same s3;have hs3:=hs1.trans (s3.since _);have hq3:=hq1.of_block (by rw[s3.heap])
    by_cases hge:bv B m<=bv P t1
    . have hc:=mR hge
      have HG:=ae hge;have hlen:=yv HT.out hge;generalize fd (bv P t1) (bv B m)=z at*;go_wp2_with fail;refine (gO om hlen hP hB1 HG.out).mono ?_;rintro e w4 ⟨g4,t4,c4,D,rfl,k1,k2,hD4,k3,k4,k5,hs4⟩;have HDt:=ae k4
      have HDv:Hid (lK A (fX Q i true) n i (bv B m) (bv D t4)):=by
       have:=ab9 HR.out om (by have:=HG.out;rw[HV2.out] at this;rw[HX.out];exact this);rw[HX.out,<-HV2.out,<-k5] at this;exact this
      have hsz3:=hs3.size;have hs5:=hs3.trans (sM hs4 hsz3);have hq4:=hq3.of_block (hs4.block _ hq3.lt);have q1:=hq4.cell (i:=i) om;have q2:=hq4.frozen i;have hq3l:=hq3.lt;have hni:(i:Int)<n:=om
      go_wp2;go_roundw
      case rel=>
       go_light;refine⟨i,(i:Int)-1,fX Q i true,D,g4,t4,c4,om,by go_num,rfl,rfl,k1,om,om, ?_,HDt,HDv,hs5.setCell (Nat.le_refl _) _,(hq4.set i _).congr (fun j _=> ?_)⟩
       . intro j hj
         refine⟨rfl, ?_⟩;rw[World.cell?_setCell_other _ _ _ _ (fun h=>by have:=congrArg Addr.block h;simp at this;omega)];exact (hD4 j hj).2
       . by_cases e:j=i<;>simp[fX,e]
      case measure=>simp[intOf]
    . have hc:=qu (Nat.lt_of_not_le hge)
      have HDv:Hid (lK A Q n i (bv B m) (bv P t1)):=by
       have:=vV HR.out om (by rw[HV2.out] at hge;rw[HX.out];omega);rw[HX.out,<-HV2.out] at this;exact this
      generalize fd (bv P t1) (bv B m)=z at*;go_wp2;go_roundw
      case rel=>exact⟨i,(i:Int)-1,Q,P,g1,t1,cap1,om,by go_num,rfl,rfl,om,om,om,hP,HTop,HDv,hs3,hq3⟩
      case measure=>simp[intOf]
  . have hk0:k=0:=by have:=HZ.out;omega
    subst hk0;go_wp2_with fail;refine (fS om (Nat.le_refl _) (q9 hq)).mono ?_;rintro e w1 ⟨rfl,rfl⟩;go_wp2;go_ret2;have htl:=co Q n;obtain⟨v1,v2⟩:=abA HR.out;exact⟨w.heap.size,_,_,Q,g,t,c,R,rfl,htl,htl,htc,om,(q9 hq).take htl,hR,Nat.le_refl _,om,fun h=>cI _ _ h,HRt.out,(jZ _ _).trans v1,v2,hs⟩
def Tr(w:World)(v:Value)(n:Nat)(A:Nat->Bool):Prop:=
 ∃a b off cap,v=.slice a n cap/\n<=cap/\dz w a b off n A/\(0<n->A (n-1)=true)
theorem Tr.aA{w w':World}{v:Value}{n:Nat}{A:Nat->Bool}(h:Tr w v n A)(s:w.S w'):Tr w' v n A:=by
 obtain⟨a,b,off,cap,h1,h2,h3,h4⟩:=h;exact⟨a,b,off,cap,h1,h2,h3.aA s,h4⟩
theorem ot{w:World}{b off n:Nat}{A:Nat->Bool}(h:dz w (jp b off) b off n A)(hn:0<n):dz w (jp b (off+1)) b (off+1) (n-1) (sh A 1):=
 fun j hj=>⟨rfl,by have:=(h (j+1) om).2;rw[show off+1+j=off+(j+1) by omega];exact this⟩
theorem xq{w:World}{base g t cap:Nat}{S:Nat->Bool}(hr:w.rowIs g 4 cap (fun j=>.bool (S j)))(ht:t<=cap)(hc:cap<=maxLen)(hb:base<=g):w.ownsRow base 4 1 (.s g t cap) t (bl S t):=by
 obtain⟨cur,h1,h2,h3⟩:=hr;refine⟨by rw[jJ];omega,.inr ⟨g,cap,cur,rfl,hb,h1,ht,hc,om, ?_⟩⟩
 apply List.ext_getElem?
 intro i;rw[Nat.mul_one]
 by_cases hi:i<t
 . rw[lF S t i hi,List.getElem?_take,if_pos hi]
   have:=h3 i om
   simpa using this
 . rw[List.getElem?_eq_none (by rw[List.length_take];omega),List.getElem?_eq_none (by rw[jJ];omega)]
theorem abK{w:World}{g off t:Nat}{R:Nat->Bool}(h:dz w (jp g off) g off t R):∀j u,(bl R t)[j]?=some u->w.cell? (((jj g off):Addr).add j)=some u:=by
 intro j u hu;have hj:j<t:=by have:=(List.getElem?_eq_some_iff.1 hu).1;rwa[jJ] at this
 rw[lF R t j hj] at hu;rw[Addr.add_lit,(h j hj).2];exact hu
theorem afB(k:Nat)(B:Nat->Bool)(m:Nat):bl (mm k B) (k+m)=bl (fun _=>false) k++bl B m:=by
 apply List.ext_getElem?
 intro i
 by_cases h1:i<k
 . rw[lF _ _ _ om,List.getElem?_append_left (by rw[jJ];exact h1),lF _ _ _ h1]
   simp[mm,h1]
 . rw[List.getElem?_append_right (by rw[jJ];omega),jJ]
   by_cases h2:i<k+m
   . rw[lF _ _ _ h2,lF _ _ _ om]
     simp[mm,h1]
   . rw[List.getElem?_eq_none (by rw[jJ];omega),List.getElem?_eq_none (by rw[jJ];omega)]
theorem ju{A:Nat->Bool}{n:Nat}(hn:2<=n)(h:A (n-1)=true):0<n-1->sh A 1 (n-1-1)=true:=fun _=>by unfold sh;rw[show n-1-1+1=n-1 by omega];exact h
theorem og{A:Nat->Bool}{n:Nat}(h0:0<n)(h1:A 0=false)(ht:A (n-1)=true):2<=n:=by
 by_cases e:n=1
 . subst e;simp at ht;rw[h1] at ht;cases ht
 . omega
theorem mU{A:Nat->Bool}{n:Nat}(h0:0<n)(ht:A (n-1)=true):0<bv A n:=by
 have:=ahj A n h0 ht;have:=Nat.pow_pos (n:=n-1) (show 0<2 by omega);omega
theorem oJ{v0 v1:Value}{n0 m0:Nat}{A0 B0:Nat->Bool}{w:World}(hn:n0<=1073741824)(hm:m0<=1073741824)(hA:Tr w v0 n0 A0)(hB:Tr w v1 m0 B0):
 Cl 104 #[v0,v1] w fun e w'=>∃v t O,e=.returned v/\t<=n0+m0+m0/\Tr w' v t O/\bv O t=Nat.gcd (bv A0 n0) (bv B0 m0)/\w.S w':=by
 obtain⟨a,ba,oa,ca,rfl,hca,hA1,tA⟩:=hA;obtain⟨b,bb,ob,cb,rfl,hcb,hB1,tB⟩:=hB
 by_cases z0:n0=0
 . subst z0
   go_enter Tryz.func104,Tryz.ntmps104;go_wp2;go_ret;exact⟨_,m0,B0,rfl,om,⟨b,bb,ob,cb,rfl,hcb,hB1,tB⟩,by simp[bv],eg _ _⟩
 by_cases z1:m0=0
 . subst z1
   have q0:((n0:Int)==0)=false:=by simp;omega
   go_enter Tryz.func104,Tryz.ntmps104;go_wp2;go_ret;exact⟨_,n0,A0,rfl,om,⟨a,ba,oa,ca,rfl,hca,hA1,tA⟩,by simp[bv],eg _ _⟩
 obtain⟨G,hG⟩:∃G,G=Nat.gcd (bv A0 n0) (bv B0 m0):=⟨_,rfl⟩;have HG:=ae hG;have q0:((n0:Int)==0)=false:=by simp;omega
 have q1:((m0:Int)==0)=false:=by simp;omega
 have HtA:=ae tA;have HtB:=ae tB;go_enter Tryz.func104,Tryz.ntmps104;go_wp2
 go_loopg [0,1,5] n0 (fun n x y z wr=>∃(m tw:Nat) (A B:Nat->Bool) (p q:Option Addr) (bp op bq oq cp cq:Nat),w=wr/\x=.slice p n cp/\y=.slice q m cq/\z=.i tw/\0<n/\0<m/\n<=cp/\m<=cq/\n<=n0/\m+tw<=m0/\
  dz w p bp op n A/\dz w q bq oq m B/\Hid (A (n-1)=true)/\Hid (B (m-1)=true)/\Hid (2^tw*Nat.gcd (bv A n) (bv B m)=G))
 case atStart=>exact⟨m0,0,A0,B0,a,b,ba,oa,bb,ob,ca,cb,rfl,rfl,rfl,rfl,om,om,hca,hcb,Nat.le_refl _,om,hA1,hB1,HtA.out om,HtB.out om,by rw[HG.out];simp[Hid]⟩
 case round=>
  obtain⟨m,tw,A,B,p,q,bp,op,bq,oq,cp,cq,rfl,rfl,rfl,rfl,n1,m1,hcp,hcq,hn0,hm0,hA,hB,TA,TB,HGr⟩:=hrel;obtain⟨n,hgn⟩:∃n,n=gk:=⟨_,rfl⟩;subst hgn;obtain⟨rfl,ka⟩:=hA 0 n1;obtain⟨rfl,kb⟩:=hB 0 m1;rw[Nat.add_zero] at ka kb
  by_cases hev:A 0=false/\B 0=false
  . obtain⟨ea,eb⟩:=hev
    have la:=og n1 ea TA.out;have lb:=og m1 eb TB.out;have E1:=ae (tS n1 ea);have E2:=ae (tS m1 eb);rw[ea] at ka;rw[eb] at kb;go_wp2
    go_roundg (n-1)
    case measure=>omega
    case rel=>
     go_light;refine⟨m-1,tw+1,sh A 1,sh B 1,_,_,bp,op+1,bq,oq+1,cp-1,cq-1,rfl,rfl,rfl,by go_num,om,om,om,om,om,om,ot hA n1,ot hB m1,ju la TA.out om,ju lb TB.out om, ?_⟩;have h:=HGr.out;rw[E1.out,E2.out,ad2,<-Nat.mul_assoc,<-Nat.pow_succ] at h;exact h
  . have HO:Hid (bv A n % 2=1∨bv B m % 2=1):=by
     cases ea:A 0
     . cases eb:B 0
       . exact absurd ⟨ea,eb⟩ hev
       . exact Or.inr (yu m1 eb)
     . exact Or.inl (yu n1 ea)
    have key:(A 0=true)∨(A 0=false/\B 0=true):=by
     cases ea:A 0
     . cases eb:B 0
       . exact absurd ⟨ea,eb⟩ hev
       . exact Or.inr ⟨rfl,rfl⟩
     . exact Or.inl rfl
    have S0:=eg w.heap.size w;have T0:Tr w (.slice (jp bp op) n cp) n A:=⟨_,bp,op,cp,rfl,hcp,hA,fun _=>TA.out⟩;have U0:Tr w (.slice (jp bq oq) m cq) m B:=⟨_,bq,oq,cq,rfl,hcq,hB,fun _=>TB.out⟩
    rcases key with ea | ⟨ea,eb⟩
    focus
     rw[ea] at ka
    rotate_left
    focus
     rw[ea] at ka;rw[eb] at kb
    all_goals
     go_wp2;obtain⟨g2,hg2⟩:∃g,g=Nat.gcd (bv A n) (bv B m):=⟨_,rfl⟩;have HG2:=ae hg2;have HGG:=HGr.out;rw[<-hg2] at HGG;have HGG:=ae HGG
     go_loopg [0,1] (bv A n+bv B m) (fun g x y wr=>∃(n m:Nat) (A B:Nat->Bool),Hid (g=bv A n+bv B m)/\Tr wr x n A/\Tr wr y m B/\n<=n0+m0/\0<m/\m<=n0+m0/\Hid (bv A n % 2=1∨bv B m % 2=1)/\Hid (g2=Nat.gcd (bv A n) (bv B m))/\w.S wr)
     case atStart=>exact⟨n,m,A,B,rfl,T0,U0,om,m1,om,HO,HG2,S0⟩
     case round=>
      obtain⟨n',m',A',B',Hg,TA,TB,hn1,m1,hm1,HO,HG2,hs⟩:=hrel;obtain⟨p',bp',op',cp',rfl,hcp,hA,tA⟩:=TA;obtain⟨q',bq',oq',cq',rfl,hcq,hB,tB⟩:=TB;obtain⟨rfl,kb⟩:=hB 0 m1;rw[Nat.add_zero] at kb;have HtA:=ae tA;have HtB:=ae tB
      by_cases hn0:0<n'
      . obtain⟨rfl,ka⟩:=hA 0 hn0
        rw[Nat.add_zero] at ka;cases ea:A' 0
        . --a is even
          have la:=og hn0 ea (HtA.out hn0);have E1:=ae (tS hn0 ea);have hp:=mU (A:=sh A' 1) (n:=n'-1) om (ju la (HtA.out hn0) om);have hob:bv B' m' % 2=1:=by have:=HO.out;have:=E1.out;omega
          have HN:Hid (g2=Nat.gcd (bv (sh A' 1) (n'-1)) (bv B' m')):=by have h:=HG2.out;rw[E1.out,oR hob] at h;exact h
          have HO':Hid (bv (sh A' 1) (n'-1) % 2=1∨bv B' m' % 2=1):=Or.inr hob;have Hlt:Hid (bv (sh A' 1) (n'-1)+bv B' m'<gk):=by have:=Hg.out;have:=E1.out;show _<_;omega
          rw[ea] at ka;go_wp2
          go_roundg (bv (sh A' 1) (n'-1)+bv B' m')
          case measure=>exact Hlt.out
          case rel=>exact⟨n'-1,m',sh A' 1,B',rfl,⟨_,bp',op'+1,cp'-1,rfl,om,ot hA hn0,ju la (HtA.out hn0)⟩,⟨_,bq',oq',cq',rfl,hcq,hB,HtB.out⟩,om,m1,hm1,HO',HN,hs⟩
        . have hoa:=yu hn0 ea
          have hpa:=mU hn0 (HtA.out hn0);rw[ea] at ka;cases eb:B' 0
          . --b is even
            have lb:=og m1 eb (HtB.out m1);have E1:=ae (tS m1 eb);have hp:=mU (A:=sh B' 1) (n:=m'-1) om (ju lb (HtB.out m1) om);have HN:Hid (g2=Nat.gcd (bv A' n') (bv (sh B' 1) (m'-1))):=by have h:=HG2.out;rw[E1.out,uS hoa] at h;exact h
            have HO':Hid (bv A' n' % 2=1∨bv (sh B' 1) (m'-1) % 2=1):=Or.inl hoa;have Hlt:Hid (bv A' n'+bv (sh B' 1) (m'-1)<gk):=by have:=Hg.out;have:=E1.out;show _<_;omega
            rw[eb] at kb;go_wp2
            go_roundg (bv A' n'+bv (sh B' 1) (m'-1))
            case measure=>exact Hlt.out
            case rel=>exact⟨n',m'-1,A',sh B' 1,rfl,⟨_,bp',op',cp',rfl,hcp,hA,HtA.out⟩,⟨_,bq',oq'+1,cq'-1,rfl,om,ot hB m1,ju lb (HtB.out m1)⟩,hn1,om,om,HO',HN,hs⟩
          . have hob:=yu m1 eb
            have hpb:=mU m1 (HtB.out m1);rw[eb] at kb;have HP:=ae (And.intro hoa (And.intro hob (And.intro hpa hpb)));go_wp2_with fail;refine (jb om om hA hB HtA.out HtB.out).mono ?_;rintro e w2 ⟨rfl,s2⟩;have hA:=hA.same s2;have hB:=hB.same s2;have hs:=hs.trans (s2.since _)
            by_cases hge:bv B' m'<=bv A' n'
            . have hc:=mR hge
              have hlen:=yv HtB.out hge;have HN:Hid (g2=Nat.gcd (bv A' n'-bv B' m') (bv B' m')):=by have h:=HG2.out;rw[<-qh hge] at h;exact h
              have Hge:=ae hge;generalize fd (bv A' n') (bv B' m')=z at*;go_wp2_with fail;refine (gO om hlen hA hB Hge.out).mono ?_;rintro e w3 ⟨g3,t3,c3,D,rfl,k1,k2,hD,k3,k4,k5,s3⟩;have HD:=ae k4;have HV:=ae k5;have hB:=hB.aA s3;have hs3:=hs.tr s3;go_wp2
              go_roundg (bv D t3+bv B' m')
              case measure=>have:=Hg.out;have:=HV.out;have:=HP.out;have:=Hge.out;omega
              case rel=>exact⟨t3,m',D,B',rfl,⟨_,g3,0,c3,rfl,k1,hD,HD.out⟩,⟨_,bq',oq',cq',rfl,hcq,hB,HtB.out⟩,om,m1,hm1,Or.inr HP.out.2.1,by rw[HV.out];exact HN,hs3⟩
            . have hlt:bv A' n'<bv B' m':=om
              have hc:=qu hlt;have hlen:=yv HtA.out (Nat.le_of_lt hlt);have HN:Hid (g2=Nat.gcd (bv A' n') (bv B' m'-bv A' n')):=by have h:=HG2.out;rw[<-vU (Nat.le_of_lt hlt)] at h;exact h
              have Hlt:=ae hlt;generalize fd (bv A' n') (bv B' m')=z at*;go_wp2_with fail;refine (gO om hlen hB hA (Nat.le_of_lt Hlt.out)).mono ?_;rintro e w3 ⟨g3,t3,c3,D,rfl,k1,k2,hD,k3,k4,k5,s3⟩;have HD:=ae k4;have HV:=ae k5;have hA:=hA.aA s3;have hs3:=hs.tr s3
              have ht3:0<t3:=by
               by_cases e:0<t3
               . exact e
               . have e0:t3=0:=om
                 rw[e0] at k5;have:=Hlt.out
                 simp[bv] at k5
                 omega
              have hne:((t3:Int)==0)=false:=by simp;omega
              go_wp2
              go_roundg (bv A' n'+bv D t3)
              case measure=>have:=Hg.out;have:=HV.out;have:=HP.out;have:=Hlt.out;omega
              case rel=>exact⟨n',t3,A',D,rfl,⟨_,bp',op',cp',rfl,hcp,hA,HtA.out⟩,⟨_,g3,0,c3,rfl,k1,hD,HD.out⟩,hn1,ht3,om,Or.inl HP.out.1,by rw[HV.out];exact HN,hs3⟩
      . have e0:n'=0:=om
        subst e0;obtain⟨i0,hi,hz0,hz1,hz2⟩:=info_parts Tryz.info4;have hmk:=run_make_row' (P:=Tryz.prog) 125 4 (.bool false) 1 Tryz.underlying125 Tryz.info4 rfl .i64 .i64 tw om om;have hrow:=World.rowIs_made wr (.bool false) tw 4;have hsz:=hs.size;have hB2:=hB.aA (w':=wr.alloc (.cells (madeCells #[.bool false] tw) 4)) (bJ _ _)
        go_wp2_with (at_builtin;refine wpList_append_own _ rfl _ _ 125 rfl w.heap.size 4 i0 (.bool false) 1 1 Tryz.underlying125 hi hz0 hz1 hz2 rfl qd _ _ _ rfl (xq (S:=fun _=>false) hrow (Nat.le_refl _) (by unfold maxLen;omega) hsz) (jj bq' oq') m' cq' (bl B' m') rfl (by rw[jJ];omega) (abK hB2) (afC B' m') (by unfold maxLen;omega) om (by simp;omega) ?_)
        intro v' w3 hown hgrow hnn;rw[<-afB] at hown;have hs3:=(hs.alloc hsz _).grown hgrow (by simp;omega) (fun k hk=>by simp[Value.ownBlock] at hk;omega);obtain⟨g3,c3,rfl,k1,k2,k3⟩:=gI hown hnn;go_wp2;go_ret;refine⟨_,tw+m',mm tw B',rfl,om,⟨_,g3,0,c3,rfl,k1,k3,fun _=> ?_⟩, ?_,hs3⟩
        . unfold mm
          rw[if_neg om,show tw+m'-1-tw=m'-1 by omega];exact HtB.out m1
        . rw[af7,<-HG.out,<-HGG.out,HG2.out]
          simp[bv]
theorem xe{w wr:World}{O0 O A:Nat->Bool}{n L j i:Nat}{x y cb:Bool}(s c':Bool)(hs:w.S wr)(hr:wr.rowIs w.heap.size 4 L (fun k=>.bool (O k)))(HR:nC O0 O A n j i cb)
 (hx:O (j+i)=x)(hy:ext A n i=y)(es:s=((x != y) != cb))(ec:c'=((x&&y) ||(x&&cb) ||(y&&cb))):
 ∃O',w.S (wr.setCell ⟨w.heap.size,j+i,none⟩ (.bool s))/\(wr.setCell ⟨w.heap.size,j+i,none⟩ (.bool s)).rowIs w.heap.size 4 L (fun k=>.bool (O' k))/\nC O0 O' A n j (i+1) c':=by
 subst es ec;refine⟨_,hs.setCell (Nat.le_refl _) _,(hr.set (j+i) _).congr (fun k _=> ?_),aa7 HR hx hy⟩
 by_cases e:k=j+i
 . simp[e]
 . simp[e]
theorem fG{a a':Option Addr}{b off n cap b' off' m cap':Nat}{A B:Nat->Bool}{w:World}(hn:n<=2147483648)(hm:m<=2147483648)(hA:dz w a b off n A)(hB:dz w a' b' off' m B):
 Cl 141 #[.slice a n cap,.slice a' m cap'] w fun e w'=>∃g t cap'' O,e=.returned (.s g t cap'')/\t<=cap''/\t<=n+m/\dz w' (jp g 0) g 0 t O/\w.heap.size<=g/\
  (0<t->O (t-1)=true)/\bv O t=bv A n*bv B m/\w.S w':=by
 have hmk:=run_make_row' (P:=Tryz.prog) 125 4 (.bool false) 1 Tryz.underlying125 Tryz.info4 rfl .i64 .i64 (n+m) om om;rw[Int.natCast_add] at hmk;go_enter Tryz.func141,Tryz.ntmps141;go_wp2
 go_loopw [6] (fun q wr=>∃j:Nat,j<=m/\q=.i j/\w.S wr/\∃O,wr.rowIs w.heap.size 4 (n+m) (fun k=>.bool (O k))/\bv O (n+m)=bv A n*bv B j) (fun q _=>m-(intOf q).toNat)
 case atStart=>
  exact⟨0,Nat.zero_le _,rfl,bJ _ _,fun _=>false,World.rowIs_made w _ _ _,by rw[tR (fun _=>false) 0 (n+m) om (fun _ _ _=>rfl)];simp[bv]⟩
 case round=>
  obtain⟨j,hj,rfl,hs,O0,hr0,h0⟩:=hrel;have H0:Hid (bv O0 (n+m)=bv A n*bv B j):=h0
  by_cases hlt:j<m
  . obtain⟨rfl,hc⟩:=hB j hlt
    have g0:wr.cell? (jj b' (off'+j))=some (.bool (B j)):=by rw[hs.cell (a:=jj b' (off'+j)) (hB.lt om)];exact hc
    cases hbj:B j
    . rw[hbj] at g0
      have HB:Hid (B j=false):=hbj;go_wp2;go_roundw
      case rel=>exact⟨j+1,om,by go_num,hs,O0,hr0,ae4 H0.out HB.out⟩
      case measure=>simp[intOf];omega
    . rw[hbj] at g0
      have HB:Hid (B j=true):=hbj;go_wp2
      go_loopw [7,8] (fun c t wr'=>∃(i:Nat) (cb:Bool) (O:Nat->Bool),j+i<=n+m/\t=.i i/\c=.bool cb/\w.S wr'/\wr'.rowIs w.heap.size 4 (n+m) (fun k=>.bool (O k))/\nC O0 O A n j i cb) (fun _ t _=>n+m-(intOf t).toNat)
      case atStart=>exact⟨0,false,O0,om,rfl,rfl,hs,hr0,y8 O0 A n j⟩
      case round=>
       obtain⟨i,cb,O,hi,rfl,rfl,hs,hr,hR⟩:=hrel;have HR:Hid (nC O0 O A n j i cb):=hR
       by_cases hlt2:j+i<n+m
       . have g1:=hr.cell hlt2
         have g2:=hr.frozen (j+i);obtain⟨x,hx⟩:∃x,x=O (j+i):=⟨_,rfl⟩;rw[<-hx] at g1;have HX:Hid (O (j+i)=x):=hx.symm;clear hx
         by_cases hin:i<n
         . obtain⟨rfl,hc⟩:=hA i hin
           have g3:wr.cell? (jj b (off+i))=some (.bool (A i)):=by rw[hs.cell (a:=jj b (off+i)) (hA.lt om)];exact hc
           obtain⟨y,hy⟩:∃y,y=A i:=⟨_,rfl⟩;rw[<-hy] at g3;have HY:Hid (ext A n i=y):=by simp[Hid,ext,hin,hy]
           clear hy hc;cases x<;>cases y<;>cases cb
           all_goals
            go_wp2;go_roundw
            case rel=>
             go_light;obtain⟨O',k1,k2,k3⟩:=xe _ _ hs hr HR.out HX.out HY.out rfl rfl;exact⟨i+1,_,O',om,by go_num,rfl,k1,k2,k3⟩
            case measure=>go_light;simp[intOf];omega
         . have HY:Hid (ext A n i=false):=by simp[Hid,ext,hin]
           cases x<;>cases cb
           all_goals
            go_wp2;go_roundw
            case rel=>
             go_light;obtain⟨O',k1,k2,k3⟩:=xe _ _ hs hr HR.out HX.out HY.out rfl rfl;exact⟨i+1,_,O',om,by go_num,rfl,k1,k2,k3⟩
            case measure=>go_light;simp[intOf];omega
       . have e:j+i=n+m:=om
         go_wp2;go_roundw
         case rel=>exact⟨j+1,om,by go_num,hs,O,hr,abN HR.out e hlt H0.out HB.out⟩
         case measure=>simp[intOf];omega
  . have e:j=m:=om
    subst e;go_wp2_with fail;refine (fS om (Nat.le_refl _) (q9 hr0)).mono ?_;rintro e w1 ⟨rfl,rfl⟩;go_wp2;go_ret;have htl:=co O0 (n+j);exact⟨w.heap.size,_,_,O0,rfl,htl,htl,(q9 hr0).take htl,Nat.le_refl _,fun h=>cI _ _ h,(jZ _ _).trans H0.out,hs⟩
theorem abH(x y p c:Nat):((x:Int)*y+p+c)/4294967296=(((x*y+p+c)/4294967296:Nat):Int):=by
 have h:(((x*y+p+c:Nat):Int))=(x:Int)*y+p+c:=by simp
 rw[<-h];omega
theorem xG{c o:Nat}{a a':Option Addr}{b off n cap b' off' m cap':Nat}{X Y:Nat->Nat}{w:World}(hn:n<=67108864)(hm:m<=67108864)(hX:ag w a b off n X)(hY:ag w a' b' off' m Y)
 (hXl:∀j,j<n->X j<4294967296)(hYl:∀j,j<m->Y j<4294967296)(hc0:w.cell? (jj c o)=some (.slice a n cap))(hf0:w.frozen? (jj c o)=false):
 Cl 168 #[.p c o,.slice a' m cap'] w fun e w'=>e=.returned (.tuple #[])/\∃w2 P,w.S w2/\w2.rowIs w.heap.size 129 (n+m) (fun j=>.int .u32 (P j:Nat))/\
  (∀k,P k<4294967296)/\lv P (n+m)=lv X n*lv Y m/\w'=w2.setCell ⟨c,o,none⟩ (.s w.heap.size (ce (nz P) (n+m)) (n+m)):=by
 have hmk:=run_make_row' (P:=Tryz.prog) 98 129 (.int .u32 0) 4 Tryz.underlying98 Tryz.info129 rfl .i64 .i64 (n+m) om om;rw[Int.natCast_add] at hmk;have hcl:=gz _ _ hc0;go_enter Tryz.func168,Tryz.ntmps168;go_wp2
 go_loopw [23] (fun q wr=>∃(i:Nat) (P:Nat->Nat),i<=n/\q=.i i/\w.S wr/\wr.rowIs w.heap.size 129 (n+m) (fun k=>.int .u32 (P k))/\wr.rowIs (w.heap.size+1) 98 1 (fun _=>.s w.heap.size (n+m) (n+m))/\
  (∀k,P k<4294967296)/\lv P (i+m)=lv X i*lv Y m) (fun q _=>n-(intOf q).toNat)
 case atStart=>
  refine⟨0,fun _=>0,Nat.zero_le _,rfl,(bJ _ _).alloc qz _,((World.rowIs_made w _ _ _).alloc _), ?_,fun _=>Nat.zero_lt_succ _, ?_⟩
  . have:=World.rowIs_alloc (w.alloc (Obj.cells (madeCells #[Value.int IntKind.u32 0] (n+m)) 129)) #[Value.s w.heap.size (n+m) (n+m)] 98 (fun _=>.s w.heap.size (n+m) (n+m)) (fun i hi=>by simp at hi;subst hi;rfl)
    simpa using this
  . rw[nT (fun _=>0) 0 (0+m) om (fun _ _ _=>rfl)];simp[lv]
 case round=>
  obtain⟨i,P0,hin,rfl,hs,hr0,hbox,hPl,h0⟩:=hrel;have H0:Hid (lv P0 (i+m)=lv X i*lv Y m):=h0;have HPl:Hid (∀k,P0 k<4294967296):=hPl
  by_cases hlt:i<n
  . obtain⟨rfl,hc⟩:=hX i hlt
    have g0:wr.cell? (jj b (off+i))=some (.int .u32 (X i)):=by rw[hs.cell (a:=jj b (off+i)) (hX.lt om)];exact hc
    have hxi:=hXl i hlt;obtain⟨x,hx⟩:∃x,x=X i:=⟨_,rfl⟩;rw[<-hx] at g0 hxi;have HX:Hid (x=X i):=hx;clear hx;go_wp2
    go_loopw [7,30] (fun c t wr'=>∃(j cr:Nat) (P:Nat->Nat),j<=m/\t=.i j/\c=.int .u64 cr/\w.S wr'/\wr'.rowIs w.heap.size 129 (n+m) (fun k=>.int .u32 (P k))/\
     wr'.rowIs (w.heap.size+1) 98 1 (fun _=>.s w.heap.size (n+m) (n+m))/\pu P0 P x Y i j cr) (fun _ t _=>m-(intOf t).toNat)
    case atStart=>exact⟨0,0,P0,om,rfl,rfl,hs,hr0,hbox,xI HPl.out x Y i⟩
    case round=>
     obtain⟨j,cr,P,hj,rfl,rfl,hs,hr,hbox,hR⟩:=hrel;have HR:Hid (pu P0 P x Y i j cr):=hR;have b0:=hbox.cell (i:=0) om
     by_cases hlt2:j<m
     . obtain⟨rfl,hc⟩:=hY j hlt2
       have g0:wr.cell? (jj b' (off'+j))=some (.int .u32 (Y j)):=by rw[hs.cell (a:=jj b' (off'+j)) (hY.lt om)];exact hc
       have hyj:=hYl j hlt2;have g1:=hr.cell (i:=i+j) om;have g2:=hr.frozen (i+j);have hsum:=uD HR.out hxi hyj;have HST:=ae (zO HR.out hxi hyj rfl);obtain⟨y,hy⟩:∃y,y=Y j:=⟨_,rfl⟩;obtain⟨p,hp⟩:∃p,p=P (i+j):=⟨_,rfl⟩;have hcr:=HR.out.2.2.1;have hpl:p<4294967296:=by rw[hp];exact HR.out.2.1 _
       rw[<-hy] at g0 hyj hsum HST;rw[<-hp] at g1 hsum HST;clear hy hp;have hm0:(0:Int)<=x*(y:Int):=by rw[<-Int.natCast_mul];omega
       have hm1:(x:Int)*(y:Int)+(p:Int)+(cr:Int)<=18446744073709551615:=by rw[<-Int.natCast_mul];omega
       go_wp2;go_roundw
       case rel=>
        go_light;refine⟨j+1,(x*y+p+cr)/4294967296,_,om,by go_num,congrArg (Value.int .u64) (abH x y p cr),hs.setCell (Nat.le_refl _) _,(hr.set (i+j) _).congr (fun k _=> ?_),hbox.setOther qz _,HST.out⟩
        by_cases e:k=i+j
        . simp[e]
        . simp[e]
       case measure=>simp[intOf];omega
     . have e:j=m:=om
       subst e;have g1:=hr.cell (i:=i+j) om;have g2:=hr.frozen (i+j);have hcr:=HR.out.2.2.1;go_wp2;go_roundw
       case rel=>
        go_light;rw[HX.out] at HR;refine⟨i+1,_,om,by go_num,hs.setCell (Nat.le_refl _) _,(hr.set (i+j) _).congr (fun k _=> ?_),hbox.setOther qz _,fun k=> ?_,abc HR.out H0.out⟩
        . by_cases e:k=i+j
          . simp[e]
          . simp[e]
        . show (if k=i+j then cr else P k)<_
          split
          . exact hcr
          . exact HR.out.2.1 k
       case measure=>simp[intOf];omega
  . have e:i=n:=om
    subst e;have b0:=hbox.cell (i:=0) om;have b1:=hbox.frozen 0;go_wp2_with fail;refine (yO om (Nat.le_refl _) b0 b1 (dT hr0)).mono ?_;rintro e w1 ⟨rfl,rfl⟩;have q0:wr.frozen? (jj c o)=false:=by rw[hs.frozen (a:=jj c o) hcl];exact hf0
    have q1:wr.cell? (jj c o)=some (.slice a i cap):=by rw[hs.cell (a:=jj c o) hcl];exact hc0
    have q2:c≠w.heap.size+1:=om
    go_wp2
    go_end0
    exact⟨rfl,_,P0,hs.setCell (Nat.le_succ _) _,hr0.setOther qz _,HPl.out,H0.out,rfl⟩
def pt(O A B:Nat->Bool)(n m i:Nat)(c:Bool):Prop:=bv O i+c.toNat*2^i=bv (ext A n) i+bv (ext B m) i
theorem mq{O A B:Nat->Bool}{n m i:Nat}{c x y:Bool}(h:pt O A B n m i c)(hx:ext A n i=x)(hy:ext B m i=y):
 pt (fX O i ((x != y) != c)) A B n m (i+1) ((x&&y) ||(x&&c) ||(y&&c)):=by
 unfold pt at*;have hf:=aaw x y c;simp only[bv,abI O i _ i (Nat.le_refl _),bK,hx,hy];generalize ((x != y) != c).toNat=s at hf⊢;generalize ((x&&y) ||(x&&c) ||(y&&c)).toNat=d at hf⊢
 have e:s*2^i+d*2^(i+1)=x.toNat*2^i+y.toNat*2^i+c.toNat*2^i:=by
  rw[<-Nat.add_mul,<-Nat.add_mul,<-hf,Nat.add_mul,Nat.pow_succ,Nat.mul_comm (2^i) 2,<-Nat.mul_assoc,Nat.mul_comm d 2]
 omega
theorem aaO{O A B:Nat->Bool}{n m i:Nat}{c:Bool}(h:pt O A B n m i c)(hn:n<=i)(hm:m<=i):bv O i+c.toNat*2^i=bv A n+bv B m:=by
 unfold pt at h;rw[vi A n i hn,vi B m i hm] at h;exact h
theorem ae0(y c:Bool):(!(y==c))=((false != y) != c):=by cases y<;>cases c<;>rfl
theorem oO{a a':Option Addr}{b off n cap b' off' m cap':Nat}{A B:Nat->Bool}{w:World}(hn:n<=2147483648)(hm:m<=2147483648)(hA:dz w a b off n A)(hB:dz w a' b' off' m B):
 Cl 142 #[.slice a n cap,.slice a' m cap'] w fun e w'=>∃g t cap'' D,e=.returned (.s g t cap'')/\t<=cap''/\t<=max n m+1/\dz w' (jp g 0) g 0 t D/\w.heap.size<=g/\
  (0<t->D (t-1)=true)/\bv D t=bv A n+bv B m/\w.S w':=by
 obtain⟨i0,hi,hz0,hz1,hz2⟩:=info_parts Tryz.info4
 obtain⟨k,hk1,hk2,hk3,hk4,hk5⟩:∃k,n<=k/\m<=k/\k<=2147483648/\k<=max n m/\(k=n∨k=m):=by
  rcases Nat.le_total n m with h | h
  . exact⟨m,h,Nat.le_refl _,hm,Nat.le_max_right _ _,Or.inr rfl⟩
  . exact⟨n,Nat.le_refl _,h,hn,Nat.le_max_left _ _,Or.inl rfl⟩
 have HK:=ae hk4;go_enter Tryz.func142,Tryz.ntmps142;go_wp2
 go_loopw [5,6,7] (fun v c t wr=>∃(i:Nat) (cb:Bool) (D:Nat->Bool),i<=k/\t=.i i/\c=.bool cb/\Hid (v≠ .n)/\wr.ownsRow w.heap.size 4 1 v i (bl D i)/\w.S wr/\Hid (pt D A B n m i cb)) (fun _ _ t _=>k-(intOf t).toNat)
 case atStart=>exact⟨0,false,fun _=>false,Nat.zero_le _,rfl,rfl,ae qz,pv w #[] 0 (Nat.le_refl _) qd rfl,bJ _ _,ae (by simp[pt,bv])⟩
 case round=>
  obtain⟨i,cb,D,hin,rfl,rfl,HN,hown,hs,HR⟩:=hrel
  by_cases hlt:i<n
  . by_cases him:i<m
    . obtain⟨rfl,hc⟩:=hA i hlt
      have g0:wr.cell? (jj b (off+i))=some (.bool (A i)):=by rw[hs.cell (a:=jj b (off+i)) (hA.lt om)];exact hc
      obtain⟨x,hx⟩:∃x,x=A i:=⟨_,rfl⟩;rw[<-hx] at g0;have HX:Hid (ext A n i=x):=by simp[Hid,ext,hlt,hx]
      clear hx;obtain⟨rfl,hc⟩:=hB i him;have g1:wr.cell? (jj b' (off'+i))=some (.bool (B i)):=by rw[hs.cell (a:=jj b' (off'+i)) (hB.lt om)];exact hc
      obtain⟨y,hy⟩:∃y,y=B i:=⟨_,rfl⟩;rw[<-hy] at g1;have HY:Hid (ext B m i=y):=by simp[Hid,ext,him,hy]
      clear hc hy;have HS:=ae (mq HR.out HX.out HY.out)
      go_wp2_with (at_builtin;refine wpList_append_own _ rfl _ _ 125 rfl w.heap.size 4 i0 (.bool false) 1 1 Tryz.underlying125 hi hz0 hz1 hz2 rfl qd _ _ _ rfl (hown.alloc _) (jh wr 0) 1 1 [.bool _] rfl rfl (bO _ _ _) (bZ _ rfl) (by unfold maxLen;omega) om (by have:=hs.size;simp;omega) ?_)
      intro v' w1 hown' hgrow hnn;have hs1:=(hs.alloc hs.size _).grown hgrow (by have:=hs.size;simp;omega) (fun k hk=>(hown.lt k hk).1);have HN':=ae hnn;rw[aci x y cb,<-rG] at hown';cases x<;>cases y<;>cases cb
      all_goals
       go_wp2;go_roundw
       case rel=>exact⟨i+1,_,_,om,by go_num,rfl,HN',hown',hs1,HS⟩
       case measure=>simp[intOf];omega
    . obtain⟨rfl,hc⟩:=hA i hlt
      have g0:wr.cell? (jj b (off+i))=some (.bool (A i)):=by rw[hs.cell (a:=jj b (off+i)) (hA.lt om)];exact hc
      obtain⟨x,hx⟩:∃x,x=A i:=⟨_,rfl⟩;rw[<-hx] at g0;have HX:Hid (ext A n i=x):=by simp[Hid,ext,hlt,hx]
      clear hx;have HY:Hid (ext B m i=false):=by simp[Hid,ext,him]
      have HS:=ae (mq HR.out HX.out HY.out)
      go_wp2_with (at_builtin;refine wpList_append_own _ rfl _ _ 125 rfl w.heap.size 4 i0 (.bool false) 1 1 Tryz.underlying125 hi hz0 hz1 hz2 rfl qd _ _ _ rfl (hown.alloc _) (jh wr 0) 1 1 [.bool _] rfl rfl (bO _ _ _) (bZ _ rfl) (by unfold maxLen;omega) om (by have:=hs.size;simp;omega) ?_)
      intro v' w1 hown' hgrow hnn;have hs1:=(hs.alloc hs.size _).grown hgrow (by have:=hs.size;simp;omega) (fun k hk=>(hown.lt k hk).1);have HN':=ae hnn;rw[acj x cb,<-rG] at hown';cases x<;>cases cb
      all_goals
       go_wp2;go_roundw
       case rel=>exact⟨i+1,_,_,om,by go_num,rfl,HN',hown',hs1,HS⟩
       case measure=>simp[intOf];omega
  . by_cases him:i<m
    . have HX:Hid (ext A n i=false):=by simp[Hid,ext,hlt]
      obtain⟨rfl,hc⟩:=hB i him;have g1:wr.cell? (jj b' (off'+i))=some (.bool (B i)):=by rw[hs.cell (a:=jj b' (off'+i)) (hB.lt om)];exact hc
      obtain⟨y,hy⟩:∃y,y=B i:=⟨_,rfl⟩;rw[<-hy] at g1;have HY:Hid (ext B m i=y):=by simp[Hid,ext,him,hy]
      clear hc hy;have HS:=ae (mq HR.out HX.out HY.out)
      go_wp2_with (at_builtin;refine wpList_append_own _ rfl _ _ 125 rfl w.heap.size 4 i0 (.bool false) 1 1 Tryz.underlying125 hi hz0 hz1 hz2 rfl qd _ _ _ rfl (hown.alloc _) (jh wr 0) 1 1 [.bool _] rfl rfl (bO _ _ _) (bZ _ rfl) (by unfold maxLen;omega) om (by have:=hs.size;simp;omega) ?_)
      intro v' w1 hown' hgrow hnn;have hs1:=(hs.alloc hs.size _).grown hgrow (by have:=hs.size;simp;omega) (fun k hk=>(hown.lt k hk).1);have HN':=ae hnn;rw[ae0 y cb,<-rG] at hown';cases y<;>cases cb
      all_goals
       go_wp2;go_roundw
       case rel=>exact⟨i+1,_,_,om,by go_num,rfl,HN',hown',hs1,HS⟩
       case measure=>simp[intOf];omega
    . have e:i=k:=om
      subst e;have HE:=ae (aaO HR.out hk1 hk2);cases cb
      . obtain⟨g,cap3,rfl,hmc,hg,hD⟩:=gI hown HN.out
        go_wp2_with fail;refine (fS om hmc hD).mono ?_;rintro e w1 ⟨rfl,rfl⟩;go_wp2;go_ret;have htl:=co D i;have:=HK.out;exact⟨g,_,cap3,D,rfl,om,om,hD.take htl,hg,fun h=>cI _ _ h,(jZ _ _).trans (by have:=HE.out;simpa using this),hs⟩
      . go_wp2_with (at_builtin;refine wpList_append_own _ rfl _ _ 125 rfl w.heap.size 4 i0 (.bool false) 1 1 Tryz.underlying125 hi hz0 hz1 hz2 rfl qd _ _ _ rfl (hown.alloc _) (jh wr 0) 1 1 [.bool true] rfl rfl (bO _ _ _) (bZ _ rfl) (by unfold maxLen;omega) om (by have:=hs.size;simp;omega) ?_)
        intro v' w1 hown' hgrow hnn;have hs1:=(hs.alloc hs.size _).grown hgrow (by have:=hs.size;simp;omega) (fun k hk=>(hown.lt k hk).1);rw[<-rG] at hown';obtain⟨g,cap3,rfl,hmc,hg,hD⟩:=gI hown' hnn;go_wp2_with fail;refine (fS om hmc hD).mono ?_;rintro e w2 ⟨rfl,rfl⟩;go_wp2;go_ret;have htl:=co (fX D i true) (i+1);have:=HK.out;refine⟨g,_,cap3,fX D i true,rfl,om,om,hD.take htl,hg,fun h=>cI _ _ h,(jZ _ _).trans ?_,hs1⟩;have h9:=HE.out;simp only[bv,bK,abI D i true i (Nat.le_refl _)];exact h9
end Go.Proofs.YtclgkofcooibfaaGreatDoor
