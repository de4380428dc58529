import Derived.Test.YtinihjgnnlemmaaGreatDoorChecked
import Derived.Test.YtinihjgnnlemmaaGreatDoorOwnP1
import Derived.WalkKit
import Derived.Deep.OwnRows
import Derived.Deep.Light
import Derived.BigQuiet
set_option maxHeartbeats 6400000
set_option maxRecDepth 100000
namespace Go
theorem World.Since.tr{B:Nat}{w w' w'':World}(h:w.Since B w')(k:w'.Since w'.heap.size w'')(e:B<=w'.heap.size:=by first|exact World.Since.size ‹_›|omega):w.Since B w'':=h.trans ⟨k.os,k.tape,k.output,k.size,fun j hj=>k.block j (Nat.lt_of_lt_of_le hj e)⟩
end Go
namespace Go
abbrev Value.i(x:Int):Value:=.int .i64 x
abbrev jj(b o:Nat):Addr:=⟨b,o,none⟩
abbrev jp(b o:Nat):Option Addr:=some ⟨b,o,none⟩
abbrev Value.s(b n c:Nat):Value:=.slice (some ⟨b,0,none⟩) n c
abbrev Value.p(b o:Nat):Value:=.pointer (some ⟨b,o,none⟩)
abbrev Value.l(a:Option Addr)(n c:Nat):Value:=.slice a n c
abbrev Obj.o(a:Array Value)(t:TypeId):Obj:=.cells a t
abbrev Value.n:Value:=.slice none 0 0
abbrev World.S(w v:World):Prop:=w.Since w.heap.size v
end Go
namespace Go.Proofs.YtinihjgnnlemmaaGreatDoor
open Tryz Go.RowKit
variable{w v W V:World}{m c d k j b q t r g h e:Nat}{a A B:Option Addr}{X Y Z:Nat->Nat}{u U:Value}{f F:Bool}{z y:Int}
theorem kr {p:Prop}(h:p:=by kernel_rfl):p:=h
theorem sM{B B':Nat}{w w':World}(h:w.Since B w')(hB:B'<=B):w.Since B' w':=⟨h.os,h.tape,h.output,h.size,fun k hk=>h.block k (Nat.lt_of_lt_of_le hk hB)⟩
theorem fA(w:World)(o:Obj):w.Since w.heap.size (w.alloc o):=(World.Since.refl _ _).alloc (Nat.le_refl _) _
theorem uB(w:World):w.Since w.heap.size w.drew:=(World.Since.refl _ _).drew
theorem lM{a b:Addr}{v:Value}(h:a≠b:=by simp):(w.setCell a v).cell? b=w.cell? b:=World.cell?_setCell_other _ _ _ _ h
theorem yD{B:Nat}:w.Since B w:=World.Since.refl B w
theorem yG{p:Prop}(h:p:=by first | (go_simp;done) | (go_simp;with_reducible rfl) | kernel_rfl):p:=h
theorem yI{p:Prop}(h:p:=by simp[intOf];omega):p:=h
abbrev yJ:Obj:=.cells #[.bool false,.n,.n] 70
abbrev aF:=@Go.World.Since.refl
abbrev aG:=@Go.World.block_lt_of_cell?
abbrev aI:=@Go.World.cell?_setCell_other
abbrev aO:=@Go.World.cell?_of_block
abbrev aQ:=@Go.World.cell?_setCell_same
abbrev bO:=@Go.bodyPost_ret
abbrev dK:=@Go.World.frozen?_of_block
abbrev fN:=@Go.RowKit.Below.heap_setCell
abbrev gK:=@Go.wpList_append_own
abbrev iE:=@Go.World.cell?_alloc_old
abbrev iP:=@Go.World.ownsRow_made
abbrev iY:=@Go.World.rowIs_made
abbrev kT:=@Go.info_parts
abbrev mJ:=@Go.World.rowIs_alloc
abbrev mT:=@Go.Addr.add_lit
abbrev nS:=@Go.Deep.blk_alloc_new
abbrev pD:=@Go.IntKind.wrap_u64
abbrev tG:=@Go.Result.andThen_ok
abbrev tR:=@Go.IntKind.wrap_i64
theorem ag3{a b c d e f:Value}:(Value.agg #[a,b,c]=Value.agg #[d,e,f])=(a=d/\b=e/\c=f):=by simp only[Value.agg.injEq,Array.mk.injEq,List.cons.injEq,and_true]
theorem mo{f:FuncId}{a:Array Value}{V:Value}{S:World->Prop}{Q:Ending->World->Prop}(h:Calls Tryz.prog f a w fun e w'=>e=.returned V/\S w')(k:∀w',S w'->Q (.returned V) w'):Calls Tryz.prog f a w Q:=h.mono fun _ w' ⟨a,b⟩=>a▸k w' b
theorem mp{f:FuncId}{a:Array Value}{V:Value}{Q:Ending->World->Prop}(h:Calls Tryz.prog f a w fun e w'=>e=.returned V/\w'=v)(k:Q (.returned V) v):Calls Tryz.prog f a w Q:=h.mono fun _ _ ⟨a,b⟩=>a▸b▸k
abbrev pR:=List (Nat×List ByteArray)
abbrev AfQ:=Nat×Nat×List Rat×List Rat
abbrev Cl:=Calls Tryz.prog
theorem nF:(Tryz.prog.info? 133).map (fun i=>(i.zero,i.size,i.bytes))=some (some (.int .u32 0),1,4):=by kernel_rfl
theorem wY:(Tryz.prog.info? 4).map (fun i=>(i.zero,i.size,i.bytes))=some (some (.bool false),1,1):=by kernel_rfl
theorem eI{p:Prop}(h:p):Hid p:=h
theorem jq{k:IntKind}{a:Int}(h:a=z):Ending.returned (.int k a)=.returned (.int k z):=by rw[h]
def eO(w:World)(a:Option Addr)(b off n:Nat)(X:Nat->Nat):Prop:=
 ∀j,j<n->a=some ⟨b,off,none⟩/\w.cell? ⟨b,off+j,none⟩=some (.int .u32 (X j))
def jx(w:World)(a:Option Addr)(b off n:Nat)(B:Nat->Bool):Prop:=
 ∀j,j<n->a=some ⟨b,off,none⟩/\w.cell? ⟨b,off+j,none⟩=some (.bool (B j))
structure Same(w w':World):Prop where
 os:w'.os=w.os
 tape:w'.tape=w.tape
 output:w'.output=w.output
 heap:w'.heap=w.heap
theorem Same.refl(w:World):Same w w:=⟨rfl,rfl,rfl,rfl⟩
theorem Same.drewN(h:Same w v)(n:Nat):Same w (v.drewN n):=⟨h.os,h.tape,h.output,h.heap⟩
theorem Same.cell(h:Same w v)(a:Addr):v.cell? a=w.cell? a:=by simp[World.cell?,h.heap]
theorem Same.frozen(h:Same w v)(a:Addr):v.frozen? a=w.frozen? a:=by simp[World.frozen?,h.heap]
theorem Same.size(h:Same w v):v.heap.size=w.heap.size:=by rw[h.heap]
theorem Same.since(h:Same w v)(B:Nat):w.Since B v:=⟨h.os,h.tape,h.output,by rw[h.heap];exact aC _,fun k _=>by rw[h.heap]⟩
def Shape(w:World)(b:Nat)(t:TypeId)(n:Nat):Prop:=∃cur:Array Value,w.heap[b]?=some (.cells cur t)/\cur.size=n
theorem Shape.setCell{n:Nat}{t:TypeId}(h:Shape w n t m)(c d:Nat)(u:Value):Shape (w.setCell ⟨c,d,none⟩ u) n t m:=by
 obtain⟨a,b,f⟩:=h;by_cases e:c=n
 . subst e;have r:w.rowIs c t m (fun j=>a[j]?.getD (.bool false)):=⟨a,b,f,fun j l=>by show a[j]?=some (a[j]?.getD (.bool false));rw[Array.getElem?_eq_getElem om];rfl⟩;obtain⟨g,i,k,-⟩:=r.set d u;exact⟨g,i,k⟩
 . exact⟨a,(fN _ _ _ _ (fL e)).trans b,f⟩
theorem Shape.since{n B:Nat}{t:TypeId}(h:Shape w n t m)(s:w.Since B v)(hb:n<B):Shape v n t m:=by
 obtain⟨a,c,d⟩:=h;exact⟨a,(s.block n hb).trans c,d⟩
theorem Shape.of_block{n:Nat}{t:TypeId}(h:Shape w n t m)(e:v.heap[n]?=w.heap[n]?):Shape v n t m:=by
 obtain⟨a,c,d⟩:=h;exact⟨a,e.trans c,d⟩
theorem Shape.lt{n:Nat}{t:TypeId}(h:Shape w n t m):n<w.heap.size:=by
 obtain⟨c,a,-⟩:=h;exact (dM.1 a).1
structure eM(w w':World)(b:Nat):Prop where
 os:w'.os=w.os
 tape:w'.tape=w.tape
 output:w'.output=w.output
 size:w'.heap.size=w.heap.size
 other:∀k,k≠b->w'.heap[k]?=w.heap[k]?
 frozen:∀o,w'.frozen? ⟨b,o,none⟩=w.frozen? ⟨b,o,none⟩
 shape:∀t n,Shape w b t n->Shape w' b t n
theorem eM.refl(w:World)(n:Nat):eM w w n:=⟨rfl,rfl,rfl,rfl,fun _ _=>rfl,fun _=>rfl,fun _ _ h=>h⟩
theorem eM.setCell{n:Nat}(h:eM w v n)(m:Nat)(u:Value):eM w (v.setCell ⟨n,m,none⟩ u) n:=
 ⟨h.os,h.tape,h.output,by rw[<-h.size];simp[World.setCell],fun k a=>by rw[<-h.other k a];exact fN _ _ _ _ a,fun c=>by rw[<-h.frozen c];simp,fun t b k=>(h.shape t b k).setCell _ _ _⟩
theorem eM.since{n B:Nat}(h:eM w v n)(a:B<=n):w.Since B v:=
 ⟨h.os,h.tape,h.output,by rw[h.size];exact aC _,fun k c=>h.other k om⟩
theorem eM.cell{n:Nat}(h:eM w v n){a:Addr}(c:a.block≠n):v.cell? a=w.cell? a:=aO (w:=w) (h.other _ c)
theorem eM.bU{n:Nat}(h:eM w v n){a:Addr}(c:a.block≠n):v.frozen? a=w.frozen? a:=dK (w:=w) (h.other _ c)
section
variable{w w':World}{a:Option Addr}{b off n m B:Nat}{X Y:Nat->Nat}{T:Nat->Bool}
theorem eO.lt(h:eO w a b off n X)(c:0<n):b<w.heap.size:=aG _ _ (h 0 c).2
theorem jx.lt(h:jx w a b off n T)(c:0<n):b<w.heap.size:=aG _ _ (h 0 c).2
theorem eO.since(h:eO w a b off n X)(d:w.Since B w')(hb:0<n->b<B):eO w' a b off n X:=
 fun j c=>⟨(h j c).1,by rw[d.cell (a:=jj b (off+j)) (hb om)];exact (h j c).2⟩
theorem eO.aA(h:eO w a b off n X)(c:w.S w'):eO w' a b off n X:=h.since c h.lt
theorem jx.since(h:jx w a b off n T)(d:w.Since B w')(hb:0<n->b<B):jx w' a b off n T:=
 fun j c=>⟨(h j c).1,by rw[d.cell (a:=jj b (off+j)) (hb om)];exact (h j c).2⟩
theorem jx.aA(h:jx w a b off n T)(c:w.S w'):jx w' a b off n T:=h.since c h.lt
theorem eO.same(h:eO w a b off n X)(d:Same w w'):eO w' a b off n X:=
 fun j c=>⟨(h j c).1,by rw[d.cell];exact (h j c).2⟩
theorem jx.same(h:jx w a b off n T)(d:Same w w'):jx w' a b off n T:=
 fun j c=>⟨(h j c).1,by rw[d.cell];exact (h j c).2⟩
theorem eO.marked(h:eO w a b off n X)(f:eM w w' m)(e:0<n->b≠m):eO w' a b off n X:=
 fun j d=>⟨(h j d).1,by rw[f.cell (a:=jj b (off+j)) (e om)];exact (h j d).2⟩
theorem eO.take(h:eO w a b off n X)(d:m<=n):eO w a b off m X:=fun j c=>h j om
theorem jx.take(h:jx w a b off n T)(d:m<=n):jx w a b off m T:=fun j c=>h j om
theorem eO.congr(h:eO w a b off n X)(e:∀j,j<n->X j=Y j):eO w a b off n Y:=fun j c=>by rw[<-e j c];exact h j c
theorem lI(h:w.rowIs b 133 n (fun j=>.int .u32 (X j))):eO w (jp b 0) b 0 n X:=
 fun j a=>⟨rfl,by rw[aZ];exact h.cell a⟩
theorem yY(h:w.rowIs b 4 n (fun j=>.bool (T j))):jx w (jp b 0) b 0 n T:=
 fun j a=>⟨rfl,by rw[aZ];exact h.cell a⟩
end
theorem xp{P:Nat->Bool}{n:Nat}(a:0<n)(h:P (n-1)=false):iy P (n-1)=iy P n:=by
 obtain⟨m,rfl⟩:∃m,n=m+1:=⟨n-1,om⟩;simp only[cF] at*;simp[iy,h]
theorem zS{P:Nat->Bool}{n:Nat}(a:0<n)(h:P (n-1)=true):iy P n=n:=by
 obtain⟨m,rfl⟩:∃m,n=m+1:=⟨n-1,om⟩;simp only[cF] at*;simp[iy,h]
theorem ad0{n:Nat}(h:n=m):Ending.returned (.slice a n c)=.returned (.slice a m c):=by rw[h]
theorem mb{n:Nat}{B:Nat->Bool}(r:c<=281474976710656)(s:c<=d)(l:jx w a n m c B):
 Cl 141 #[.slice a c d] w fun e o=>e=.returned (.slice a (iy B c) d)/\o=w:=by
 go_enter func141,ntmps141;go_wp2;go_loop [3] (fun i=>∃k:Nat,k<=c/\i=.i k/\iy B k=iy B c) (fun i=>(intOf i).toNat)
 case atStart=>exact⟨c,aC _,rfl,rfl⟩
 case round=>
  obtain⟨k,q,rfl,h⟩:=hrel;have f:Hid (iy B k=iy B c):=h;by_cases j:0<k
  . obtain⟨rfl,g⟩:=l (k-1) om;cases hB:B (k-1)
    . rw[hB] at g;have b:Hid (B (k-1)=false):=hB;go_wp2;go_round
      case rel=>exact⟨k-1,om,by go_num,(xp j b.out).trans f.out⟩
      case measure=>exact yI
    . rw[hB] at g;have b:Hid (B (k-1)=true):=hB;go_wp2;go_ret;exact⟨ad0 ((zS j b.out).symm.trans f.out),rfl⟩
  . have e:k=0:=om;subst e;go_wp2;go_ret;exact⟨ad0 f.out,rfl⟩
theorem ak4{n:Nat}(v:d<=281474976710656)(x:d<=k)
 (s:w.cell? (jj n 0)=some (.l a d k))(t:w.frozen? (jj n 0)=false)(h:eO w a m c d X):
 Cl 135 #[.p n 0] w fun e r=>e=.returned (.tuple #[])/\r=w.setCell ⟨n,0,none⟩ (.slice a (iy (nz X) d) k):=by
 go_enter func135,ntmps135;go_wp2;go_loop [2] (fun i=>∃b:Nat,b<=d/\i=.i b/\iy (nz X) b=iy (nz X) d) (fun i=>(intOf i).toNat)
 case atStart=>exact⟨d,aC _,rfl,rfl⟩
 case round=>
  obtain⟨b,u,rfl,q⟩:=hrel;have f:Hid (iy (nz X) b=iy (nz X) d):=q;by_cases l:0<b
  . obtain⟨rfl,o⟩:=h (b-1) om;by_cases j:X (b-1)=0
    . rw[j] at o;have g:Hid (nz X (b-1)=false):=(by simp[Hid,nz,j]);go_wp2;go_round
      case rel=>exact⟨b-1,om,by go_num,(xp l g.out).trans f.out⟩
      case measure=>exact yI
    . have g:Hid (nz X (b-1)=true):=(by simp[Hid,nz,j]);have y:((X (b-1):Int)==0)=false:=(by simp;omega);go_wp2;go_end0;exact⟨rfl,by rw[<-f.out,zS l g.out]⟩
  . have e:b=0:=om;subst e;go_wp2;go_end0;exact⟨rfl,by rw[<-f.out];rfl⟩
theorem yj{n:Nat}(f:c<=281474976710656)(g:c<=d)(b:eO w a n m c X):
 Cl 95 #[.slice a c d] w fun e i=>e=.returned (.slice a (iy (nz X) c) d)/\w.S i:=by
 go_enter func95,ntmps95;go_wp2_with fail;refine mp (ak4 f g (by simp[go_sem]) (by simp[go_sem]) (b.aA (yD.alloc zR _))) ?_;go_wp2;go_ret;exact⟨rfl,fA _ _⟩
theorem lZ{n:Nat}{i:Nat}(x:k<=281474976710656)(y:k<=i)
 (t:w.cell? (jj n m)=some (.l a k i))(u:w.frozen? (jj n m)=false)(o:eO w a c d k X):
 Cl 135 #[.p n m] w fun e s=>e=.returned (.tuple #[])/\s=w.setCell ⟨n,m,none⟩ (.slice a (iy (nz X) k) i):=by
 go_enter func135,ntmps135;go_wp2;go_loop [2] (fun h=>∃b:Nat,b<=k/\h=.i b/\iy (nz X) b=iy (nz X) k) (fun h=>(intOf h).toNat)
 case atStart=>exact⟨k,aC _,rfl,rfl⟩
 case round=>
  obtain⟨b,v,rfl,r⟩:=hrel;have f:Hid (iy (nz X) b=iy (nz X) k):=r;by_cases l:0<b
  . obtain⟨rfl,q⟩:=o (b-1) om;by_cases j:X (b-1)=0
    . rw[j] at q;have g:Hid (nz X (b-1)=false):=(by simp[Hid,nz,j]);go_wp2;go_round
      case rel=>exact⟨b-1,om,by go_num,(xp l g.out).trans f.out⟩
      case measure=>exact yI
    . have g:Hid (nz X (b-1)=true):=(by simp[Hid,nz,j]);have z:((X (b-1):Int)==0)=false:=(by simp;omega);go_wp2;go_end0;exact⟨rfl,by rw[<-f.out,zS l g.out]⟩
  . have e:b=0:=om;subst e;go_wp2;go_end0;exact⟨rfl,by rw[<-f.out];rfl⟩
theorem nN{n m:Nat}{a:Option Addr}{c d:Nat}{w:World}(f:w.cell? (jj n m)=some (.l a c d)):
 Cl 96 #[.p n m] w fun e b=>e=.returned (.bool ((c:Int)==0))/\b=w:=by
 go_enter func96,ntmps96;go_wp2;go_ret;exact⟨rfl,rfl⟩
theorem akm(h:z<y):Cl 228 #[.i z,.i y] w fun e a=>e=.returned (.i (-1))/\a=w:=by
 go_enter func228,ntmps228;go_wp2;go_ret;exact⟨rfl,rfl⟩
theorem akn(h:y<z):Cl 228 #[.i z,.i y] w fun e a=>e=.returned (.i 1)/\a=w:=by
 go_enter func228,ntmps228;go_wp2;go_ret;exact⟨rfl,rfl⟩
theorem ahK(h:z<y):Cl 229 #[.int .u32 z,.int .u32 y] w fun e a=>e=.returned (.i (-1))/\a=w:=by
 go_enter func229,ntmps229;go_wp2;go_ret;exact⟨rfl,rfl⟩
theorem ahL(h:y<z):Cl 229 #[.int .u32 z,.int .u32 y] w fun e a=>e=.returned (.i 1)/\a=w:=by
 go_enter func229,ntmps229;go_wp2;go_ret;exact⟨rfl,rfl⟩
theorem ru{n:Nat}{i l o:Nat}(hn:k<=281474976710656)(hm:o<=281474976710656)(R:w.cell? (jj n m)=some (.l a k i))
 (N:eO w a c d k X)(O:eO w A j l o Y)(G:∀v,v<k->X v<4294967296)(H:∀v,v<o->Y v<4294967296)(tA:0<k->X (k-1)≠0)(tB:0<o->Y (o-1)≠0):
 Cl 212 #[.p n m,.slice A o b] w fun e w'=>e=.returned (.i (lq (lv X k) (lv Y o)))/\Same w w':=by
 by_cases q:k<o
 . rw[uh (ve G q tB)];go_enter func212,ntmps212;go_wp2_with fail;refine (akm om).mono ?_;rintro e w1 ⟨rfl,rfl⟩;go_wp2;go_ret;exact⟨rfl,Same.refl _⟩
 by_cases g:o<k
 . rw[yU (ve H g tA)];go_enter func212,ntmps212;go_wp2_with fail;refine mp (akn om) ?_;go_wp2;go_ret;exact⟨rfl,Same.refl _⟩
 have e:o=k:=om;subst e;have I:=eI G;have L:=eI H;go_enter func212,ntmps212;go_wp2;go_loopw [5] (fun t wr=>∃(C:Nat) (z:Int),C<=o/\t=.i z/\Hid (z=C-1)/\Same w wr/\Hid (∀v,C<=v->v<o->X v=Y v)) (fun t _=>(intOf t+1).toNat)
 case atStart=>exact⟨o,(o:Int)-1,aC _,rfl,rfl,Same.refl _,fun v q g=>absurd g om⟩
 case round=>
  obtain⟨C,z,hk,rfl,D,h,s⟩:=hrel;by_cases W:0<=z
  . obtain⟨u,rfl⟩:=jW W;have U:C=u+1:=(by have:=D.out;omega);subst U;obtain⟨rfl,P⟩:=N u om;obtain⟨rfl,Q⟩:=O u om;have p:wr.cell? (jj c (d+u))=some (.int .u32 (X u)):=(by rw[h.cell];exact P);have x:wr.cell? (jj j (l+u))=some (.int .u32 (Y u)):=(by rw[h.cell];exact Q);have y:wr.cell? (jj n m)=some (.l (jp c d) o i):=(by rw[h.cell];exact R);have ac:(u:Int)<o:=om;by_cases F:X u=Y u
    . have K:Hid (X u=Y u):=F;rw[F] at p;go_wp2;go_quiet (fail);go_wp2;go_roundw
      case rel=>
       refine⟨u,(u:Int)-1,om,rfl,rfl,h.drewN _,fun v q g=> ?_⟩;by_cases e:v=u
       . subst e;exact K.out
       . exact s.out v om g
      case measure=>simp[intOf]
    . have ab:((X u:Int)==(Y u:Int))=false:=(by simp;omega);by_cases V:X u<Y u
      . have E:Hid (lq (lv X o) (lv Y o)=-1):=uh (alt I.out (i:=u) om (fun v q g=>s.out v om g) V);go_wp2;go_quiet (fail);go_wp2;have r:=h.drewN nq;obtain⟨f,B⟩:∃f,f=wr.drewN nq:=⟨_,rfl⟩;have M:f.cell? (jj c (d+u))=some (.int .u32 (X u)):=(by rw[B];exact p);have Z:f.cell? (jj j (l+u))=some (.int .u32 (Y u)):=(by rw[B];exact x);have ad:f.cell? (jj n m)=some (.l (jp c d) o i):=(by rw[B];exact y);rw[<-B] at r⊢;clear B p x y;go_quiet ((go_at_call 229;exact Calls.quiet_of_same (ahK om)));go_wp2;go_ret;exact⟨jq E.out.symm,r.drewN _⟩
      . have E:Hid (lq (lv X o) (lv Y o)=1):=yU (alt L.out (i:=u) om (fun v q g=>(s.out v om g).symm) om);have aa:Y u<X u:=om;go_wp2;go_quiet (fail);go_wp2;have r:=h.drewN nq;obtain⟨f,B⟩:∃f,f=wr.drewN nq:=⟨_,rfl⟩;have M:f.cell? (jj c (d+u))=some (.int .u32 (X u)):=(by rw[B];exact p);have Z:f.cell? (jj j (l+u))=some (.int .u32 (Y u)):=(by rw[B];exact x);have ad:f.cell? (jj n m)=some (.l (jp c d) o i):=(by rw[B];exact y);rw[<-B] at r⊢;clear B p x y;go_quiet ((go_at_call 229;exact Calls.quiet_of_same (ahL om)));go_wp2;go_ret;exact⟨jq E.out.symm,r.drewN _⟩
  . have T:C=0:=(by have:=D.out;omega);subst T;have E:Hid (lq (lv X o) (lv Y o)=0):=ep (jS (fun v S=>s.out v om S));go_wp2;go_ret;exact⟨jq E.out.symm,h⟩
def bl(B:Nat->Bool)(m:Nat):List Value:=(List.range m).map fun j=>.bool (B j)
theorem qS(B:Nat->Bool)(n:Nat):(bl B n).length=n:=by simp[bl]
theorem er(B:Nat->Bool)(n:Nat):bl B (n+1)=bl B n++[.bool (B n)]:=by simp[bl,gY]
theorem uj(B:Nat->Bool)(n m:Nat)(h:m<n):(bl B n)[m]?=some (.bool (B m)):=by simp[bl,h]
def ll(X:Nat->Nat)(m:Nat):List Value:=(List.range m).map fun j=>.int .u32 (X j)
theorem vg(X:Nat->Nat)(n:Nat):(ll X n).length=n:=by simp[ll]
theorem tV(X:Nat->Nat)(n:Nat):ll X (n+1)=ll X n++[.int .u32 (X n)]:=by simp[ll,gY]
theorem xK(X:Nat->Nat)(n m:Nat)(h:m<n):(ll X n)[m]?=some (.int .u32 (X m)):=by simp[ll,h]
theorem aft{n:Nat}{B:Nat->Bool}(h:w.ownsRow n 4 1 u m (bl B m)):
 ∃a g b,u=.slice a m b/\m<=b/\(0<m->n<=g)/\jx w a g 0 m B:=by
 have d:= @World.ownsRow.cells _ _ _ _ _ _ _ h;rcases h.2 with ⟨rfl,rfl⟩ | ⟨g,b,f,rfl,hb,i,e,_⟩
 . exact⟨none,0,0,rfl,aC _,fun h=>absurd h om,fun j c=>absurd c om⟩
 . refine⟨_,g,b,rfl,e,fun _=>hb,fun j c=>⟨rfl, ?_⟩⟩;have:=d (g:=g) rfl j _ (uj B m j c);rw[mT] at this;exact this
theorem ap0(X:Nat->Nat)(n m c:Nat)(d:m<32)(e:c=X n/2^m):((c:Int) % 2==1)=bitsOf X (32*n+m):=by
 have a:(32*n+m)/32=n:=om;have b:(32*n+m) % 32=m:=om;unfold bitsOf;rw[a,b,<-e,gG];simp only[jJ];omega
theorem an9(X:Nat->Nat)(n m c:Nat)(a:c=X n/2^m):c/2=X n/2^(m+1):=by
 rw[a,mU,iH]
theorem i8{a:Option Addr}{n m c d:Nat}{X:Nat->Nat}{w:World}(hn:c<=67108864)(y:eO w a n m c X)(z:∀j,j<c->X j<4294967296):
 Cl 101 #[.slice a c d] w fun e Z=>∃f g p l B,e=.returned (.slice f p l)/\p<=l/\p<=32*c/\jx Z f g 0 p B/\(0<p->w.heap.size<=g)/\
  (0<p->B (p-1)=true)/\bv B p=lv X c/\w.S Z:=by
 obtain⟨V,N,S,T,U⟩:=kT wY;go_enter func101,ntmps101;go_wp2;go_loopw [3,4] (fun v q wr=>∃i:Nat,i<=c/\q=.i i/\wr.ownsRow w.heap.size 4 1 v (32*i) (bl (bitsOf X) (32*i))/\w.S wr) (fun _ i _=>c-(intOf i).toNat)
 case atStart=>exact⟨0,aJ _,rfl,iP w #[] 0 zR qd rfl,fA _ _⟩
 case round=>
  obtain⟨i,ab,rfl,I,b⟩:=hrel;by_cases C:i<c
  . obtain⟨rfl,K⟩:=y i C;have Y:wr.cell? (jj n (m+i))=some (.int .u32 (X i)):=(by rw[b.cell (a:=jj n (m+i)) (y.lt om)];exact K);have R:=z i C;go_wp2;go_loopw [3,5,6] (fun v x t H=>∃k q:Nat,k<=32/\t=.i k/\x=.int .u32 q/\q=X i/2^k/\q<4294967296/\H.ownsRow w.heap.size 4 1 v (32*i+k) (bl (bitsOf X) (32*i+k))/\w.S H) (fun _ _ t _=>32-(intOf t).toNat)
    case atStart=>exact⟨0,X i,om,rfl,rfl,qz,R,I,b⟩
    case round=>
     obtain⟨k,q,A,rfl,rfl,E,aa,I,b⟩:=hrel;have r:Hid (q=X i/2^k):=E;clear E;by_cases O:k<32
     . go_wp2_with (at_builtin;refine gK _ rfl _ _ 108 rfl w.heap.size 4 V (.bool false) 1 1 underlying108 N S T U rfl qd _ _ _ rfl (I.alloc _) (jj wr.heap.size 0) 1 1 [.bool ((q:Int) % 2==1)] rfl rfl ?c1 ?c2 ?c3 ?c4 ?c5 ?_)
       case c1=>
        intro j u o
        match j,o with
        | 0,o=>simp at o;subst o;simp[Addr.add]
       case c2=>intro u G;simp at G;subst G;rfl
       case c3=>unfold maxLen;omega
       case c4=>omega
       case c5=>have:=b.size;simp;omega
       intro v' W D M _;have Q:=(b.alloc b.size _).grown M (by have:=b.size;simp;omega) (fun k A=>(I.lt k A).1);rw[ap0 X i k q O r.out,<-er] at D;go_wp2;go_roundw
       case rel=>exact⟨k+1,q/2,om,by go_num,by go_num,an9 X i k q r.out,om,D,Q⟩
       case measure=>exact yI
     . have e:k=32:=om;subst e;go_wp2;go_roundw
       case rel=>exact⟨i+1,om,by go_num,I,b⟩
       case measure=>exact yI
  . have e:i=c:=om;subst e;obtain⟨f,g,l,rfl,P,L,s⟩:=aft I;go_wp2_with fail;refine mp (mb om P s) ?_;go_wp2;go_ret;have F:=jc (bitsOf X) (32*i);exact⟨f,g,_,l,bitsOf X,rfl,om,F,s.take F,fun h=>L om,fun h=>jh _ _ h,(rv _ _).trans (agt X i z),b⟩
theorem mV{n:Nat}{B:Nat->Bool}(h:w.ownsRow n 4 1 u m (bl B m))(e:u≠ .n):
 ∃g a,u=.s g m a/\m<=a/\n<=g/\jx w (jp g 0) g 0 m B:=by
 have b:= @World.ownsRow.cells _ _ _ _ _ _ _ h;rcases h.2 with ⟨rfl,rfl⟩ | ⟨g,a,f,rfl,hb,i,d,_⟩
 . exact absurd rfl e
 . refine⟨g,a,rfl,d,hb,fun j c=>⟨rfl, ?_⟩⟩;have:=b (g:=g) rfl j _ (uj B m j c);rw[mT] at this;exact this
theorem am6{B C:Nat->Bool}{n:Nat}(h:∀j,j<n->B j=C j):bl B n=bl C n:=by
 unfold bl;exact fG (fun j a=>by rw[h j (dU.1 a)])
theorem bh(D:Nat->Bool)(n:Nat)(f:Bool):bl (mN D n f) (n+1)=bl D n++[.bool f]:=by
 rw[er,fR,am6 (fun j a=>eT D n f j om)]
theorem iq(w:World)(u:Value)(t:TypeId):∀j b,[u][j]?=some b->(w.alloc (.cells #[u] t)).cell? (((jj w.heap.size 0):Addr).add j)=some b:=by
 intro j b a
 match j,a with
 | 0,a=>simp at a;subst a;simp[Addr.add]
theorem one_one(u:Value)(h:u.oneCell'=true):∀b∈[u],b.oneCell'=true:=by
 intro b a;simp at a;subst a;exact h
theorem aiq(f F c:Bool):(!(!f==F)==c)=((f != F) != c):=by cases f<;>cases F<;>cases c<;>rfl
theorem air(f F:Bool):(!(f==F))=((f != false) != F):=by cases f<;>cases F<;>rfl
theorem mX{a A:Option Addr}{n m c d k i j l:Nat}{p B:Nat->Bool}{w:World}(hn:c<=4294967296)(hm:j<=c)(P:jx w a n m c p)(Q:jx w A k i j B)(ac:bv B j<=bv p c):
 Cl 188 #[.slice a c d,.slice A j l] w fun e Z=>∃g t O D,e=.returned (.s g t O)/\t<=O/\t<=c/\jx Z (jp g 0) g 0 t D/\w.heap.size<=g/\
  (0<t->D (t-1)=true)/\bv D t=bv p c-bv B j/\w.S Z:=by
 obtain⟨X,S,U,V,W⟩:=kT wY;have ag:Hid (bv B j<=bv p c):=ac;go_enter func188,ntmps188;go_wp2;go_loopw [5,6,7] (fun v aa t wr=>∃(b:Nat) (u:Bool) (D:Nat->Bool),b<=c/\t=.i b/\aa=.bool u/\Hid (v≠ .n)/\wr.ownsRow w.heap.size 4 1 v b (bl D b)/\w.S wr/\Hid (bj D p B j b u)) (fun _ _ t _=>c-(intOf t).toNat)
 case atStart=>exact⟨0,false,fun _=>false,aJ _,rfl,rfl,eI qz,iP w #[] 0 zR qd rfl,fA _ _,eI rfl⟩
 case round=>
  obtain⟨b,u,D,af,rfl,rfl,Y,f,h,q⟩:=hrel;by_cases ad:b<c
  . obtain⟨rfl,L⟩:=P b ad;have g0:wr.cell? (jj n (m+b))=some (.bool (p b)):=(by rw[h.cell (a:=jj n (m+b)) (P.lt om)];exact L);obtain⟨x,I⟩:∃x,x=p b:=⟨_,rfl⟩;rw[<-I] at g0;have M:Hid (p b=x):=I.symm;clear I;by_cases E:b<j
    . obtain⟨rfl,L⟩:=Q b E;have g1:wr.cell? (jj k (i+b))=some (.bool (B b)):=(by rw[h.cell (a:=jj k (i+b)) (Q.lt om)];exact L);obtain⟨y,K⟩:∃y,y=B b:=⟨_,rfl⟩;rw[<-K] at g1;have s:Hid (ext B j b=y):=(by simp[Hid,ext,E,K]);clear L K;have r:=eI (aay q.out M.out s.out);go_wp2_with (at_builtin;refine gK _ rfl _ _ 108 rfl w.heap.size 4 X (.bool false) 1 1 underlying108 S U V W rfl qd _ _ _ rfl (f.alloc _) (jj wr.heap.size 0) 1 1 [.bool _] rfl rfl (iq _ _ _) (one_one _ rfl) (by unfold maxLen;omega) om (by have:=h.size;simp;omega) ?_);intro v' ab z C G;have H:=(h.alloc h.size _).grown C (by have:=h.size;simp;omega) (fun N F=>(f.lt N F).1);have o:=eI G;rw[aiq x y u,<-bh] at z;cases x<;>cases y<;>cases u
      all_goals
       go_wp2;go_roundw
       case rel=>exact⟨b+1,_,_,om,by go_num,rfl,o,z,H,r⟩
       case measure=>exact yI
    . have s:Hid (ext B j b=false):=(by simp[Hid,ext,E]);have r:=eI (aay q.out M.out s.out);go_wp2_with (at_builtin;refine gK _ rfl _ _ 108 rfl w.heap.size 4 X (.bool false) 1 1 underlying108 S U V W rfl qd _ _ _ rfl (f.alloc _) (jj wr.heap.size 0) 1 1 [.bool _] rfl rfl (iq _ _ _) (one_one _ rfl) (by unfold maxLen;omega) om (by have:=h.size;simp;omega) ?_);intro v' ab z C G;have H:=(h.alloc h.size _).grown C (by have:=h.size;simp;omega) (fun N F=>(f.lt N F).1);have o:=eI G;rw[air x u,<-bh] at z;cases x<;>cases u
      all_goals
       go_wp2;go_roundw
       case rel=>exact⟨b+1,_,_,om,by go_num,rfl,o,z,H,r⟩
       case measure=>exact yI
  . have e:b=c:=om;subst e;obtain⟨g,l,rfl,ae,hg,R⟩:=mV f Y.out;go_wp2_with fail;refine mp (mb om ae R) ?_;go_wp2;go_ret;have T:=jc D b;exact⟨g,_,l,D,rfl,om,T,R.take T,hg,fun ah=>jh _ _ ah,(rv _ _).trans (agJ q.out hm ag.out),h⟩
def part(E:Nat->Bool)(s k:Nat):Nat:=bv (fun t=>E (s+k+t)) (32-k)
theorem ajs(E:Nat->Bool)(n m:Nat)(a:m<32):part E n m=2*part E n (m+1)+(E (n+m)).toNat:=by
 unfold part;rw[show 32-m=(32-(m+1))+1 by omega,vv];congr 2;exact mr (fun j _=>by rw[show n+m+(j+1)=n+(m+1)+j by omega])
theorem anb(E:Nat->Bool)(n m:Nat)(b:0<m):part E n m<2147483648:=by
 have h:=ao (fun t=>E (n+m+t)) (32-m);have a:2^(32-m)<=2^31:=dP om om;unfold part;omega
theorem akU(E:Nat->Bool)(n:Nat):part E (32*n) 0=rm E n:=rfl
theorem akT(E:Nat->Bool)(n:Nat):part E n 32=0:=rfl
theorem ane{n:Nat}(h:w.ownsRow n 133 1 u m (ll X m))(c:Nat)(k:n<=c):
 ∃a g b,u=.slice a m b/\m<=b/\(a=none->b=0)/\n<=g/\(g=c∨g<w.heap.size)/\(0<m->g<w.heap.size)/\eO w a g 0 m X/\(0<m->∀o,w.frozen? (jj g o)=false):=by
 have i:= @World.ownsRow.cells _ _ _ _ _ _ _ h;rcases h.2 with ⟨rfl,rfl⟩ | ⟨g,b,p,rfl,hb,e,l,_⟩
 . exact⟨none,c,0,rfl,aC _,fun _=>rfl,k,Or.inl rfl,fun h=>absurd h om,fun j d=>absurd d om,fun h=>absurd h om⟩
 . have f:=(dM.1 e).1;refine⟨_,g,b,rfl,l,fun h=>(by cases h),hb,Or.inr f,fun _=>f,fun j d=>⟨rfl, ?_⟩,fun _ o=>by simp[World.frozen?,e]⟩;have:=i (g:=g) rfl j _ (xK X m j d);rw[mT] at this;exact this
theorem ae1{n:Nat}{B:Nat->Bool}(hn:c<=4294967296)(ab:c<=d)(D:jx w a n m c B):
 Cl 146 #[.slice a c d] w fun e Z=>∃l g h o Y,e=.returned (.slice l h o)/\h<=o/\(l=none->o=0)/\32*h<c+32/\eO Z l g 0 h Y/\(0<h->w.heap.size<=g)/\(0<h->∀ah,Z.frozen? (jj g ah)=false)/\
  (∀j,Y j<4294967296)/\(0<h->Y (h-1)≠0)/\lv Y h=bv B c/\w.S Z:=by
 obtain⟨i0,U,ae,af,ag⟩:=kT nF;obtain⟨h,G⟩:∃h,h=iy B c:=⟨_,rfl⟩;have aa:h<=c:=by rw[G];exact jc _ _
 have u:Hid (h=iy B c):=G;clear G;obtain⟨E,L⟩:∃E,E=ext B h:=⟨_,rfl⟩;have r:Hid (E=ext B h):=L;clear L;have K:=D.take aa;go_enter func146,ntmps146;go_wp2_with fail;refine (mb om ab D).mono ?_;rintro e f ⟨rfl,rfl⟩;rw[<-u.out];clear D;go_wp2;go_loopw [4,5] (fun v t wr=>∃q:Nat,32*q<h+32/\t=.i ((32*q:Nat):Int)/\wr.ownsRow f.heap.size 133 1 v q (ll (rm E) q)/\f.S wr) (fun _ t _=>h+32-(intOf t).toNat)
 case atStart=>exact⟨0,om,rfl,iP f #[] 0 zR qd rfl,fA _ _⟩
 case round=>
  obtain⟨q,hq,rfl,x,H⟩:=hrel;by_cases ai:32*q<h
  . go_wp2;go_loop [6,7] (fun v t=>∃(k p:Nat) (z:Int),k<=32/\t=.i z/\v=.int .u32 p/\Hid (z=k-1)/\Hid (p=part E (32*q) k)) (fun _ t=>(intOf t+1).toNat)
    case atStart=>exact⟨32,0,31,om,rfl,rfl,(by decide:(31:Int)=((32:Nat):Int)-1),(akT E (32*q)).symm⟩
    case round=>
     obtain⟨k,p,z,O,rfl,rfl,C,y⟩:=hrel;by_cases hz:0<=z
     . obtain⟨b,rfl⟩:=jW hz;have W:k=b+1:=(by have:=C.out;omega);subst W;clear C;have hp:=anb E (32*q) (b+1) om;rw[<-y.out] at hp;have A:Hid (part E (32*q) b=2*p+(E (32*q+b)).toNat):=(by have:=ajs E (32*q) b om;rw[<-y.out] at this;exact this);by_cases F:32*q+b<h
       . obtain⟨rfl,M⟩:=K (32*q+b) F;have I:wr.cell? (jj n (m+(32*q+b)))=some (.bool (B (32*q+b))):=(by rw[H.cell (a:=jj n (m+(32*q+b))) (K.lt om)];exact M);have s:Hid (E (32*q+b)=B (32*q+b)):=(by rw[r.out];simp[Hid,ext,F]);clear M;cases hb:B (32*q+b)
         . rw[hb] at I;have i:Hid (E (32*q+b)=false):=s.out.trans hb;clear hb s;go_wp2;go_light;exact⟨⟨b,om,2*p,om,show (b:Int)=b from rfl,show 2*p=_ by rw[A.out,i.out];rfl⟩,by simp[intOf];omega⟩
         . rw[hb] at I;have i:Hid (E (32*q+b)=true):=s.out.trans hb;clear hb s;go_wp2;go_light;exact⟨⟨b,om,2*p+1,om,show (b:Int)=b from rfl,show 2*p+1=_ by rw[A.out,i.out];rfl⟩,by simp[intOf];omega⟩
       . have i:Hid (E (32*q+b)=false):=(by rw[r.out];simp[Hid,ext,F]);go_wp2;go_light;exact⟨⟨b,om,2*p,om,show (b:Int)=b from rfl,show 2*p=_ by rw[A.out,i.out];rfl⟩,by simp[intOf];omega⟩
     . have V:k=0:=(by have:=C.out;omega);subst V;go_wp2_with (at_builtin;refine gK _ rfl _ _ 68 rfl f.heap.size 133 i0 (.int .u32 0) 1 4 underlying68 U ae af ag rfl qd _ _ _ rfl (x.alloc _) (jj wr.heap.size 0) 1 1 [.int .u32 p] rfl rfl ?c1 ?c2 ?c3 ?c4 ?c5 ?_)
       case c2=>first | rfl | (intro aj Q;simp at Q;subst Q;rfl)
       case c3=>unfold maxLen;omega
       case c4=>omega
       case c5=>have:=H.size;simp;omega
       intro v' w2 P N _;have ad:f.S w2:=(H.alloc H.size _).grown N (by have:=H.size;simp;omega) (fun k O=>(x.lt k O).1);rw[y.out,akU,<-tV] at P;clear N x H;go_wp2;go_roundw
       case rel=>exact⟨q+1,om,by go_num,P,ad⟩
       case measure=>exact yI
  . obtain⟨l,g,o,rfl,ak,ac,T,-,-,R,S⟩:=ane x f.heap.size zR;go_wp2;go_ret;refine⟨l,g,q,o,rm E,rfl,ak,ac,om,R,fun _=>T,S,fun j=>aho E j, ?_, ?_,H⟩
    . intro h0;have X:0<h:=om;refine ajK E h (q-1) om om ?_;rw[r.out];have:=jh B c (by rw[<-u.out];exact X);rw[<-u.out] at this;simp[ext,this];omega
    . rw[alv,r.out,bu B h (32*q) om,u.out,rv]
theorem aaA{n:Nat}{B:Nat->Bool}(q:c<=4294967296)(r:c<=d)(p:jx w a n m c B):
 Cl 146 #[.slice a c d] w fun e s=>∃f g b i Y,e=.returned (.slice f b i)/\b<=i/\32*b<c+32/\eO s f g 0 b Y/\(0<b->w.heap.size<=g)/\(0<b->∀o,s.frozen? (jj g o)=false)/\
  (∀j,Y j<4294967296)/\(0<b->Y (b-1)≠0)/\lv Y b=bv B c/\w.S s:=
 (ae1 q r p).mono fun _ _ ⟨f,g,b,t,Y,k,l,_,h⟩=>⟨f,g,b,t,Y,k,l,h⟩
theorem pp{a A:Option Addr}{n m c d k i j l:Nat}{r B:Nat->Bool}{w:World}(R:c<=281474976710656)(Q:j<=281474976710656)(E:jx w a n m c r)(F:jx w A k i j B)
 (N:0<c->r (c-1)=true)(O:0<j->B (j-1)=true):
 Cl 151 #[.slice a c d,.slice A j l] w fun e U=>e=.returned (.i (lq (bv r c) (bv B j)))/\Same w U:=by
 by_cases g:c<j
 . rw[uh (vt g O)];go_enter func151,ntmps151;go_wp2;go_ret;exact⟨rfl,Same.refl _⟩
 by_cases x:j<c
 . rw[yU (vt x N)];go_enter func151,ntmps151;go_wp2;go_ret;exact⟨rfl,Same.refl _⟩
 have e:j=c:=om;subst e;go_enter func151,ntmps151;go_wp2;go_loopw [5] (fun t wr=>∃(D:Nat) (z:Int),D<=j/\t=.i z/\Hid (z=D-1)/\Same w wr/\Hid (∀s,D<=s->s<j->r s=B s)) (fun t _=>(intOf t+1).toNat)
 case atStart=>exact⟨j,(j:Int)-1,aC _,rfl,rfl,Same.refl _,fun s g x=>absurd x om⟩
 case round=>
  obtain⟨D,z,P,rfl,q,C,o⟩:=hrel;by_cases M:0<=z
  . obtain⟨b,rfl⟩:=jW M;have L:D=b+1:=(by have:=q.out;omega);subst L;obtain⟨rfl,G⟩:=E b om;obtain⟨rfl,H⟩:=F b om;have p:wr.cell? (jj n (m+b))=some (.bool (r b)):=(by rw[C.cell];exact G);have u:wr.cell? (jj k (i+b))=some (.bool (B b)):=(by rw[C.cell];exact H);have S:(b:Int)<j:=om;by_cases v:r b=B b
    . have y:Hid (r b=B b):=v;rw[v] at p;go_wp2;go_quiet (fail);go_wp2;go_roundw
      case rel=>
       refine⟨b,(b:Int)-1,om,rfl,rfl,C.drewN _,fun s g x=> ?_⟩;by_cases e:s=b
       . subst e;exact y.out
       . exact o.out s om x
      case measure=>simp[intOf]
    . cases hb:B b
      . have T:r b=true:=(by cases h:r b<;>simp_all);have f:Hid (lq (bv r j) (bv B j)=1):=yU (am0 (i:=b) om (fun s g x=>(o.out s om x).symm) hb T);rw[T] at p;rw[hb] at u;go_wp2;go_quiet (fail);go_wp2;go_ret;exact⟨jq f.out.symm,C.drewN _⟩
      . have T:r b=false:=(by cases h:r b<;>simp_all);have f:Hid (lq (bv r j) (bv B j)=-1):=uh (am0 (i:=b) om (fun s g x=>(o.out s om x)) T hb);rw[T] at p;rw[hb] at u;go_wp2;go_quiet (fail);go_wp2;go_ret;exact⟨jq f.out.symm,C.drewN _⟩
  . have K:D=0:=(by have:=q.out;omega);subst K;have f:Hid (lq (bv r j) (bv B j)=0):=ep (mr (fun s I=>o.out s om I));go_wp2;go_ret;exact⟨jq f.out.symm,C⟩
theorem anT(f:Bool)(R:Nat->Bool)(n:Nat):bl (push f R) (n+1)=[.bool f]++bl R n:=by
 unfold bl;rw[List.range_succ_eq_map];simp[push,Function.comp_def]
theorem aim(w:World)(n:Nat)(u:Value)(t:TypeId)(hb:n<=w.heap.size):(w.alloc (.cells #[u] t)).ownsRow n t 1 (.s w.heap.size 1 1) 1 [u]:=
 ⟨rfl,.inr ⟨w.heap.size,1, #[u],rfl,hb,heap_alloc_new w _,aC _,by decide,rfl,rfl⟩⟩
theorem akp{n:Nat}{R:Nat->Bool}(h:jx w (jp n 0) n 0 m R):∀j u,(bl R m)[j]?=some u->w.cell? (((jj n 0):Addr).add j)=some u:=by
 intro j u a;have b:j<m:=by have:=(bG.1 a).1;rwa[qS] at this
 rw[uj R m j b] at a;rw[mT,(h j b).2];exact a
theorem am5(R:Nat->Bool)(n:Nat):∀u∈bl R n,u.oneCell'=true:=by
 intro u a;obtain⟨_,_,rfl⟩:=dT.1 a;rfl
theorem vn{n:Nat}(h:m<=n):0<=lq n m:=by unfold lq;split<;>(try split)<;>omega
theorem yT{n:Nat}(h:n<m):lq n m<0:=by rw[uh h];decide
theorem wV{n i l:Nat}{T B:Nat->Bool}(hn:c<=2147483648)(hm:j<=2147483648)(hA:jx w a n m c T)(hB:jx w A k i j B)
 (tB:0<j->B (j-1)=true)(hD:0<bv B j):
 Cl 145 #[.slice a c d,.slice A j l] w fun e Z=>∃v f bh Q y W cr R,e=.returned (.tuple #[.s v f bh,.s y W cr])/\
  f<=bh/\f<=c/\W<=cr/\W<=c/\jx Z (jp v 0) v 0 f Q/\jx Z (jp y 0) y 0 W R/\w.heap.size<=v/\w.heap.size<=y/\
  (0<f->Q (f-1)=true)/\(0<W->R (W-1)=true)/\bv Q f=bv T c/bv B j/\bv R W=bv T c % bv B j/\w.S Z:=by
 obtain⟨i0,hi,a0,a1,a2⟩:=kT wY;have a6:=run_make_row' (P:=Tryz.prog) 108 4 (.bool false) 1 underlying108 wY rfl .i64 .i64 c om om;have bc:=eI tB;have HD:=eI hD;go_enter func145,ntmps145;go_wp2
 go_loopw [7,8] (fun a4 q wr=>∃(V:Nat) (z:Int) (Q R:Nat->Bool) (g t Y:Nat),V<=c/\q=.i z/\a4=.s g t Y/\Hid (z=V-1)/\t<=Y/\t<=c-V/\w.heap.size<g/\
  jx wr (jp g 0) g 0 t R/\Hid (0<t->R (t-1)=true)/\Hid (un T Q c V (bv B j) (bv R t))/\w.S wr/\wr.rowIs w.heap.size 4 c (fun X=>.bool (Q X))) (fun _ q _=>(intOf q+1).toNat)
 case atStart=>
  refine⟨c,(c:Int)-1,fun _=>false,fun _=>false,w.heap.size+1,0,0,aC _,rfl,rfl,rfl,aC _,aJ _,om,fun X M=>absurd M om,fun h=>absurd h om,ae7 T c _ HD.out,
   (fA _ _).alloc qz _,(iY w _ c 4).alloc _⟩
 case round=>
  obtain⟨V,z,Q,R,g,t,Y,hk,rfl,rfl,bg,az,ba,hg,hR,af,K,G,E⟩:=hrel;by_cases hz:0<=z
  . obtain⟨b,rfl⟩:=jW hz;have ao:V=b+1:=(by have:=bg.out;omega);subst ao;obtain⟨rfl,L⟩:=hA b om;have g0:wr.cell? (jj n (m+b))=some (.bool (T b)):=(by rw[G.cell (a:=jj n (m+b)) (hA.lt om)];exact L);obtain⟨x,S⟩:∃x,x=T b:=⟨_,rfl⟩;rw[<-S] at g0;have u:Hid (T b=x):=S.symm;clear S;have a9:=G.size;have aw:=E.lt;have al:jx (wr.alloc (.o #[.bool x] 4)) (jp g 0) g 0 t R:=hR.aA (fA _ _);go_wp2_with (at_builtin;refine gK _ rfl _ _ 108 rfl (w.heap.size+1) 4 i0 (.bool false) 1 1 underlying108 hi a0 a1 a2 rfl qd _ _ _ rfl (aim _ _ _ _ om) (jj g 0) t Y (bl R t) rfl (by rw[qS];omega) (akp al) (am5 R t) (by unfold maxLen;omega) om (by simp;omega) ?_);intro v' w1 aa am au;have ad:=(fA _ _).grown am qz (fun V hk=>by simp[Value.ownBlock] at hk;omega);have e1:Value.bool x::bl R t=bl (push x R) (t+1):=(anT x R t).symm;rw[e1,jO 1 t] at aa;obtain⟨g1,ai,rfl,ar,a5,U⟩:=mV aa au;have ab:=G.tr ad;have av:=E.of_block (ad.block _ aw);have bf:=eI (anR x R t);obtain⟨P,ak⟩:∃P,P=push x R:=⟨_,rfl⟩;rw[<-ak] at U bf;go_wp2_with fail;refine mp (mb om ar U) ?_;have p:=jc P (t+1);have bd:=eI (jh P (t+1));have s:Hid (bv P (iy P (t+1))=x.toNat+2*bv R t):=(rv P (t+1)).trans bf.out;have U:=U.take p;generalize iy P (t+1)=r at*;have C:=hB.aA ab;go_wp2_with fail;refine mo (pp om om U C bd.out bc.out) fun w3 H=> ?_;have U:=U.same H;have C:=C.same H;have O:=ab.trans (H.since _);have F:=av.of_block (by rw[H.heap]);by_cases o:bv B j<=bv P r
    . have L:=vn o;have bb:=eI o;have aq:=cX bc.out o;generalize lq (bv P r) (bv B j)=z at*;go_wp2_with fail;refine (mX om aq U C bb.out).mono ?_;rintro e w4 ⟨g4,t4,c4,D,rfl,k1,k2,aj,k3,k4,k5,ac⟩;have ae:=eI k4;have I:Hid (un T (mN Q b true) c b (bv B j) (bv D t4)):=by
       have:=ahE K.out om (by have:=bb.out;rw[s.out] at this;rw[u.out];exact this);rw[u.out,<-s.out,<-k5] at this;exact this
      have ay:=O.size;have ax:=O.trans (sM ac ay);have N:=F.of_block (ac.block _ F.lt);have q1:=N.cell (i:=b) om;have q2:=N.frozen b;have a8:=F.lt;have a7:(b:Int)<c:=om;go_wp2;go_roundw
      case rel=>
       go_light;refine⟨b,(b:Int)-1,mN Q b true,D,g4,t4,c4,om,by go_num,rfl,rfl,k1,om,om, ?_,ae,I,ax.setCell zR _,(N.set b _).congr (fun X _=> ?_)⟩
       . intro X M;refine⟨rfl, ?_⟩;rw[aI _ _ _ _ (fun h=>by have:=congrArg Addr.block h;simp at this;omega)];exact (aj X M).2
       . by_cases e:X=b<;>simp[mN,e]
      case measure=>simp[intOf]
    . have L:=yT (tM o);have I:Hid (un T Q c b (bv B j) (bv P r)):=by
       have:=adb K.out om (by rw[s.out] at o;rw[u.out];omega);rw[u.out,<-s.out] at this;exact this
      generalize lq (bv P r) (bv B j)=z at*;go_wp2;go_roundw
      case rel=>exact⟨b,(b:Int)-1,Q,P,g1,r,ai,om,by go_num,rfl,rfl,om,om,om,U,bd,I,O,F⟩
      case measure=>simp[intOf]
  . have an:V=0:=(by have:=bg.out;omega);subst an;go_wp2_with fail;refine mp (mb om zR (yY E)) ?_;go_wp2;go_ret2;have p:=jc Q c;obtain⟨v1,v2⟩:=ahF K.out;exact⟨w.heap.size,_,_,Q,g,t,Y,R,rfl,p,p,az,om,(yY E).take p,hR,aC _,om,fun h=>jh _ _ h,af.out,(rv _ _).trans v1,v2,G⟩
def Tr(w:World)(v:Value)(n:Nat)(A:Nat->Bool):Prop:=
 ∃a b off cap,v=.slice a n cap/\n<=cap/\jx w a b off n A/\(0<n->A (n-1)=true)
theorem Tr.aA{w w':World}{n:Nat}{A:Nat->Bool}(h:Tr w u n A)(s:w.S w'):Tr w' u n A:=by
 obtain⟨a,b,i,c,d,e,f,g⟩:=h;exact⟨a,b,i,c,d,e,f.aA s,g⟩
theorem wi{n:Nat}{A:Nat->Bool}(h:jx w (jp n m) n m c A)(b:0<c):jx w (jp n (m+1)) n (m+1) (c-1) (sh A 1):=
 fun j a=>⟨rfl,by have:=(h (j+1) om).2;rw[show m+1+j=m+(j+1) by omega];exact this⟩
theorem aed{n:Nat}{S:Nat->Bool}(h:w.rowIs m 4 d (fun j=>.bool (S j)))(k:c<=d)(f:d<=maxLen)(hb:n<=m):w.ownsRow n 4 1 (.s m c d) c (bl S c):=by
 obtain⟨a,g,l,e⟩:=h;refine⟨by rw[qS];omega,.inr ⟨m,d,a,rfl,hb,g,k,f,om, ?_⟩⟩;apply jF;intro i;rw[iF];by_cases b:i<c
 . rw[uj S c i b,List.getElem?_take,aY b];have:=e i om;simpa using this
 . rw[dJ (by rw[jR];omega),dJ (by rw[qS];omega)]
theorem ahN{n:Nat}{R:Nat->Bool}(h:jx w (jp n m) n m c R):∀j u,(bl R c)[j]?=some u->w.cell? (((jj n m):Addr).add j)=some u:=by
 intro j u a;have b:j<c:=by have:=(bG.1 a).1;rwa[qS] at this
 rw[uj R c j b] at a;rw[mT,(h j b).2];exact a
theorem am4(n:Nat)(B:Nat->Bool)(m:Nat):bl (uN n B) (n+m)=bl (fun _=>false) n++bl B m:=by
 apply jF;intro i;by_cases a:i<n
 . rw[uj _ _ _ om,bJ (by rw[qS];exact a),uj _ _ _ a];simp[uN,a]
 . rw[bK (by rw[qS];omega),qS];by_cases b:i<n+m
   . rw[uj _ _ _ b,uj _ _ _ om];simp[uN,a]
   . rw[dJ (by rw[qS];omega),dJ (by rw[qS];omega)]
theorem qc{A:Nat->Bool}{n:Nat}(a:2<=n)(h:A (n-1)=true):0<n-1->sh A 1 (n-1-1)=true:=fun _=>by unfold sh;rw[show n-1-1+1=n-1 by omega];exact h
theorem wg{A:Nat->Bool}{n:Nat}(c:0<n)(b:A 0=false)(a:A (n-1)=true):2<=n:=by
 by_cases e:n=1
 . subst e;simp at a;rw[b] at a;cases a
 . omega
theorem vu{A:Nat->Bool}{n:Nat}(a:0<n)(b:A (n-1)=true):0<bv A n:=by
 have:=aoz A n a b;have:=fX (n:=n-1) (show 0<2 by omega);omega
theorem wU{u U:Value}{n m:Nat}{H I:Nat->Bool}{w:World}(hn:n<=1073741824)(hm:m<=1073741824)(l:Tr w u n H)(k:Tr w U m I):
 Cl 144 #[u,U] w fun e w'=>∃bn az a6,e=.returned bn/\az<=n+m+m/\Tr w' bn az a6/\bv a6 az=Nat.gcd (bv H n) (bv I m)/\w.S w':=by
 obtain⟨al,ba,oa,ca,rfl,a9,a7,tA⟩:=l;obtain⟨am,bb,ob,cb,rfl,bc,a8,tB⟩:=k;by_cases z0:n=0
 . subst z0;go_enter func144,ntmps144;go_wp2;go_ret;exact⟨_,m,I,rfl,om,⟨am,bb,ob,cb,rfl,bc,a8,tB⟩,by simp[bv],aF _ _⟩
 by_cases z1:m=0
 . subst z1;have q0:((n:Int)==0)=false:=(by simp;omega);go_enter func144,ntmps144;go_wp2;go_ret;exact⟨_,n,H,rfl,om,⟨al,ba,oa,ca,rfl,a9,a7,tA⟩,by simp[bv],aF _ _⟩
 obtain⟨aj,hG⟩:∃aj,aj=Nat.gcd (bv H n) (bv I m):=⟨_,rfl⟩;have HG:=eI hG;have q0:((n:Int)==0)=false:=by simp;omega
 have q1:((m:Int)==0)=false:=by simp;omega
 have r:=eI tA;have p:=eI tB;go_enter func144,ntmps144;go_wp2
 go_loopg [0,1,5] n (fun c a0 a1 a2 wr=>∃(d o:Nat) (A B:Nat->Bool) (ax ay:Option Addr) (N X O Y F G:Nat),w=wr/\a0=.l ax c F/\a1=.l ay d G/\a2=.i o/\0<c/\0<d/\c<=F/\d<=G/\c<=n/\d+o<=m/\
  jx w ax N X c A/\jx w ay O Y d B/\Hid (A (c-1)=true)/\Hid (B (d-1)=true)/\Hid (2^o*Nat.gcd (bv A c) (bv B d)=aj))
 case atStart=>exact⟨m,0,H,I,al,am,ba,oa,bb,ob,ca,cb,rfl,rfl,rfl,rfl,om,om,a9,bc,aC _,om,a7,a8,r.out om,p.out om,by rw[HG.out];simp[Hid]⟩
 case round=>
  obtain⟨d,o,A,B,ax,ay,N,X,O,Y,F,G,rfl,rfl,rfl,rfl,W,i,ad,ae,q,b6,l,k,L,M,a4⟩:=hrel;obtain⟨c,br⟩:∃c,c=gk:=⟨_,rfl⟩;subst br;obtain⟨rfl,x⟩:=l 0 W;obtain⟨rfl,E⟩:=k 0 i;rw[fV] at x E;by_cases ar:A 0=false/\B 0=false
  . obtain⟨j,eb⟩:=ar;have la:=wg W j L.out;have lb:=wg i eb M.out;have t:=eI (cy W j);have E2:=eI (cy i eb);rw[j] at x;rw[eb] at E;go_wp2;go_roundg (c-1)
    case measure=>omega
    case rel=>go_light;refine⟨d-1,o+1,sh A 1,sh B 1,_,_,N,X+1,O,Y+1,F-1,G-1,rfl,rfl,rfl,by go_num,om,om,om,om,om,om,wi l W,wi k i,qc la L.out om,qc lb M.out om, ?_⟩;have h:=a4.out;rw[t.out,E2.out,akc,<-cS,<-iH] at h;exact h
  . have HO:Hid (bv A c % 2=1∨bv B d % 2=1):=by
     cases j:A 0
     . cases eb:B 0
       . exact absurd ⟨j,eb⟩ ar
       . exact Or.inr (cW i eb)
     . exact Or.inl (cW W j)
    have b5:(A 0=true)∨(A 0=false/\B 0=true):=by
     cases j:A 0
     . cases eb:B 0
       . exact absurd ⟨j,eb⟩ ar
       . exact Or.inr ⟨rfl,rfl⟩
     . exact Or.inl rfl
    have S0:=aF w.heap.size w;have T0:Tr w (.l (jp N X) c F) c A:=⟨_,N,X,F,rfl,ad,l,fun _=>L.out⟩;have U0:Tr w (.l (jp O Y) d G) d B:=⟨_,O,Y,G,rfl,ae,k,fun _=>M.out⟩;rcases b5 with j | ⟨j,eb⟩
    focus
     rw[j] at x
    rotate_left
    focus
     rw[j] at x;rw[eb] at E
    all_goals
     go_wp2;obtain⟨Q,bf⟩:∃aq,aq=Nat.gcd (bv A c) (bv B d):=⟨_,rfl⟩;have y:=eI bf;have aa:=a4.out;rw[<-bf] at aa;have aa:=eI aa;go_loopg [0,1] (bv A c+bv B d) (fun aq a0 a1 wr=>∃(c d:Nat) (A B:Nat->Bool),Hid (aq=bv A c+bv B d)/\Tr wr a0 c A/\Tr wr a1 d B/\c<=n+m/\0<d/\d<=n+m/\Hid (bv A c % 2=1∨bv B d % 2=1)/\Hid (Q=Nat.gcd (bv A c) (bv B d))/\w.S wr)
     case atStart=>exact⟨c,d,A,B,rfl,T0,U0,om,i,om,HO,y,S0⟩
     case round=>
      obtain⟨f,a,g,b,Hg,L,M,bi,i,bh,HO,y,v⟩:=hrel;obtain⟨p',an,aw,ao,rfl,ad,l,tA⟩:=L;obtain⟨q',ab,ai,ac,rfl,ae,k,tB⟩:=M;obtain⟨rfl,E⟩:=k 0 i;rw[fV] at E;have r:=eI tA;have p:=eI tB;by_cases q:0<f
      . obtain⟨rfl,x⟩:=l 0 q;rw[fV] at x;cases j:g 0
        . --al is even
          have la:=wg q j (r.out q);have t:=eI (cy q j);have hp:=vu (A:=sh g 1) (n:=f-1) om (qc la (r.out q) om);have ah:bv b a % 2=1:=(by have:=HO.out;have:=t.out;omega);have z:Hid (Q=Nat.gcd (bv (sh g 1) (f-1)) (bv b a)):=(by have h:=y.out;rw[t.out,xe ah] at h;exact h);have ak:Hid (bv (sh g 1) (f-1) % 2=1∨bv b a % 2=1):=Or.inr ah;have C:Hid (bv (sh g 1) (f-1)+bv b a<gk):=(by have:=Hg.out;have:=t.out;show _<_;omega);rw[j] at x;go_wp2;go_roundg (bv (sh g 1) (f-1)+bv b a)
          case measure=>exact C.out
          case rel=>exact⟨f-1,a,sh g 1,b,rfl,⟨_,an,aw+1,ao-1,rfl,om,wi l q,qc la (r.out q)⟩,⟨_,ab,ai,ac,rfl,ae,k,p.out⟩,om,i,bh,ak,z,v⟩
        . have av:=cW q j;have bw:=vu q (r.out q);rw[j] at x;cases eb:b 0
          . --am is even
            have lb:=wg i eb (p.out i);have t:=eI (cy i eb);have hp:=vu (A:=sh b 1) (n:=a-1) om (qc lb (p.out i) om);have z:Hid (Q=Nat.gcd (bv g f) (bv (sh b 1) (a-1))):=(by have h:=y.out;rw[t.out,act av] at h;exact h);have ak:Hid (bv g f % 2=1∨bv (sh b 1) (a-1) % 2=1):=Or.inl av;have C:Hid (bv g f+bv (sh b 1) (a-1)<gk):=(by have:=Hg.out;have:=t.out;show _<_;omega);rw[eb] at E;go_wp2;go_roundg (bv g f+bv (sh b 1) (a-1))
            case measure=>exact C.out
            case rel=>exact⟨f,a-1,g,sh b 1,rfl,⟨_,an,aw,ao,rfl,ad,l,r.out⟩,⟨_,ab,ai+1,ac-1,rfl,om,wi k i,qc lb (p.out i)⟩,bi,om,om,ak,z,v⟩
          . have ah:=cW i eb;have bz:=vu i (p.out i);rw[eb] at E;have HP:=eI (And.intro av (And.intro ah (And.intro bw bz)));go_wp2_with fail;refine mo (pp om om l k r.out p.out) fun w2 s2=> ?_;have l:=l.same s2;have k:=k.same s2;have v:=v.trans (s2.since _);by_cases af:bv b a<=bv g f
            . have hc:=vn af;have au:=cX p.out af;have z:Hid (Q=Nat.gcd (bv g f-bv b a) (bv b a)):=(by have h:=y.out;rw[<-yH af] at h;exact h);have a5:=eI af;generalize lq (bv g f) (bv b a)=a2 at*;go_wp2_with fail;refine (mX om au l k a5.out).mono ?_;rintro e w3 ⟨R,s,P,D,rfl,T,k2,hD,k3,k4,V,Z⟩;have HD:=eI k4;have K:=eI V;have k:=k.aA Z;have S:=v.tr Z;go_wp2;go_roundg (bv D s+bv b a)
              case measure=>have:=Hg.out;have:=K.out;have:=HP.out;have:=a5.out;omega
              case rel=>exact⟨s,a,D,b,rfl,⟨_,R,0,P,rfl,T,hD,HD.out⟩,⟨_,ab,ai,ac,rfl,ae,k,p.out⟩,om,i,bh,Or.inr HP.out.2.1,by rw[K.out];exact z,S⟩
            . have ag:bv g f<bv b a:=om;have hc:=yT ag;have au:=cX r.out (cZ ag);have z:Hid (Q=Nat.gcd (bv g f) (bv b a-bv g f)):=(by have h:=y.out;rw[<-acY (cZ ag)] at h;exact h);have C:=eI ag;generalize lq (bv g f) (bv b a)=a2 at*;go_wp2_with fail;refine (mX om au k l (cZ C.out)).mono ?_;rintro e w3 ⟨R,s,P,D,rfl,T,k2,hD,k3,k4,V,Z⟩;have HD:=eI k4;have K:=eI V;have l:=l.aA Z;have S:=v.tr Z;have b1:0<s:=by
               by_cases e:0<s
               . exact e
               . have e0:s=0:=om;rw[e0] at V;have:=C.out;simp[bv] at V;omega
              have b8:((s:Int)==0)=false:=(by simp;omega);go_wp2;go_roundg (bv g f+bv D s)
              case measure=>have:=Hg.out;have:=K.out;have:=HP.out;have:=C.out;omega
              case rel=>exact⟨f,s,g,D,rfl,⟨_,an,aw,ao,rfl,ad,l,r.out⟩,⟨_,R,0,P,rfl,T,hD,HD.out⟩,bi,b1,om,Or.inl HP.out.1,by rw[K.out];exact z,S⟩
      . have e0:f=0:=om;subst e0;obtain⟨i0,hi,b2,b3,b4⟩:=kT wY;have b7:=run_make_row' (P:=Tryz.prog) 108 4 (.bool false) 1 underlying108 wY rfl .i64 .i64 o om om;have b0:=iY wr (.bool false) o 4;have bm:=v.size;have bo:=k.aA (w':=wr.alloc (.o (madeCells #[.bool false] o) 4)) (fA _ _);go_wp2_with (at_builtin;refine gK _ rfl _ _ 108 rfl w.heap.size 4 i0 (.bool false) 1 1 underlying108 hi b2 b3 b4 rfl qd _ _ _ rfl (aed (S:=fun _=>false) b0 zR (by unfold maxLen;omega) bm) (jj ab ai) a ac (bl b a) rfl (by rw[qS];omega) (ahN bo) (am5 b a) (by unfold maxLen;omega) om (by simp;omega) ?_);intro v' w3 bj bs bu;rw[<-am4] at bj;have S:=(v.alloc bm _).grown bs (by simp;omega) (fun b9 hk=>by simp[Value.ownBlock] at hk;omega);obtain⟨R,P,rfl,T,k2,k3⟩:=mV bj bu;go_wp2;go_ret;refine⟨_,o+a,uN o b,rfl,om,⟨_,R,0,P,rfl,T,k3,fun _=> ?_⟩, ?_,S⟩
        . unfold uN;rw[aM om,show o+a-1-o=a-1 by omega];exact p.out i
        . rw[amz,<-HG.out,<-aa.out,y.out];simp[bv]
theorem adT{w wr:World}{i O A:Nat->Bool}{n:Nat}{a:Bool}(s j:Bool)(l:w.S wr)(h:wr.rowIs w.heap.size 4 m (fun k=>.bool (O k)))(p:vC i O A n c d a)
 (r:O (c+d)=f)(o:ext A n d=F)(g:s=((f != F) != a))(q:j=((f&&F) ||(f&&a) ||(F&&a))):
 ∃b,w.S (wr.setCell ⟨w.heap.size,c+d,none⟩ (.bool s))/\(wr.setCell ⟨w.heap.size,c+d,none⟩ (.bool s)).rowIs w.heap.size 4 m (fun k=>.bool (b k))/\vC i b A n c (d+1) j:=by
 subst g q;refine⟨_,l.setCell zR _,(h.set (c+d) _).congr (fun k _=> ?_),agv p r o⟩;by_cases e:k=c+d
 . simp[e]
 . simp[e]
theorem jK{a A:Option Addr}{n m c d k i j l:Nat}{p B:Nat->Bool}{w:World}(hn:c<=2147483648)(hm:j<=2147483648)(U:jx w a n m c p)(V:jx w A k i j B):
 Cl 143 #[.slice a c d,.slice A j l] w fun e R=>∃g t S O,e=.returned (.s g t S)/\t<=S/\t<=c+j/\jx R (jp g 0) g 0 t O/\w.heap.size<=g/\
  (0<t->O (t-1)=true)/\bv O t=bv p c*bv B j/\w.S R:=by
 have Z:=run_make_row' (P:=Tryz.prog) 108 4 (.bool false) 1 underlying108 wY rfl .i64 .i64 (c+j) om om;rw[rM] at Z;go_enter func143,ntmps143;go_wp2;go_loopw [6] (fun q wr=>∃b:Nat,b<=j/\q=.i b/\w.S wr/\∃O,wr.rowIs w.heap.size 4 (c+j) (fun P=>.bool (O P))/\bv O (c+j)=bv p c*bv B b) (fun q _=>j-(intOf q).toNat)
 case atStart=>exact⟨0,aJ _,rfl,fA _ _,fun _=>false,iY w _ _ _,by rw[cx (fun _=>false) 0 (c+j) om (fun _ _ _=>rfl)];simp[bv]⟩
 case round=>
  obtain⟨b,hj,rfl,E,f,s,h0⟩:=hrel;have u:Hid (bv f (c+j)=bv p c*bv B b):=h0;by_cases W:b<j
  . obtain⟨rfl,r⟩:=V b W;have T:wr.cell? (jj k (i+b))=some (.bool (B b)):=(by rw[E.cell (a:=jj k (i+b)) (V.lt om)];exact r);cases hbj:B b
    . rw[hbj] at T;have v:Hid (B b=false):=hbj;go_wp2;go_roundw
      case rel=>exact⟨b+1,om,by go_num,E,f,s,alo u.out v.out⟩
      case measure=>exact yI
    . rw[hbj] at T;have v:Hid (B b=true):=hbj;go_wp2;go_loopw [7,8] (fun ac t X=>∃(h:Nat) (N:Bool) (O:Nat->Bool),b+h<=c+j/\t=.i h/\ac=.bool N/\w.S X/\X.rowIs w.heap.size 4 (c+j) (fun P=>.bool (O P))/\vC f O p c b h N) (fun _ t _=>c+j-(intOf t).toNat)
      case atStart=>exact⟨0,false,f,om,rfl,rfl,E,s,aeK f p c b⟩
      case round=>
       obtain⟨h,N,O,hi,rfl,rfl,E,o,hR⟩:=hrel;have z:Hid (vC f O p c b h N):=hR;by_cases Y:b+h<c+j
       . have g1:=o.cell Y;have g2:=o.frozen (b+h);obtain⟨x,H⟩:∃x,x=O (b+h):=⟨_,rfl⟩;rw[<-H] at g1;have Q:Hid (O (b+h)=x):=H.symm;clear H;by_cases F:h<c
         . obtain⟨rfl,r⟩:=U h F;have g3:wr.cell? (jj n (m+h))=some (.bool (p h)):=(by rw[E.cell (a:=jj n (m+h)) (U.lt om)];exact r);obtain⟨y,I⟩:∃y,y=p h:=⟨_,rfl⟩;rw[<-I] at g3;have C:Hid (ext p c h=y):=(by simp[Hid,ext,F,I]);clear I r;cases x<;>cases y<;>cases N
           all_goals
            go_wp2;go_roundw
            case rel=>go_light;obtain⟨D,K,L,M⟩:=adT _ _ E o z.out Q.out C.out rfl rfl;exact⟨h+1,_,D,om,by go_num,rfl,K,L,M⟩
            case measure=>go_light;simp[intOf];omega
         . have C:Hid (ext p c h=false):=(by simp[Hid,ext,F]);cases x<;>cases N
           all_goals
            go_wp2;go_roundw
            case rel=>go_light;obtain⟨D,K,L,M⟩:=adT _ _ E o z.out Q.out C.out rfl rfl;exact⟨h+1,_,D,om,by go_num,rfl,K,L,M⟩
            case measure=>go_light;simp[intOf];omega
       . have e:b+h=c+j:=om;go_wp2;go_roundw
         case rel=>exact⟨b+1,om,by go_num,E,O,o,ahQ z.out e W u.out v.out⟩
         case measure=>exact yI
  . have e:b=j:=om;subst e;go_wp2_with fail;refine mp (mb om zR (yY s)) ?_;go_wp2;go_ret;have G:=jc f (c+b);exact⟨w.heap.size,_,_,f,rfl,G,G,(yY s).take G,aC _,fun ad=>jh _ _ ad,(rv _ _).trans u.out,E⟩
def xX(O A B:Nat->Bool)(n m i:Nat)(c:Bool):Prop:=bv O i+c.toNat*2^i=bv (ext A n) i+bv (ext B m) i
theorem uP{O A B:Nat->Bool}{n:Nat}{y:Bool}(h:xX O A B n m c f)(b:ext A n c=F)(g:ext B m c=y):
 xX (mN O c ((F != y) != f)) A B n m (c+1) ((F&&y) ||(F&&f) ||(y&&f)):=by
 unfold xX at*;have a:=agh F y f;simp only[bv,eW O c _ c zR,fR,b,g];generalize ((F != y) != f).toNat=s at a⊢;generalize ((F&&y) ||(F&&f) ||(y&&f)).toNat=d at a⊢;have e:s*2^c+d*2^(c+1)=F.toNat*2^c+y.toNat*2^c+f.toNat*2^c:=by rw[<-bI,<-bI,<-a,bI,iH,cJ (2^c) 2,<-cS,cJ d 2]
 omega
theorem agH{O A B:Nat->Bool}{n:Nat}(h:xX O A B n m c f)(b:n<=c)(a:m<=c):bv O c+f.toNat*2^c=bv A n+bv B m:=by
 unfold xX at h;rw[bu A n c b,bu B m c a] at h;exact h
theorem ale(f F:Bool):(!(f==F))=((false != f) != F):=by cases f<;>cases F<;>rfl
theorem wW{a A:Option Addr}{n m c d k i j l:Nat}{X B:Nat->Bool}{w:World}(hn:c<=2147483648)(hm:j<=2147483648)(N:jx w a n m c X)(O:jx w A k i j B):
 Cl 142 #[.slice a c d,.slice A j l] w fun e w'=>∃g t ab D,e=.returned (.s g t ab)/\t<=ab/\t<=max c j+1/\jx w' (jp g 0) g 0 t D/\w.heap.size<=g/\
  (0<t->D (t-1)=true)/\bv D t=bv X c+bv B j/\w.S w':=by
 obtain⟨T,P,Q,R,S⟩:=kT wY;obtain⟨H,ag,ah,ak,ai,al⟩:∃H,c<=H/\j<=H/\H<=2147483648/\H<=max c j/\(H=c∨H=j):=by
  rcases Nat.le_total c j with h | h
  . exact⟨j,h,aC _,hm,Nat.le_max_right _ _,Or.inr rfl⟩
  . exact⟨c,aC _,h,hn,Nat.le_max_left _ _,Or.inl rfl⟩
 have HK:=eI ai;go_enter func142,ntmps142;go_wp2;go_loopw [5,6,7] (fun ac ad t wr=>∃(b:Nat) (f:Bool) (D:Nat->Bool),b<=H/\t=.i b/\ad=.bool f/\Hid (ac≠ .n)/\wr.ownsRow w.heap.size 4 1 ac b (bl D b)/\w.S wr/\Hid (xX D X B c j b f)) (fun _ _ t _=>H-(intOf t).toNat)
 case atStart=>exact⟨0,false,fun _=>false,aJ _,rfl,rfl,eI qz,iP w #[] 0 zR qd rfl,fA _ _,eI (by simp[xX,bv])⟩
 case round=>
  obtain⟨b,f,D,aj,rfl,rfl,HN,Z,p,M⟩:=hrel;by_cases K:b<c
  . by_cases z:b<j
    . obtain⟨rfl,Y⟩:=N b K;have W:wr.cell? (jj n (m+b))=some (.bool (X b)):=(by rw[p.cell (a:=jj n (m+b)) (N.lt om)];exact Y);obtain⟨x,u⟩:∃x,x=X b:=⟨_,rfl⟩;rw[<-u] at W;have F:Hid (ext X c b=x):=(by simp[Hid,ext,K,u]);clear u;obtain⟨rfl,Y⟩:=O b z;have am:wr.cell? (jj k (i+b))=some (.bool (B b)):=(by rw[p.cell (a:=jj k (i+b)) (O.lt om)];exact Y);obtain⟨y,v⟩:∃y,y=B b:=⟨_,rfl⟩;rw[<-v] at am;have G:Hid (ext B j b=y):=(by simp[Hid,ext,z,v]);clear Y v;have E:=eI (uP M.out F.out G.out);go_wp2_with (at_builtin;refine gK _ rfl _ _ 108 rfl w.heap.size 4 T (.bool false) 1 1 underlying108 P Q R S rfl qd _ _ _ rfl (Z.alloc _) (jj wr.heap.size 0) 1 1 [.bool _] rfl rfl (iq _ _ _) (one_one _ rfl) (by unfold maxLen;omega) om (by have:=p.size;simp;omega) ?_);intro v' U L o r;have s:=(p.alloc p.size _).grown o (by have:=p.size;simp;omega) (fun H q=>(Z.lt H q).1);have C:=eI r;rw[aiq x y f,<-bh] at L;cases x<;>cases y<;>cases f
      all_goals
       go_wp2;go_roundw
       case rel=>exact⟨b+1,_,_,om,by go_num,rfl,C,L,s,E⟩
       case measure=>exact yI
    . obtain⟨rfl,Y⟩:=N b K;have W:wr.cell? (jj n (m+b))=some (.bool (X b)):=(by rw[p.cell (a:=jj n (m+b)) (N.lt om)];exact Y);obtain⟨x,u⟩:∃x,x=X b:=⟨_,rfl⟩;rw[<-u] at W;have F:Hid (ext X c b=x):=(by simp[Hid,ext,K,u]);clear u;have G:Hid (ext B j b=false):=(by simp[Hid,ext,z]);have E:=eI (uP M.out F.out G.out);go_wp2_with (at_builtin;refine gK _ rfl _ _ 108 rfl w.heap.size 4 T (.bool false) 1 1 underlying108 P Q R S rfl qd _ _ _ rfl (Z.alloc _) (jj wr.heap.size 0) 1 1 [.bool _] rfl rfl (iq _ _ _) (one_one _ rfl) (by unfold maxLen;omega) om (by have:=p.size;simp;omega) ?_);intro v' U L o r;have s:=(p.alloc p.size _).grown o (by have:=p.size;simp;omega) (fun H q=>(Z.lt H q).1);have C:=eI r;rw[air x f,<-bh] at L;cases x<;>cases f
      all_goals
       go_wp2;go_roundw
       case rel=>exact⟨b+1,_,_,om,by go_num,rfl,C,L,s,E⟩
       case measure=>exact yI
  . by_cases z:b<j
    . have F:Hid (ext X c b=false):=(by simp[Hid,ext,K]);obtain⟨rfl,Y⟩:=O b z;have am:wr.cell? (jj k (i+b))=some (.bool (B b)):=(by rw[p.cell (a:=jj k (i+b)) (O.lt om)];exact Y);obtain⟨y,v⟩:∃y,y=B b:=⟨_,rfl⟩;rw[<-v] at am;have G:Hid (ext B j b=y):=(by simp[Hid,ext,z,v]);clear Y v;have E:=eI (uP M.out F.out G.out);go_wp2_with (at_builtin;refine gK _ rfl _ _ 108 rfl w.heap.size 4 T (.bool false) 1 1 underlying108 P Q R S rfl qd _ _ _ rfl (Z.alloc _) (jj wr.heap.size 0) 1 1 [.bool _] rfl rfl (iq _ _ _) (one_one _ rfl) (by unfold maxLen;omega) om (by have:=p.size;simp;omega) ?_);intro v' U L o r;have s:=(p.alloc p.size _).grown o (by have:=p.size;simp;omega) (fun H q=>(Z.lt H q).1);have C:=eI r;rw[ale y f,<-bh] at L;cases y<;>cases f
      all_goals
       go_wp2;go_roundw
       case rel=>exact⟨b+1,_,_,om,by go_num,rfl,C,L,s,E⟩
       case measure=>exact yI
    . have e:b=H:=om;subst e;have HE:=eI (agH M.out ag ah);cases f
      . obtain⟨g,V,rfl,ao,an,I⟩:=mV Z HN.out;go_wp2_with fail;refine (mb om ao I).mono ?_;rintro e U ⟨rfl,rfl⟩;go_wp2;go_ret;have aa:=jc D b;have:=HK.out;exact⟨g,_,V,D,rfl,om,om,I.take aa,an,fun h=>jh _ _ h,(rv _ _).trans (by have:=HE.out;simpa using this),p⟩
      . go_wp2_with (at_builtin;refine gK _ rfl _ _ 108 rfl w.heap.size 4 T (.bool false) 1 1 underlying108 P Q R S rfl qd _ _ _ rfl (Z.alloc _) (jj wr.heap.size 0) 1 1 [.bool true] rfl rfl (iq _ _ _) (one_one _ rfl) (by unfold maxLen;omega) om (by have:=p.size;simp;omega) ?_);intro v' U L o r;have s:=(p.alloc p.size _).grown o (by have:=p.size;simp;omega) (fun H q=>(Z.lt H q).1);rw[<-bh] at L;obtain⟨g,V,rfl,ao,an,I⟩:=mV L r;go_wp2_with fail;refine mp (mb om ao I) ?_;go_wp2;go_ret;have aa:=jc (mN D b true) (b+1);have:=HK.out;refine⟨g,_,V,mN D b true,rfl,om,om,I.take aa,an,fun h=>jh _ _ h,(rv _ _).trans ?_,s⟩;have h9:=HE.out;simp only[bv,fR,eW D b true b zR];exact h9
end Go.Proofs.YtinihjgnnlemmaaGreatDoor
