import Derived.Test.YtaeieekkddndhaaGreatChecked
import Derived.Test.YtaeieekkddndhaaGreatOwnP1
import Derived.WalkKit
import Derived.Deep.OwnRows
import Derived.Deep.Light
import Derived.BigQuiet
set_option maxHeartbeats 6400000
set_option maxRecDepth 100000
namespace Go
theorem World.Since.tr{B:Nat}{w w' w'':World}(h:w.Since B w')(k:w'.Since w'.heap.size w'')(e:B<=w'.heap.size:=by first|exact World.Since.size ‹_›|omega):w.Since B w'':=h.trans ⟨k.os,k.tape,k.output,k.size,fun j hj=>k.block j (Nat.lt_of_lt_of_le hj e)⟩
end Go
namespace Go
abbrev Value.i(x:Int):Value:=.int .i64 x
abbrev jj(b o:Nat):Addr:=⟨b,o,none⟩
abbrev jp(b o:Nat):Option Addr:=some ⟨b,o,none⟩
abbrev Value.s(b n c:Nat):Value:=.slice (some ⟨b,0,none⟩) n c
abbrev Value.p(b o:Nat):Value:=.pointer (some ⟨b,o,none⟩)
abbrev Value.l(a:Option Addr)(n c:Nat):Value:=.slice a n c
abbrev Obj.o(a:Array Value)(t:TypeId):Obj:=.cells a t
abbrev Value.n:Value:=.slice none 0 0
abbrev World.S(w v:World):Prop:=w.Since w.heap.size v
end Go
namespace Go.Proofs.YtaeieekkddndhaaGreat
open Tryz Go.RowKit
variable{w v W V:World}{m c d k j b q t r g h e:Nat}{a A B:Option Addr}{X Y Z:Nat->Nat}{u U:Value}{f F:Bool}{z y:Int}
theorem kr {p:Prop}(h:p:=by kernel_rfl):p:=h
theorem sM{B B':Nat}{w w':World}(h:w.Since B w')(hB:B'<=B):w.Since B' w':=⟨h.os,h.tape,h.output,h.size,fun k hk=>h.block k (Nat.lt_of_lt_of_le hk hB)⟩
theorem cV(w:World)(o:Obj):w.Since w.heap.size (w.alloc o):=(World.Since.refl _ _).alloc (Nat.le_refl _) _
theorem ue(w:World):w.Since w.heap.size w.drew:=(World.Since.refl _ _).drew
theorem nV{a b:Addr}{v:Value}(h:a≠b:=by simp):(w.setCell a v).cell? b=w.cell? b:=World.cell?_setCell_other _ _ _ _ h
theorem yD{B:Nat}:w.Since B w:=World.Since.refl B w
theorem yG{p:Prop}(h:p:=by first | (go_simp;done) | (go_simp;with_reducible rfl) | kernel_rfl):p:=h
theorem yI{p:Prop}(h:p:=by simp[intOf];omega):p:=h
abbrev yJ:Obj:=.cells #[.bool false,.n,.n] 83
abbrev aF:=@Go.World.Since.refl
abbrev aG:=@Go.World.block_lt_of_cell?
abbrev aI:=@Go.World.cell?_setCell_other
abbrev aO:=@Go.World.cell?_of_block
abbrev aQ:=@Go.World.cell?_setCell_same
abbrev bO:=@Go.bodyPost_ret
abbrev dK:=@Go.World.frozen?_of_block
abbrev fN:=@Go.RowKit.Below.heap_setCell
abbrev gK:=@Go.wpList_append_own
abbrev iE:=@Go.World.cell?_alloc_old
abbrev iM:=@Go.MapKept.run_getObj_map
abbrev iP:=@Go.World.ownsRow_made
abbrev iY:=@Go.World.rowIs_made
abbrev jL:=@Go.MapKept.run_findKey
abbrev kT:=@Go.info_parts
abbrev lE:=@Go.MapKept.heap_set
abbrev lS:=@Go.run_underlying
abbrev mC:=@Go.MapKept.run_checkKey
abbrev mJ:=@Go.World.rowIs_alloc
abbrev mT:=@Go.Addr.add_lit
abbrev mV:=@Go.MapKept.run_setObj_map
abbrev nS:=@Go.Deep.blk_alloc_new
abbrev nU:=@Go.World.cell?_alloc_new
abbrev pD:=@Go.IntKind.wrap_u64
abbrev qU:=@Go.callsIn_wide
abbrev tG:=@Go.Result.andThen_ok
abbrev tR:=@Go.IntKind.wrap_i64
theorem ag3{a b c d e f:Value}:(Value.agg #[a,b,c]=Value.agg #[d,e,f])=(a=d/\b=e/\c=f):=by simp only[Value.agg.injEq,Array.mk.injEq,List.cons.injEq,and_true]
abbrev Cl:=Calls Tryz.prog
end Go.Proofs.YtaeieekkddndhaaGreat
namespace Go.Proofs.YtaeieekkddndhaaGreat
open Tryz Go.RowKit
variable{w v W V:World}{m c d k j b q t r g h e:Nat}{a A B:Option Addr}{X Y Z:Nat->Nat}{u U:Value}{f F:Bool}{z y:Int}
theorem fI:(Tryz.prog.info? 135).map (fun i=>(i.zero,i.size,i.bytes))=some (some (.int .u32 0),1,4):=by kernel_rfl
theorem bj:(Tryz.prog.info? 4).map (fun i=>(i.zero,i.size,i.bytes))=some (some (.bool false),1,1):=by kernel_rfl
theorem aR{p:Prop}(h:p):Hid p:=h
theorem gL{k:IntKind}{a:Int}(h:a=z):Ending.returned (.int k a)=.returned (.int k z):=by rw[h]
def bE(w:World)(a:Option Addr)(b off n:Nat)(X:Nat->Nat):Prop:=
 ∀j,j<n->a=some ⟨b,off,none⟩/\w.cell? ⟨b,off+j,none⟩=some (.int .u32 (X j))
def kp(w:World)(a:Option Addr)(b off n:Nat)(B:Nat->Bool):Prop:=
 ∀j,j<n->a=some ⟨b,off,none⟩/\w.cell? ⟨b,off+j,none⟩=some (.bool (B j))
structure Same(w w':World):Prop where
 os:w'.os=w.os
 tape:w'.tape=w.tape
 output:w'.output=w.output
 heap:w'.heap=w.heap
theorem Same.refl(w:World):Same w w:=⟨rfl,rfl,rfl,rfl⟩
theorem Same.drewN(h:Same w v)(n:Nat):Same w (v.drewN n):=⟨h.os,h.tape,h.output,h.heap⟩
theorem Same.cell(h:Same w v)(a:Addr):v.cell? a=w.cell? a:=by simp[World.cell?,h.heap]
theorem Same.frozen(h:Same w v)(a:Addr):v.frozen? a=w.frozen? a:=by simp[World.frozen?,h.heap]
theorem Same.size{w w':World}(h:Same w w'):w'.heap.size=w.heap.size:=by rw[h.heap]
theorem Same.since(h:Same w v)(B:Nat):w.Since B v:=⟨h.os,h.tape,h.output,by rw[h.heap];exact aC _,fun k _=>by rw[h.heap]⟩
def Shape(w:World)(b:Nat)(t:TypeId)(n:Nat):Prop:=∃cur:Array Value,w.heap[b]?=some (.cells cur t)/\cur.size=n
theorem Shape.setCell{n:Nat}{t:TypeId}(h:Shape w n t m)(c d:Nat)(u:Value):Shape (w.setCell ⟨c,d,none⟩ u) n t m:=by
 obtain⟨a,b,f⟩:=h;by_cases e:c=n
 . subst e;have r:w.rowIs c t m (fun j=>a[j]?.getD (.bool false)):=⟨a,b,f,fun j l=>by show a[j]?=some (a[j]?.getD (.bool false));rw[Array.getElem?_eq_getElem om];rfl⟩;obtain⟨g,i,k,-⟩:=r.set d u;exact⟨g,i,k⟩
 . exact⟨a,(fN _ _ _ _ (fL e)).trans b,f⟩
theorem Shape.since{n B:Nat}{t:TypeId}(h:Shape w n t m)(s:w.Since B v)(hb:n<B):Shape v n t m:=by
 obtain⟨a,c,d⟩:=h;exact⟨a,(s.block n hb).trans c,d⟩
theorem Shape.of_block{w w':World}{n:Nat}{t:TypeId}(h:Shape w n t m)(e:w'.heap[n]?=w.heap[n]?):Shape w' n t m:=by
 obtain⟨a,c,d⟩:=h;exact⟨a,e.trans c,d⟩
theorem Shape.lt{n:Nat}{t:TypeId}(h:Shape w n t m):n<w.heap.size:=by
 obtain⟨c,a,-⟩:=h;exact (dM.1 a).1
structure aV(w w':World)(b:Nat):Prop where
 os:w'.os=w.os
 tape:w'.tape=w.tape
 output:w'.output=w.output
 size:w'.heap.size=w.heap.size
 other:∀k,k≠b->w'.heap[k]?=w.heap[k]?
 frozen:∀o,w'.frozen? ⟨b,o,none⟩=w.frozen? ⟨b,o,none⟩
 shape:∀t n,Shape w b t n->Shape w' b t n
theorem aV.refl(w:World)(n:Nat):aV w w n:=⟨rfl,rfl,rfl,rfl,fun _ _=>rfl,fun _=>rfl,fun _ _ h=>h⟩
theorem aV.setCell{n:Nat}(h:aV w v n)(m:Nat)(u:Value):aV w (v.setCell ⟨n,m,none⟩ u) n:=
 ⟨h.os,h.tape,h.output,by rw[<-h.size];simp[World.setCell],fun k a=>by rw[<-h.other k a];exact fN _ _ _ _ a,fun c=>by rw[<-h.frozen c];simp,fun t b k=>(h.shape t b k).setCell _ _ _⟩
theorem aV.since{n B:Nat}(h:aV w v n)(a:B<=n):w.Since B v:=
 ⟨h.os,h.tape,h.output,by rw[h.size];exact aC _,fun k c=>h.other k om⟩
theorem aV.cell{n:Nat}(h:aV w v n){a:Addr}(c:a.block≠n):v.cell? a=w.cell? a:=aO (w:=w) (h.other _ c)
theorem aV.hU{n:Nat}(h:aV w v n){a:Addr}(c:a.block≠n):v.frozen? a=w.frozen? a:=dK (w:=w) (h.other _ c)
section
variable{w w':World}{a:Option Addr}{b off n m B:Nat}{X Y:Nat->Nat}{T:Nat->Bool}
theorem bE.lt(h:bE w a b off n X)(c:0<n):b<w.heap.size:=aG _ _ (h 0 c).2
theorem kp.lt(h:kp w a b off n T)(c:0<n):b<w.heap.size:=aG _ _ (h 0 c).2
theorem bE.since(h:bE w a b off n X)(d:w.Since B w')(hb:0<n->b<B):bE w' a b off n X:=
 fun j c=>⟨(h j c).1,by rw[d.cell (a:=jj b (off+j)) (hb om)];exact (h j c).2⟩
theorem bE.bH(h:bE w a b off n X)(c:w.S w'):bE w' a b off n X:=h.since c h.lt
theorem kp.since(h:kp w a b off n T)(d:w.Since B w')(hb:0<n->b<B):kp w' a b off n T:=
 fun j c=>⟨(h j c).1,by rw[d.cell (a:=jj b (off+j)) (hb om)];exact (h j c).2⟩
theorem kp.bH(h:kp w a b off n T)(c:w.S w'):kp w' a b off n T:=h.since c h.lt
theorem bE.same(h:bE w a b off n X)(d:Same w w'):bE w' a b off n X:=
 fun j c=>⟨(h j c).1,by rw[d.cell];exact (h j c).2⟩
theorem kp.same(h:kp w a b off n T)(d:Same w w'):kp w' a b off n T:=
 fun j c=>⟨(h j c).1,by rw[d.cell];exact (h j c).2⟩
theorem bE.marked(h:bE w a b off n X)(f:aV w w' m)(e:0<n->b≠m):bE w' a b off n X:=
 fun j d=>⟨(h j d).1,by rw[f.cell (a:=jj b (off+j)) (e om)];exact (h j d).2⟩
theorem bE.take(h:bE w a b off n X)(d:m<=n):bE w a b off m X:=fun j c=>h j om
theorem kp.take(h:kp w a b off n T)(d:m<=n):kp w a b off m T:=fun j c=>h j om
theorem bE.congr(h:bE w a b off n X)(e:∀j,j<n->X j=Y j):bE w a b off n Y:=fun j c=>by rw[<-e j c];exact h j c
theorem ip(h:w.rowIs b 135 n (fun j=>.int .u32 (X j))):bE w (jp b 0) b 0 n X:=
 fun j a=>⟨rfl,by rw[aZ];exact h.cell a⟩
theorem cp(h:w.rowIs b 4 n (fun j=>.bool (T j))):kp w (jp b 0) b 0 n T:=
 fun j a=>⟨rfl,by rw[aZ];exact h.cell a⟩
end
theorem ak9{n:Nat}(y:c<=16777216)(q:bE w a n m c X):
 Cl 90 #[.slice a c d] w fun e o=>e=.returned (.s w.heap.size c c)/\w.S o/\o.rowIs w.heap.size 135 c (fun j=>.int .u32 (X j)):=by
 have s:=run_make_row' (P:=Tryz.prog) 74 135 (.int .u32 0) 4 underlying74 fI rfl .i64 .i64 c om om;go_enter func90,ntmps90;go_wp2;clear s;go_loopw [4] (fun i wr=>∃k:Nat,k<=c/\i=.i k/\w.S wr/\wr.rowIs w.heap.size 135 c (fun j=>.int .u32 (if j<k then X j else 0))) (fun i _=>c-(intOf i).toNat)
 case atStart=>exact⟨0,aJ _,rfl,cV _ _,(iY w _ c 135).congr (fun j _=>by simp)⟩
 case round=>
  obtain⟨k,x,rfl,h,b⟩:=hrel;by_cases l:k<c
  . obtain⟨rfl,g⟩:=q k l;have hb:n<w.heap.size:=aG _ _ g;have t:wr.cell? (jj n (m+k))=some (.int .u32 (X k)):=(by rw[h.cell (a:=jj n (m+k)) hb];exact g);have u:=b.cell l;have v:=b.frozen k;go_wp2;go_roundw
    case rel=>
     refine⟨k+1,om,by go_num,h.setCell zR _,(b.set k _).congr (fun j _=> ?_)⟩;by_cases e:j=k
     . subst e;simp
     . simp only[e,iO];by_cases f:j<k
       . rw[aY f,aY om]
       . rw[aM f,aM om]
    case measure=>exact yI
  . have e:k=c:=om;subst e;go_wp2;go_ret;exact⟨rfl,h,b.congr (fun j r=>by simp[r])⟩
theorem eq_true{n i:Nat}(x:k<=67108864)(o:bE w a n m k X)(q:bE w A c d k X):
 Cl 119 #[.slice a k i,.slice A k j] w fun e l=>e=.returned (.bool true)/\Same w l:=by
 go_enter func119,ntmps119;go_wp2;go_loopw [5] (fun h wr=>∃b:Nat,b<=k/\h=.i b/\Same w wr) (fun h _=>k-(intOf h).toNat)
 case atStart=>exact⟨0,aJ _,rfl,Same.refl _⟩
 case round=>
  obtain⟨b,v,rfl,f⟩:=hrel;by_cases g:b<k
  . obtain⟨rfl,r⟩:=o b g;obtain⟨rfl,s⟩:=q b g;have t:wr.cell? (jj n (m+b))=some (.int .u32 (X b)):=(by rw[f.cell];exact r);have u:wr.cell? (jj c (d+b))=some (.int .u32 (X b)):=(by rw[f.cell];exact s);have y:(b:Int)<k:=om;go_wp2;go_quiet (fail);go_wp2;go_roundw
    case rel=>exact⟨b+1,om,by go_num,f.drewN _⟩
    case measure=>exact yI
  . go_wp2;go_ret;exact⟨rfl,f⟩
theorem dg{P:Nat->Bool}{n:Nat}(a:0<n)(h:P (n-1)=false):gi P (n-1)=gi P n:=by
 obtain⟨m,rfl⟩:∃m,n=m+1:=⟨n-1,om⟩;simp only[cF] at*;simp[gi,h]
theorem du{P:Nat->Bool}{n:Nat}(a:0<n)(h:P (n-1)=true):gi P n=n:=by
 obtain⟨m,rfl⟩:∃m,n=m+1:=⟨n-1,om⟩;simp only[cF] at*;simp[gi,h]
theorem aeb{n:Nat}(h:n=m):Ending.returned (.slice a n c)=.returned (.slice a m c):=by rw[h]
theorem nu{n:Nat}{B:Nat->Bool}(r:c<=281474976710656)(s:c<=d)(l:kp w a n m c B):
 Cl 157 #[.slice a c d] w fun e o=>e=.returned (.slice a (gi B c) d)/\o=w:=by
 go_enter func157,ntmps157;go_wp2;go_loop [3] (fun i=>∃k:Nat,k<=c/\i=.i k/\gi B k=gi B c) (fun i=>(intOf i).toNat)
 case atStart=>exact⟨c,aC _,rfl,rfl⟩
 case round=>
  obtain⟨k,q,rfl,h⟩:=hrel;have f:Hid (gi B k=gi B c):=h;by_cases j:0<k
  . obtain⟨rfl,g⟩:=l (k-1) om;cases hB:B (k-1)
    . rw[hB] at g;have b:Hid (B (k-1)=false):=hB;go_wp2;go_round
      case rel=>exact⟨k-1,om,by go_num,(dg j b.out).trans f.out⟩
      case measure=>exact yI
    . rw[hB] at g;have b:Hid (B (k-1)=true):=hB;go_wp2;go_ret;exact⟨aeb ((du j b.out).symm.trans f.out),rfl⟩
  . have e:k=0:=om;subst e;go_wp2;go_ret;exact⟨aeb f.out,rfl⟩
theorem af3{n:Nat}(v:d<=281474976710656)(x:d<=k)
 (s:w.cell? (jj n 0)=some (.l a d k))(t:w.frozen? (jj n 0)=false)(h:bE w a m c d X):
 Cl 168 #[.p n 0] w fun e r=>e=.returned (.tuple #[])/\r=w.setCell ⟨n,0,none⟩ (.slice a (gi (nz X) d) k):=by
 go_enter func168,ntmps168;go_wp2;go_loop [2] (fun i=>∃b:Nat,b<=d/\i=.i b/\gi (nz X) b=gi (nz X) d) (fun i=>(intOf i).toNat)
 case atStart=>exact⟨d,aC _,rfl,rfl⟩
 case round=>
  obtain⟨b,u,rfl,q⟩:=hrel;have f:Hid (gi (nz X) b=gi (nz X) d):=q;by_cases l:0<b
  . obtain⟨rfl,o⟩:=h (b-1) om;by_cases j:X (b-1)=0
    . rw[j] at o;have g:Hid (nz X (b-1)=false):=(by simp[Hid,nz,j]);go_wp2;go_round
      case rel=>exact⟨b-1,om,by go_num,(dg l g.out).trans f.out⟩
      case measure=>exact yI
    . have g:Hid (nz X (b-1)=true):=(by simp[Hid,nz,j]);have y:((X (b-1):Int)==0)=false:=(by simp;omega);go_wp2;go_end0;exact⟨rfl,by rw[<-f.out,du l g.out]⟩
  . have e:b=0:=om;subst e;go_wp2;go_end0;exact⟨rfl,by rw[<-f.out];rfl⟩
theorem sf{n:Nat}(f:c<=281474976710656)(g:c<=d)(b:bE w a n m c X):
 Cl 141 #[.slice a c d] w fun e i=>e=.returned (.slice a (gi (nz X) c) d)/\w.S i:=by
 go_enter func141,ntmps141;go_wp2_with fail;refine (af3 f g (by simp[go_sem]) (by simp[go_sem]) (b.bH (yD.alloc zR _))).mono ?_;rintro e h ⟨rfl,rfl⟩;go_wp2;go_ret;exact⟨rfl,cV _ _⟩
theorem jZ{n:Nat}{i:Nat}(x:k<=281474976710656)(y:k<=i)
 (t:w.cell? (jj n m)=some (.l a k i))(u:w.frozen? (jj n m)=false)(o:bE w a c d k X):
 Cl 168 #[.p n m] w fun e s=>e=.returned (.tuple #[])/\s=w.setCell ⟨n,m,none⟩ (.slice a (gi (nz X) k) i):=by
 go_enter func168,ntmps168;go_wp2;go_loop [2] (fun h=>∃b:Nat,b<=k/\h=.i b/\gi (nz X) b=gi (nz X) k) (fun h=>(intOf h).toNat)
 case atStart=>exact⟨k,aC _,rfl,rfl⟩
 case round=>
  obtain⟨b,v,rfl,r⟩:=hrel;have f:Hid (gi (nz X) b=gi (nz X) k):=r;by_cases l:0<b
  . obtain⟨rfl,q⟩:=o (b-1) om;by_cases j:X (b-1)=0
    . rw[j] at q;have g:Hid (nz X (b-1)=false):=(by simp[Hid,nz,j]);go_wp2;go_round
      case rel=>exact⟨b-1,om,by go_num,(dg l g.out).trans f.out⟩
      case measure=>exact yI
    . have g:Hid (nz X (b-1)=true):=(by simp[Hid,nz,j]);have z:((X (b-1):Int)==0)=false:=(by simp;omega);go_wp2;go_end0;exact⟨rfl,by rw[<-f.out,du l g.out]⟩
  . have e:b=0:=om;subst e;go_wp2;go_end0;exact⟨rfl,by rw[<-f.out];rfl⟩
theorem dp{n:Nat}(f:w.cell? (jj n m)=some (.l a c d)):
 Cl 193 #[.p n m] w fun e b=>e=.returned (.bool ((c:Int)==0))/\b=w:=by
 go_enter func193,ntmps193;go_wp2;go_ret;exact⟨rfl,rfl⟩
theorem aks(h:z<y):Cl 169 #[.i z,.i y] w fun e a=>e=.returned (.i (-1))/\a=w:=by
 go_enter func169,ntmps169;go_wp2;go_ret;exact⟨rfl,rfl⟩
theorem akt(h:y<z):Cl 169 #[.i z,.i y] w fun e a=>e=.returned (.i 1)/\a=w:=by
 go_enter func169,ntmps169;go_wp2;go_ret;exact⟨rfl,rfl⟩
theorem aip(h:z<y):Cl 170 #[.int .u32 z,.int .u32 y] w fun e a=>e=.returned (.i (-1))/\a=w:=by
 go_enter func170,ntmps170;go_wp2;go_ret;exact⟨rfl,rfl⟩
theorem aiq(h:y<z):Cl 170 #[.int .u32 z,.int .u32 y] w fun e a=>e=.returned (.i 1)/\a=w:=by
 go_enter func170,ntmps170;go_wp2;go_ret;exact⟨rfl,rfl⟩
theorem mq{n m:Nat}{a A:Option Addr}{c d k i j l o b:Nat}{X Y:Nat->Nat}{w:World}(hn:k<=281474976710656)(hm:o<=281474976710656)(R:w.cell? (jj n m)=some (.l a k i))
 (N:bE w a c d k X)(O:bE w A j l o Y)(G:∀v,v<k->X v<4294967296)(H:∀v,v<o->Y v<4294967296)(tA:0<k->X (k-1)≠0)(tB:0<o->Y (o-1)≠0):
 Cl 143 #[.p n m,.slice A o b] w fun e w'=>e=.returned (.i (li (lv X k) (lv Y o)))/\Same w w':=by
 by_cases q:k<o
 . rw[vV (tt G q tB)];go_enter func143,ntmps143;go_wp2_with fail;refine (aks om).mono ?_;rintro e w1 ⟨rfl,rfl⟩;go_wp2;go_ret;exact⟨rfl,Same.refl _⟩
 by_cases g:o<k
 . rw[bu (tt H g tA)];go_enter func143,ntmps143;go_wp2_with fail;refine (akt om).mono ?_;rintro e w1 ⟨rfl,rfl⟩;go_wp2;go_ret;exact⟨rfl,Same.refl _⟩
 have e:o=k:=om;subst e;have I:=aR G;have L:=aR H;go_enter func143,ntmps143;go_wp2;go_loopw [5] (fun t wr=>∃(C:Nat) (z:Int),C<=o/\t=.i z/\Hid (z=C-1)/\Same w wr/\Hid (∀v,C<=v->v<o->X v=Y v)) (fun t _=>(intOf t+1).toNat)
 case atStart=>exact⟨o,(o:Int)-1,aC _,rfl,rfl,Same.refl _,fun v q g=>absurd g om⟩
 case round=>
  obtain⟨C,z,hk,rfl,D,h,s⟩:=hrel;by_cases W:0<=z
  . obtain⟨u,rfl⟩:=jW W;have U:C=u+1:=(by have:=D.out;omega);subst U;obtain⟨rfl,P⟩:=N u om;obtain⟨rfl,Q⟩:=O u om;have p:wr.cell? (jj c (d+u))=some (.int .u32 (X u)):=(by rw[h.cell];exact P);have x:wr.cell? (jj j (l+u))=some (.int .u32 (Y u)):=(by rw[h.cell];exact Q);have y:wr.cell? (jj n m)=some (.l (jp c d) o i):=(by rw[h.cell];exact R);have ac:(u:Int)<o:=om;by_cases F:X u=Y u
    . have K:Hid (X u=Y u):=F;rw[F] at p;go_wp2;go_quiet (fail);go_wp2;go_roundw
      case rel=>
       refine⟨u,(u:Int)-1,om,rfl,rfl,h.drewN _,fun v q g=> ?_⟩;by_cases e:v=u
       . subst e;exact K.out
       . exact s.out v om g
      case measure=>simp[intOf]
    . have ab:((X u:Int)==(Y u:Int))=false:=(by simp;omega);by_cases V:X u<Y u
      . have E:Hid (li (lv X o) (lv Y o)=-1):=vV (alr I.out (i:=u) om (fun v q g=>s.out v om g) V);go_wp2;go_quiet (fail);go_wp2;have r:=h.drewN nq;obtain⟨f,B⟩:∃f,f=wr.drewN nq:=⟨_,rfl⟩;have M:f.cell? (jj c (d+u))=some (.int .u32 (X u)):=(by rw[B];exact p);have Z:f.cell? (jj j (l+u))=some (.int .u32 (Y u)):=(by rw[B];exact x);have ad:f.cell? (jj n m)=some (.l (jp c d) o i):=(by rw[B];exact y);rw[<-B] at r⊢;clear B p x y;go_quiet ((go_at_call 170;exact Calls.quiet_of_same (aip om)));go_wp2;go_ret;exact⟨gL E.out.symm,r.drewN _⟩
      . have E:Hid (li (lv X o) (lv Y o)=1):=bu (alr L.out (i:=u) om (fun v q g=>(s.out v om g).symm) om);have aa:Y u<X u:=om;go_wp2;go_quiet (fail);go_wp2;have r:=h.drewN nq;obtain⟨f,B⟩:∃f,f=wr.drewN nq:=⟨_,rfl⟩;have M:f.cell? (jj c (d+u))=some (.int .u32 (X u)):=(by rw[B];exact p);have Z:f.cell? (jj j (l+u))=some (.int .u32 (Y u)):=(by rw[B];exact x);have ad:f.cell? (jj n m)=some (.l (jp c d) o i):=(by rw[B];exact y);rw[<-B] at r⊢;clear B p x y;go_quiet ((go_at_call 170;exact Calls.quiet_of_same (aiq om)));go_wp2;go_ret;exact⟨gL E.out.symm,r.drewN _⟩
  . have T:C=0:=(by have:=D.out;omega);subst T;have E:Hid (li (lv X o) (lv Y o)=0):=eR (jn (fun v S=>s.out v om S));go_wp2;go_ret;exact⟨gL E.out.symm,h⟩
def bl(B:Nat->Bool)(m:Nat):List Value:=(List.range m).map fun j=>.bool (B j)
theorem tE(B:Nat->Bool)(n:Nat):(bl B n).length=n:=by simp[bl]
theorem eT(B:Nat->Bool)(n:Nat):bl B (n+1)=bl B n++[.bool (B n)]:=by simp[bl,gY]
theorem wc(B:Nat->Bool)(n m:Nat)(h:m<n):(bl B n)[m]?=some (.bool (B m)):=by simp[bl,h]
def ll(X:Nat->Nat)(m:Nat):List Value:=(List.range m).map fun j=>.int .u32 (X j)
theorem xG(X:Nat->Nat)(n:Nat):(ll X n).length=n:=by simp[ll]
theorem cD(X:Nat->Nat)(n:Nat):ll X (n+1)=ll X n++[.int .u32 (X n)]:=by simp[ll,gY]
theorem vL(X:Nat->Nat)(n m:Nat)(h:m<n):(ll X n)[m]?=some (.int .u32 (X m)):=by simp[ll,h]
theorem afT{n:Nat}{B:Nat->Bool}(h:w.ownsRow n 4 1 u m (bl B m)):
 ∃a g b,u=.slice a m b/\m<=b/\(0<m->n<=g)/\kp w a g 0 m B:=by
 have d:= @World.ownsRow.cells _ _ _ _ _ _ _ h;rcases h.2 with ⟨rfl,rfl⟩ | ⟨g,b,f,rfl,hb,i,e,_⟩
 . exact⟨none,0,0,rfl,aC _,fun h=>absurd h om,fun j c=>absurd c om⟩
 . refine⟨_,g,b,rfl,e,fun _=>hb,fun j c=>⟨rfl, ?_⟩⟩;have:=d (g:=g) rfl j _ (wc B m j c);rw[mT] at this;exact this
theorem anY(X:Nat->Nat)(n m c:Nat)(d:m<32)(e:c=X n/2^m):((c:Int) % 2==1)=bitsOf X (32*n+m):=by
 have a:(32*n+m)/32=n:=om;have b:(32*n+m) % 32=m:=om;unfold bitsOf;rw[a,b,<-e,gG];simp only[jJ];omega
theorem amK(X:Nat->Nat)(n m c:Nat)(a:c=X n/2^m):c/2=X n/2^(m+1):=by
 rw[a,mU,iH]
theorem im{a:Option Addr}{n m c d:Nat}{X:Nat->Nat}{w:World}(hn:c<=67108864)(y:bE w a n m c X)(z:∀j,j<c->X j<4294967296):
 Cl 127 #[.slice a c d] w fun e Z=>∃f g p l B,e=.returned (.slice f p l)/\p<=l/\p<=32*c/\kp Z f g 0 p B/\(0<p->w.heap.size<=g)/\
  (0<p->B (p-1)=true)/\bv B p=lv X c/\w.S Z:=by
 obtain⟨V,N,S,T,U⟩:=kT bj;go_enter func127,ntmps127;go_wp2;go_loopw [3,4] (fun v q wr=>∃i:Nat,i<=c/\q=.i i/\wr.ownsRow w.heap.size 4 1 v (32*i) (bl (bitsOf X) (32*i))/\w.S wr) (fun _ i _=>c-(intOf i).toNat)
 case atStart=>exact⟨0,aJ _,rfl,iP w #[] 0 zR qd rfl,cV _ _⟩
 case round=>
  obtain⟨i,ab,rfl,I,b⟩:=hrel;by_cases C:i<c
  . obtain⟨rfl,K⟩:=y i C;have Y:wr.cell? (jj n (m+i))=some (.int .u32 (X i)):=(by rw[b.cell (a:=jj n (m+i)) (y.lt om)];exact K);have R:=z i C;go_wp2;go_loopw [3,5,6] (fun v x t H=>∃k q:Nat,k<=32/\t=.i k/\x=.int .u32 q/\q=X i/2^k/\q<4294967296/\H.ownsRow w.heap.size 4 1 v (32*i+k) (bl (bitsOf X) (32*i+k))/\w.S H) (fun _ _ t _=>32-(intOf t).toNat)
    case atStart=>exact⟨0,X i,om,rfl,rfl,qz,R,I,b⟩
    case round=>
     obtain⟨k,q,A,rfl,rfl,E,aa,I,b⟩:=hrel;have r:Hid (q=X i/2^k):=E;clear E;by_cases O:k<32
     . go_wp2_with (at_builtin;refine gK _ rfl _ _ 47 rfl w.heap.size 4 V (.bool false) 1 1 underlying47 N S T U rfl qd _ _ _ rfl (I.alloc _) (jj wr.heap.size 0) 1 1 [.bool ((q:Int) % 2==1)] rfl rfl ?c1 ?c2 ?c3 ?c4 ?c5 ?_)
       case c1=>
        intro j u o
        match j,o with
        | 0,o=>simp at o;subst o;simp[Addr.add]
       case c2=>intro u G;simp at G;subst G;rfl
       case c3=>unfold maxLen;omega
       case c4=>omega
       case c5=>have:=b.size;simp;omega
       intro v' W D M _;have Q:=(b.alloc b.size _).grown M (by have:=b.size;simp;omega) (fun k A=>(I.lt k A).1);rw[anY X i k q O r.out,<-eT] at D;go_wp2;go_roundw
       case rel=>exact⟨k+1,q/2,om,by go_num,by go_num,amK X i k q r.out,om,D,Q⟩
       case measure=>exact yI
     . have e:k=32:=om;subst e;go_wp2;go_roundw
       case rel=>exact⟨i+1,om,by go_num,I,b⟩
       case measure=>exact yI
  . have e:i=c:=om;subst e;obtain⟨f,g,l,rfl,P,L,s⟩:=afT I;go_wp2_with fail;refine (nu om P s).mono ?_;rintro e W ⟨rfl,rfl⟩;go_wp2;go_ret;have F:=gh (bitsOf X) (32*i);exact⟨f,g,_,l,bitsOf X,rfl,om,F,s.take F,fun h=>L om,fun h=>h8 _ _ h,(ur _ _).trans (agR X i z),b⟩
theorem ot{n:Nat}{B:Nat->Bool}(h:w.ownsRow n 4 1 u m (bl B m))(e:u≠ .n):
 ∃g a,u=.s g m a/\m<=a/\n<=g/\kp w (jp g 0) g 0 m B:=by
 have b:= @World.ownsRow.cells _ _ _ _ _ _ _ h;rcases h.2 with ⟨rfl,rfl⟩ | ⟨g,a,f,rfl,hb,i,d,_⟩
 . exact absurd rfl e
 . refine⟨g,a,rfl,d,hb,fun j c=>⟨rfl, ?_⟩⟩;have:=b (g:=g) rfl j _ (wc B m j c);rw[mT] at this;exact this
theorem alO{B C:Nat->Bool}{n:Nat}(h:∀j,j<n->B j=C j):bl B n=bl C n:=by
 unfold bl;exact fG (fun j a=>by rw[h j (dU.1 a)])
theorem bh(D:Nat->Bool)(n:Nat)(f:Bool):bl (pf D n f) (n+1)=bl D n++[.bool f]:=by
 rw[eT,fy,alO (fun j a=>dI D n f j om)]
theorem kh(w:World)(u:Value)(t:TypeId):∀j b,[u][j]?=some b->(w.alloc (.cells #[u] t)).cell? (((jj w.heap.size 0):Addr).add j)=some b:=by
 intro j b a
 match j,a with
 | 0,a=>simp at a;subst a;simp[Addr.add]
theorem one_one(u:Value)(h:u.oneCell'=true):∀b∈[u],b.oneCell'=true:=by
 intro b a;simp at a;subst a;exact h
theorem aiM(f F c:Bool):(!(!f==F)==c)=((f != F) != c):=by cases f<;>cases F<;>cases c<;>rfl
theorem aiN(f F:Bool):(!(f==F))=((f != false) != F):=by cases f<;>cases F<;>rfl
theorem ou{a A:Option Addr}{n m c d k i j l:Nat}{p B:Nat->Bool}{w:World}(hn:c<=4294967296)(hm:j<=c)(P:kp w a n m c p)(Q:kp w A k i j B)(ac:bv B j<=bv p c):
 Cl 139 #[.slice a c d,.slice A j l] w fun e Z=>∃g t O D,e=.returned (.s g t O)/\t<=O/\t<=c/\kp Z (jp g 0) g 0 t D/\w.heap.size<=g/\
  (0<t->D (t-1)=true)/\bv D t=bv p c-bv B j/\w.S Z:=by
 obtain⟨X,S,U,V,W⟩:=kT bj;have ag:Hid (bv B j<=bv p c):=ac;go_enter func139,ntmps139;go_wp2;go_loopw [5,6,7] (fun v aa t wr=>∃(b:Nat) (u:Bool) (D:Nat->Bool),b<=c/\t=.i b/\aa=.bool u/\Hid (v≠ .n)/\wr.ownsRow w.heap.size 4 1 v b (bl D b)/\w.S wr/\Hid (bm D p B j b u)) (fun _ _ t _=>c-(intOf t).toNat)
 case atStart=>exact⟨0,false,fun _=>false,aJ _,rfl,rfl,aR qz,iP w #[] 0 zR qd rfl,cV _ _,aR rfl⟩
 case round=>
  obtain⟨b,u,D,af,rfl,rfl,HN,f,h,q⟩:=hrel;by_cases ad:b<c
  . obtain⟨rfl,L⟩:=P b ad;have g0:wr.cell? (jj n (m+b))=some (.bool (p b)):=(by rw[h.cell (a:=jj n (m+b)) (P.lt om)];exact L);obtain⟨x,I⟩:∃x,x=p b:=⟨_,rfl⟩;rw[<-I] at g0;have M:Hid (p b=x):=I.symm;clear I;by_cases E:b<j
    . obtain⟨rfl,L⟩:=Q b E;have g1:wr.cell? (jj k (i+b))=some (.bool (B b)):=(by rw[h.cell (a:=jj k (i+b)) (Q.lt om)];exact L);obtain⟨y,K⟩:∃y,y=B b:=⟨_,rfl⟩;rw[<-K] at g1;have s:Hid (ext B j b=y):=(by simp[Hid,ext,E,K]);clear L K;have r:=aR (abR q.out M.out s.out);go_wp2_with (at_builtin;refine gK _ rfl _ _ 47 rfl w.heap.size 4 X (.bool false) 1 1 underlying47 S U V W rfl qd _ _ _ rfl (f.alloc _) (jj wr.heap.size 0) 1 1 [.bool _] rfl rfl (kh _ _ _) (one_one _ rfl) (by unfold maxLen;omega) om (by have:=h.size;simp;omega) ?_);intro v' Y z C G;have H:=(h.alloc h.size _).grown C (by have:=h.size;simp;omega) (fun N F=>(f.lt N F).1);have o:=aR G;rw[aiM x y u,<-bh] at z;cases x<;>cases y<;>cases u
      all_goals
       go_wp2;go_roundw
       case rel=>exact⟨b+1,_,_,om,by go_num,rfl,o,z,H,r⟩
       case measure=>exact yI
    . have s:Hid (ext B j b=false):=(by simp[Hid,ext,E]);have r:=aR (abR q.out M.out s.out);go_wp2_with (at_builtin;refine gK _ rfl _ _ 47 rfl w.heap.size 4 X (.bool false) 1 1 underlying47 S U V W rfl qd _ _ _ rfl (f.alloc _) (jj wr.heap.size 0) 1 1 [.bool _] rfl rfl (kh _ _ _) (one_one _ rfl) (by unfold maxLen;omega) om (by have:=h.size;simp;omega) ?_);intro v' Y z C G;have H:=(h.alloc h.size _).grown C (by have:=h.size;simp;omega) (fun N F=>(f.lt N F).1);have o:=aR G;rw[aiN x u,<-bh] at z;cases x<;>cases u
      all_goals
       go_wp2;go_roundw
       case rel=>exact⟨b+1,_,_,om,by go_num,rfl,o,z,H,r⟩
       case measure=>exact yI
  . have e:b=c:=om;subst e;obtain⟨g,l,rfl,ae,hg,R⟩:=ot f HN.out;go_wp2_with fail;refine (nu om ae R).mono ?_;rintro e Y ⟨rfl,rfl⟩;go_wp2;go_ret;have T:=gh D b;exact⟨g,_,l,D,rfl,om,T,R.take T,hg,fun ah=>h8 _ _ ah,(ur _ _).trans (ahq q.out hm ag.out),h⟩
def part(E:Nat->Bool)(s k:Nat):Nat:=bv (fun t=>E (s+k+t)) (32-k)
theorem ajC(E:Nat->Bool)(n m:Nat)(a:m<32):part E n m=2*part E n (m+1)+(E (n+m)).toNat:=by
 unfold part;rw[show 32-m=(32-(m+1))+1 by omega,cn];congr 2;exact py (fun j _=>by rw[show n+m+(j+1)=n+(m+1)+j by omega])
theorem amt(E:Nat->Bool)(n m:Nat)(b:0<m):part E n m<2147483648:=by
 have h:=a2 (fun t=>E (n+m+t)) (32-m);have a:2^(32-m)<=2^31:=dP om om;unfold part;omega
theorem akX(E:Nat->Bool)(n:Nat):part E (32*n) 0=ul E n:=rfl
theorem akW(E:Nat->Bool)(n:Nat):part E n 32=0:=rfl
theorem amw{n:Nat}(h:w.ownsRow n 135 1 u m (ll X m))(c:Nat)(k:n<=c):
 ∃a g b,u=.slice a m b/\m<=b/\(a=none->b=0)/\n<=g/\(g=c∨g<w.heap.size)/\(0<m->g<w.heap.size)/\bE w a g 0 m X/\(0<m->∀o,w.frozen? (jj g o)=false):=by
 have i:= @World.ownsRow.cells _ _ _ _ _ _ _ h;rcases h.2 with ⟨rfl,rfl⟩ | ⟨g,b,p,rfl,hb,e,l,_⟩
 . exact⟨none,c,0,rfl,aC _,fun _=>rfl,k,Or.inl rfl,fun h=>absurd h om,fun j d=>absurd d om,fun h=>absurd h om⟩
 . have f:=(dM.1 e).1;refine⟨_,g,b,rfl,l,fun h=>(by cases h),hb,Or.inr f,fun _=>f,fun j d=>⟨rfl, ?_⟩,fun _ o=>by simp[World.frozen?,e]⟩;have:=i (g:=g) rfl j _ (vL X m j d);rw[mT] at this;exact this
theorem aeX{n:Nat}{B:Nat->Bool}(hn:c<=4294967296)(ab:c<=d)(D:kp w a n m c B):
 Cl 164 #[.slice a c d] w fun e Z=>∃l g h o Y,e=.returned (.slice l h o)/\h<=o/\(l=none->o=0)/\32*h<c+32/\bE Z l g 0 h Y/\(0<h->w.heap.size<=g)/\(0<h->∀ah,Z.frozen? (jj g ah)=false)/\
  (∀j,Y j<4294967296)/\(0<h->Y (h-1)≠0)/\lv Y h=bv B c/\w.S Z:=by
 obtain⟨i0,U,ae,af,ag⟩:=kT fI;obtain⟨h,G⟩:∃h,h=gi B c:=⟨_,rfl⟩;have aa:h<=c:=by rw[G];exact gh _ _
 have u:Hid (h=gi B c):=G;clear G;obtain⟨E,L⟩:∃E,E=ext B h:=⟨_,rfl⟩;have r:Hid (E=ext B h):=L;clear L;have K:=D.take aa;go_enter func164,ntmps164;go_wp2_with fail;refine (nu om ab D).mono ?_;rintro e f ⟨rfl,rfl⟩;rw[<-u.out];clear D;go_wp2;go_loopw [4,5] (fun v t wr=>∃q:Nat,32*q<h+32/\t=.i ((32*q:Nat):Int)/\wr.ownsRow f.heap.size 135 1 v q (ll (ul E) q)/\f.S wr) (fun _ t _=>h+32-(intOf t).toNat)
 case atStart=>exact⟨0,om,rfl,iP f #[] 0 zR qd rfl,cV _ _⟩
 case round=>
  obtain⟨q,hq,rfl,x,H⟩:=hrel;by_cases ai:32*q<h
  . go_wp2;go_loop [6,7] (fun v t=>∃(k p:Nat) (z:Int),k<=32/\t=.i z/\v=.int .u32 p/\Hid (z=k-1)/\Hid (p=part E (32*q) k)) (fun _ t=>(intOf t+1).toNat)
    case atStart=>exact⟨32,0,31,om,rfl,rfl,(by decide:(31:Int)=((32:Nat):Int)-1),(akW E (32*q)).symm⟩
    case round=>
     obtain⟨k,p,z,O,rfl,rfl,C,y⟩:=hrel;by_cases hz:0<=z
     . obtain⟨b,rfl⟩:=jW hz;have W:k=b+1:=(by have:=C.out;omega);subst W;clear C;have hp:=amt E (32*q) (b+1) om;rw[<-y.out] at hp;have A:Hid (part E (32*q) b=2*p+(E (32*q+b)).toNat):=(by have:=ajC E (32*q) b om;rw[<-y.out] at this;exact this);by_cases F:32*q+b<h
       . obtain⟨rfl,M⟩:=K (32*q+b) F;have I:wr.cell? (jj n (m+(32*q+b)))=some (.bool (B (32*q+b))):=(by rw[H.cell (a:=jj n (m+(32*q+b))) (K.lt om)];exact M);have s:Hid (E (32*q+b)=B (32*q+b)):=(by rw[r.out];simp[Hid,ext,F]);clear M;cases hb:B (32*q+b)
         . rw[hb] at I;have i:Hid (E (32*q+b)=false):=s.out.trans hb;clear hb s;go_wp2;go_light;exact⟨⟨b,om,2*p,om,show (b:Int)=b from rfl,show 2*p=_ by rw[A.out,i.out];rfl⟩,by simp[intOf];omega⟩
         . rw[hb] at I;have i:Hid (E (32*q+b)=true):=s.out.trans hb;clear hb s;go_wp2;go_light;exact⟨⟨b,om,2*p+1,om,show (b:Int)=b from rfl,show 2*p+1=_ by rw[A.out,i.out];rfl⟩,by simp[intOf];omega⟩
       . have i:Hid (E (32*q+b)=false):=(by rw[r.out];simp[Hid,ext,F]);go_wp2;go_light;exact⟨⟨b,om,2*p,om,show (b:Int)=b from rfl,show 2*p=_ by rw[A.out,i.out];rfl⟩,by simp[intOf];omega⟩
     . have V:k=0:=(by have:=C.out;omega);subst V;go_wp2_with (at_builtin;refine gK _ rfl _ _ 74 rfl f.heap.size 135 i0 (.int .u32 0) 1 4 underlying74 U ae af ag rfl qd _ _ _ rfl (x.alloc _) (jj wr.heap.size 0) 1 1 [.int .u32 p] rfl rfl ?c1 ?c2 ?c3 ?c4 ?c5 ?_)
       case c2=>first | rfl | (intro aj Q;simp at Q;subst Q;rfl)
       case c3=>unfold maxLen;omega
       case c4=>omega
       case c5=>have:=H.size;simp;omega
       intro v' w2 P N _;have ad:f.S w2:=(H.alloc H.size _).grown N (by have:=H.size;simp;omega) (fun k O=>(x.lt k O).1);rw[y.out,akX,<-cD] at P;clear N x H;go_wp2;go_roundw
       case rel=>exact⟨q+1,om,by go_num,P,ad⟩
       case measure=>exact yI
  . obtain⟨l,g,o,rfl,ak,ac,T,-,-,R,S⟩:=amw x f.heap.size zR;go_wp2;go_ret;refine⟨l,g,q,o,ul E,rfl,ak,ac,om,R,fun _=>T,S,fun j=>ahK E j, ?_, ?_,H⟩
    . intro h0;have X:0<h:=om;refine ajW E h (q-1) om om ?_;rw[r.out];have:=h8 B c (by rw[<-u.out];exact X);rw[<-u.out] at this;simp[ext,this];omega
    . rw[als,r.out,bX B h (32*q) om,u.out,ur]
theorem abZ{n:Nat}{B:Nat->Bool}(q:c<=4294967296)(r:c<=d)(p:kp w a n m c B):
 Cl 164 #[.slice a c d] w fun e s=>∃f g b i Y,e=.returned (.slice f b i)/\b<=i/\32*b<c+32/\bE s f g 0 b Y/\(0<b->w.heap.size<=g)/\(0<b->∀o,s.frozen? (jj g o)=false)/\
  (∀j,Y j<4294967296)/\(0<b->Y (b-1)≠0)/\lv Y b=bv B c/\w.S s:=
 (aeX q r p).mono fun _ _ ⟨f,g,b,t,Y,k,l,_,h⟩=>⟨f,g,b,t,Y,k,l,h⟩
theorem rj{a A:Option Addr}{n m c d k i j l:Nat}{r B:Nat->Bool}{w:World}(R:c<=281474976710656)(Q:j<=281474976710656)(E:kp w a n m c r)(F:kp w A k i j B)
 (N:0<c->r (c-1)=true)(O:0<j->B (j-1)=true):
 Cl 125 #[.slice a c d,.slice A j l] w fun e U=>e=.returned (.i (li (bv r c) (bv B j)))/\Same w U:=by
 by_cases g:c<j
 . rw[vV (xY g O)];go_enter func125,ntmps125;go_wp2;go_ret;exact⟨rfl,Same.refl _⟩
 by_cases x:j<c
 . rw[bu (xY x N)];go_enter func125,ntmps125;go_wp2;go_ret;exact⟨rfl,Same.refl _⟩
 have e:j=c:=om;subst e;go_enter func125,ntmps125;go_wp2;go_loopw [5] (fun t wr=>∃(D:Nat) (z:Int),D<=j/\t=.i z/\Hid (z=D-1)/\Same w wr/\Hid (∀s,D<=s->s<j->r s=B s)) (fun t _=>(intOf t+1).toNat)
 case atStart=>exact⟨j,(j:Int)-1,aC _,rfl,rfl,Same.refl _,fun s g x=>absurd x om⟩
 case round=>
  obtain⟨D,z,P,rfl,q,C,o⟩:=hrel;by_cases M:0<=z
  . obtain⟨b,rfl⟩:=jW M;have L:D=b+1:=(by have:=q.out;omega);subst L;obtain⟨rfl,G⟩:=E b om;obtain⟨rfl,H⟩:=F b om;have p:wr.cell? (jj n (m+b))=some (.bool (r b)):=(by rw[C.cell];exact G);have u:wr.cell? (jj k (i+b))=some (.bool (B b)):=(by rw[C.cell];exact H);have S:(b:Int)<j:=om;by_cases v:r b=B b
    . have y:Hid (r b=B b):=v;rw[v] at p;go_wp2;go_quiet (fail);go_wp2;go_roundw
      case rel=>
       refine⟨b,(b:Int)-1,om,rfl,rfl,C.drewN _,fun s g x=> ?_⟩;by_cases e:s=b
       . subst e;exact y.out
       . exact o.out s om x
      case measure=>simp[intOf]
    . cases hb:B b
      . have T:r b=true:=(by cases h:r b<;>simp_all);have f:Hid (li (bv r j) (bv B j)=1):=bu (alK (i:=b) om (fun s g x=>(o.out s om x).symm) hb T);rw[T] at p;rw[hb] at u;go_wp2;go_quiet (fail);go_wp2;go_ret;exact⟨gL f.out.symm,C.drewN _⟩
      . have T:r b=false:=(by cases h:r b<;>simp_all);have f:Hid (li (bv r j) (bv B j)=-1):=vV (alK (i:=b) om (fun s g x=>(o.out s om x)) T hb);rw[T] at p;rw[hb] at u;go_wp2;go_quiet (fail);go_wp2;go_ret;exact⟨gL f.out.symm,C.drewN _⟩
  . have K:D=0:=(by have:=q.out;omega);subst K;have f:Hid (li (bv r j) (bv B j)=0):=eR (py (fun s I=>o.out s om I));go_wp2;go_ret;exact⟨gL f.out.symm,C⟩
theorem amV(f:Bool)(R:Nat->Bool)(n:Nat):bl (push f R) (n+1)=[.bool f]++bl R n:=by
 unfold bl;rw[List.range_succ_eq_map];simp[push,Function.comp_def]
theorem amv(w:World)(n:Nat)(u:Value)(t:TypeId)(hb:n<=w.heap.size):(w.alloc (.cells #[u] t)).ownsRow n t 1 (.s w.heap.size 1 1) 1 [u]:=
 ⟨rfl,.inr ⟨w.heap.size,1, #[u],rfl,hb,heap_alloc_new w _,aC _,by decide,rfl,rfl⟩⟩
theorem akw{n:Nat}{R:Nat->Bool}(h:kp w (jp n 0) n 0 m R):∀j u,(bl R m)[j]?=some u->w.cell? (((jj n 0):Addr).add j)=some u:=by
 intro j u a;have b:j<m:=by have:=(bG.1 a).1;rwa[tE] at this
 rw[wc R m j b] at a;rw[mT,(h j b).2];exact a
theorem alN(R:Nat->Bool)(n:Nat):∀u∈bl R n,u.oneCell'=true:=by
 intro u a;obtain⟨_,_,rfl⟩:=dT.1 a;rfl
theorem xT{n:Nat}(h:m<=n):0<=li n m:=by unfold li;split<;>(try split)<;>omega
theorem ct{n:Nat}(h:n<m):li n m<0:=by rw[vV h];decide
theorem aab{n i l:Nat}{T B:Nat->Bool}(hn:c<=2147483648)(hm:j<=2147483648)(hA:kp w a n m c T)(hB:kp w A k i j B)
 (tB:0<j->B (j-1)=true)(hD:0<bv B j):
 Cl 163 #[.slice a c d,.slice A j l] w fun e Z=>∃v f bh Q y W cr R,e=.returned (.tuple #[.s v f bh,.s y W cr])/\
  f<=bh/\f<=c/\W<=cr/\W<=c/\kp Z (jp v 0) v 0 f Q/\kp Z (jp y 0) y 0 W R/\w.heap.size<=v/\w.heap.size<=y/\
  (0<f->Q (f-1)=true)/\(0<W->R (W-1)=true)/\bv Q f=bv T c/bv B j/\bv R W=bv T c % bv B j/\w.S Z:=by
 obtain⟨i0,hi,a0,a1,a2⟩:=kT bj;have a6:=run_make_row' (P:=Tryz.prog) 47 4 (.bool false) 1 underlying47 bj rfl .i64 .i64 c om om;have bc:=aR tB;have HD:=aR hD;go_enter func163,ntmps163;go_wp2
 go_loopw [7,8] (fun a4 q wr=>∃(V:Nat) (z:Int) (Q R:Nat->Bool) (g t Y:Nat),V<=c/\q=.i z/\a4=.s g t Y/\Hid (z=V-1)/\t<=Y/\t<=c-V/\w.heap.size<g/\
  kp wr (jp g 0) g 0 t R/\Hid (0<t->R (t-1)=true)/\Hid (wi T Q c V (bv B j) (bv R t))/\w.S wr/\wr.rowIs w.heap.size 4 c (fun X=>.bool (Q X))) (fun _ q _=>(intOf q+1).toNat)
 case atStart=>
  refine⟨c,(c:Int)-1,fun _=>false,fun _=>false,w.heap.size+1,0,0,aC _,rfl,rfl,rfl,aC _,aJ _,om,fun X M=>absurd M om,fun h=>absurd h om,afm T c _ HD.out,
   (cV _ _).alloc qz _,(iY w _ c 4).alloc _⟩
 case round=>
  obtain⟨V,z,Q,R,g,t,Y,hk,rfl,rfl,bg,az,ba,hg,hR,af,K,G,E⟩:=hrel;by_cases hz:0<=z
  . obtain⟨b,rfl⟩:=jW hz;have ao:V=b+1:=(by have:=bg.out;omega);subst ao;obtain⟨rfl,L⟩:=hA b om;have g0:wr.cell? (jj n (m+b))=some (.bool (T b)):=(by rw[G.cell (a:=jj n (m+b)) (hA.lt om)];exact L);obtain⟨x,S⟩:∃x,x=T b:=⟨_,rfl⟩;rw[<-S] at g0;have u:Hid (T b=x):=S.symm;clear S;have a9:=G.size;have aw:=E.lt;have al:kp (wr.alloc (.o #[.bool x] 4)) (jp g 0) g 0 t R:=hR.bH (cV _ _);go_wp2_with (at_builtin;refine gK _ rfl _ _ 47 rfl (w.heap.size+1) 4 i0 (.bool false) 1 1 underlying47 hi a0 a1 a2 rfl qd _ _ _ rfl (amv _ _ _ _ om) (jj g 0) t Y (bl R t) rfl (by rw[tE];omega) (akw al) (alN R t) (by unfold maxLen;omega) om (by simp;omega) ?_);intro v' w1 aa am au;have ad:=(cV _ _).grown am qz (fun V hk=>by simp[Value.ownBlock] at hk;omega);have e1:Value.bool x::bl R t=bl (push x R) (t+1):=(amV x R t).symm;rw[e1,jO 1 t] at aa;obtain⟨g1,ai,rfl,ar,a5,U⟩:=ot aa au;have ab:=G.tr ad;have av:=E.of_block (ad.block _ aw);have bf:=aR (amT x R t);obtain⟨P,ak⟩:∃P,P=push x R:=⟨_,rfl⟩;rw[<-ak] at U bf;go_wp2_with fail;refine (nu om ar U).mono ?_;rintro e w2 ⟨rfl,rfl⟩;have p:=gh P (t+1);have bd:=aR (h8 P (t+1));have s:Hid (bv P (gi P (t+1))=x.toNat+2*bv R t):=(ur P (t+1)).trans bf.out;have U:=U.take p;generalize gi P (t+1)=r at*;have C:=hB.bH ab;go_wp2_with fail;refine (rj om om U C bd.out bc.out).mono ?_;rintro e w3 ⟨rfl,H⟩;have U:=U.same H;have C:=C.same H;have O:=ab.trans (H.since _);have F:=av.of_block (by rw[H.heap]);by_cases o:bv B j<=bv P r
    . have L:=xT o;have bb:=aR o;have aq:=c7 bc.out o;generalize li (bv P r) (bv B j)=z at*;go_wp2_with fail;refine (ou om aq U C bb.out).mono ?_;rintro e w4 ⟨g4,t4,c4,D,rfl,k1,k2,aj,k3,k4,k5,ac⟩;have ae:=aR k4;have I:Hid (wi T (pf Q b true) c b (bv B j) (bv D t4)):=by
       have:=aim K.out om (by have:=bb.out;rw[s.out] at this;rw[u.out];exact this);rw[u.out,<-s.out,<-k5] at this;exact this
      have ay:=O.size;have ax:=O.trans (sM ac ay);have N:=F.of_block (ac.block _ F.lt);have q1:=N.cell (i:=b) om;have q2:=N.frozen b;have a8:=F.lt;have a7:(b:Int)<c:=om;go_wp2;go_roundw
      case rel=>
       go_light;refine⟨b,(b:Int)-1,pf Q b true,D,g4,t4,c4,om,by go_num,rfl,rfl,k1,om,om, ?_,ae,I,ax.setCell zR _,(N.set b _).congr (fun X _=> ?_)⟩
       . intro X M;refine⟨rfl, ?_⟩;rw[aI _ _ _ _ (fun h=>by have:=congrArg Addr.block h;simp at this;omega)];exact (aj X M).2
       . by_cases e:X=b<;>simp[pf,e]
      case measure=>simp[intOf]
    . have L:=ct (tM o);have I:Hid (wi T Q c b (bv B j) (bv P r)):=by
       have:=adT K.out om (by rw[s.out] at o;rw[u.out];omega);rw[u.out,<-s.out] at this;exact this
      generalize li (bv P r) (bv B j)=z at*;go_wp2;go_roundw
      case rel=>exact⟨b,(b:Int)-1,Q,P,g1,r,ai,om,by go_num,rfl,rfl,om,om,om,U,bd,I,O,F⟩
      case measure=>simp[intOf]
  . have an:V=0:=(by have:=bg.out;omega);subst an;go_wp2_with fail;refine (nu om zR (cp E)).mono ?_;rintro e w1 ⟨rfl,rfl⟩;go_wp2;go_ret2;have p:=gh Q c;obtain⟨v1,v2⟩:=ain K.out;exact⟨w.heap.size,_,_,Q,g,t,Y,R,rfl,p,p,az,om,(cp E).take p,hR,aC _,om,fun h=>h8 _ _ h,af.out,(ur _ _).trans v1,v2,G⟩
def Tr(w:World)(v:Value)(n:Nat)(A:Nat->Bool):Prop:=
 ∃a b off cap,v=.slice a n cap/\n<=cap/\kp w a b off n A/\(0<n->A (n-1)=true)
theorem Tr.bH{w w':World}{n:Nat}{A:Nat->Bool}(h:Tr w u n A)(s:w.S w'):Tr w' u n A:=by
 obtain⟨a,b,i,c,d,e,f,g⟩:=h;exact⟨a,b,i,c,d,e,f.bH s,g⟩
theorem yW{n:Nat}{A:Nat->Bool}(h:kp w (jp n m) n m c A)(b:0<c):kp w (jp n (m+1)) n (m+1) (c-1) (sh A 1):=
 fun j a=>⟨rfl,by have:=(h (j+1) om).2;rw[show m+1+j=m+(j+1) by omega];exact this⟩
theorem aeA{n:Nat}{S:Nat->Bool}(h:w.rowIs m 4 d (fun j=>.bool (S j)))(k:c<=d)(f:d<=maxLen)(hb:n<=m):w.ownsRow n 4 1 (.s m c d) c (bl S c):=by
 obtain⟨a,g,l,e⟩:=h;refine⟨by rw[tE];omega,.inr ⟨m,d,a,rfl,hb,g,k,f,om, ?_⟩⟩;apply jF;intro i;rw[iF];by_cases b:i<c
 . rw[wc S c i b,List.getElem?_take,aY b];have:=e i om;simpa using this
 . rw[dJ (by rw[jR];omega),dJ (by rw[tE];omega)]
theorem aiw{n:Nat}{R:Nat->Bool}(h:kp w (jp n m) n m c R):∀j u,(bl R c)[j]?=some u->w.cell? (((jj n m):Addr).add j)=some u:=by
 intro j u a;have b:j<c:=by have:=(bG.1 a).1;rwa[tE] at this
 rw[wc R c j b] at a;rw[mT,(h j b).2];exact a
theorem alM(n:Nat)(B:Nat->Bool)(m:Nat):bl (xk n B) (n+m)=bl (fun _=>false) n++bl B m:=by
 apply jF;intro i;by_cases a:i<n
 . rw[wc _ _ _ om,bJ (by rw[tE];exact a),wc _ _ _ a];simp[xk,a]
 . rw[bK (by rw[tE];omega),tE];by_cases b:i<n+m
   . rw[wc _ _ _ b,wc _ _ _ om];simp[xk,a]
   . rw[dJ (by rw[tE];omega),dJ (by rw[tE];omega)]
theorem sl{A:Nat->Bool}{n:Nat}(a:2<=n)(h:A (n-1)=true):0<n-1->sh A 1 (n-1-1)=true:=fun _=>by unfold sh;rw[show n-1-1+1=n-1 by omega];exact h
theorem yU{A:Nat->Bool}{n:Nat}(c:0<n)(b:A 0=false)(a:A (n-1)=true):2<=n:=by
 by_cases e:n=1
 . subst e;simp at a;rw[b] at a;cases a
 . omega
theorem bW{A:Nat->Bool}{n:Nat}(a:0<n)(b:A (n-1)=true):0<bv A n:=by
 have:=anx A n a b;have:=fX (n:=n-1) (show 0<2 by omega);omega
theorem aaa{v0 v1:Value}{n0 m0:Nat}{A0 B0:Nat->Bool}{w:World}(hn:n0<=1073741824)(hm:m0<=1073741824)(hA:Tr w v0 n0 A0)(hB:Tr w v1 m0 B0):
 Cl 126 #[v0,v1] w fun e w'=>∃v t O,e=.returned v/\t<=n0+m0+m0/\Tr w' v t O/\bv O t=Nat.gcd (bv A0 n0) (bv B0 m0)/\w.S w':=by
 obtain⟨a,ba,oa,ca,rfl,hca,hA1,tA⟩:=hA;obtain⟨b,bb,ob,cb,rfl,hcb,hB1,tB⟩:=hB;by_cases z0:n0=0
 . subst z0;go_enter func126,ntmps126;go_wp2;go_ret;exact⟨_,m0,B0,rfl,om,⟨b,bb,ob,cb,rfl,hcb,hB1,tB⟩,by simp[bv],aF _ _⟩
 by_cases z1:m0=0
 . subst z1;have q0:((n0:Int)==0)=false:=(by simp;omega);go_enter func126,ntmps126;go_wp2;go_ret;exact⟨_,n0,A0,rfl,om,⟨a,ba,oa,ca,rfl,hca,hA1,tA⟩,by simp[bv],aF _ _⟩
 obtain⟨G,hG⟩:∃G,G=Nat.gcd (bv A0 n0) (bv B0 m0):=⟨_,rfl⟩;have HG:=aR hG;have q0:((n0:Int)==0)=false:=by simp;omega
 have q1:((m0:Int)==0)=false:=by simp;omega
 have HtA:=aR tA;have HtB:=aR tB;go_enter func126,ntmps126;go_wp2
 go_loopg [0,1,5] n0 (fun n x y z wr=>∃(m tw:Nat) (A B:Nat->Bool) (p q:Option Addr) (bp op bq oq cp cq:Nat),w=wr/\x=.l p n cp/\y=.l q m cq/\z=.i tw/\0<n/\0<m/\n<=cp/\m<=cq/\n<=n0/\m+tw<=m0/\
  kp w p bp op n A/\kp w q bq oq m B/\Hid (A (n-1)=true)/\Hid (B (m-1)=true)/\Hid (2^tw*Nat.gcd (bv A n) (bv B m)=G))
 case atStart=>exact⟨m0,0,A0,B0,a,b,ba,oa,bb,ob,ca,cb,rfl,rfl,rfl,rfl,om,om,hca,hcb,aC _,om,hA1,hB1,HtA.out om,HtB.out om,by rw[HG.out];simp[Hid]⟩
 case round=>
  obtain⟨m,tw,A,B,p,q,bp,op,bq,oq,cp,cq,rfl,rfl,rfl,rfl,n1,m1,hcp,hcq,hn0,hm0,hA,hB,TA,TB,HGr⟩:=hrel;obtain⟨n,hgn⟩:∃n,n=gk:=⟨_,rfl⟩;subst hgn;obtain⟨rfl,ka⟩:=hA 0 n1;obtain⟨rfl,kb⟩:=hB 0 m1;rw[fV] at ka kb;by_cases hev:A 0=false/\B 0=false
  . obtain⟨ea,eb⟩:=hev;have la:=yU n1 ea TA.out;have lb:=yU m1 eb TB.out;have E1:=aR (cM n1 ea);have E2:=aR (cM m1 eb);rw[ea] at ka;rw[eb] at kb;go_wp2;go_roundg (n-1)
    case measure=>omega
    case rel=>go_light;refine⟨m-1,tw+1,sh A 1,sh B 1,_,_,bp,op+1,bq,oq+1,cp-1,cq-1,rfl,rfl,rfl,by go_num,om,om,om,om,om,om,yW hA n1,yW hB m1,sl la TA.out om,sl lb TB.out om, ?_⟩;have h:=HGr.out;rw[E1.out,E2.out,akn,<-cS,<-iH] at h;exact h
  . have HO:Hid (bv A n % 2=1∨bv B m % 2=1):=by
     cases ea:A 0
     . cases eb:B 0
       . exact absurd ⟨ea,eb⟩ hev
       . exact Or.inr (c0 m1 eb)
     . exact Or.inl (c0 n1 ea)
    have key:(A 0=true)∨(A 0=false/\B 0=true):=by
     cases ea:A 0
     . cases eb:B 0
       . exact absurd ⟨ea,eb⟩ hev
       . exact Or.inr ⟨rfl,rfl⟩
     . exact Or.inl rfl
    have S0:=aF w.heap.size w;have T0:Tr w (.l (jp bp op) n cp) n A:=⟨_,bp,op,cp,rfl,hcp,hA,fun _=>TA.out⟩;have U0:Tr w (.l (jp bq oq) m cq) m B:=⟨_,bq,oq,cq,rfl,hcq,hB,fun _=>TB.out⟩;rcases key with ea | ⟨ea,eb⟩
    focus
     rw[ea] at ka
    rotate_left
    focus
     rw[ea] at ka;rw[eb] at kb
    all_goals
     go_wp2;obtain⟨g2,hg2⟩:∃g,g=Nat.gcd (bv A n) (bv B m):=⟨_,rfl⟩;have HG2:=aR hg2;have HGG:=HGr.out;rw[<-hg2] at HGG;have HGG:=aR HGG;go_loopg [0,1] (bv A n+bv B m) (fun g x y wr=>∃(n m:Nat) (A B:Nat->Bool),Hid (g=bv A n+bv B m)/\Tr wr x n A/\Tr wr y m B/\n<=n0+m0/\0<m/\m<=n0+m0/\Hid (bv A n % 2=1∨bv B m % 2=1)/\Hid (g2=Nat.gcd (bv A n) (bv B m))/\w.S wr)
     case atStart=>exact⟨n,m,A,B,rfl,T0,U0,om,m1,om,HO,HG2,S0⟩
     case round=>
      obtain⟨n',m',A',B',Hg,TA,TB,hn1,m1,hm1,HO,HG2,hs⟩:=hrel;obtain⟨p',bp',op',cp',rfl,hcp,hA,tA⟩:=TA;obtain⟨q',bq',oq',cq',rfl,hcq,hB,tB⟩:=TB;obtain⟨rfl,kb⟩:=hB 0 m1;rw[fV] at kb;have HtA:=aR tA;have HtB:=aR tB;by_cases hn0:0<n'
      . obtain⟨rfl,ka⟩:=hA 0 hn0;rw[fV] at ka;cases ea:A' 0
        . --a is even
          have la:=yU hn0 ea (HtA.out hn0);have E1:=aR (cM hn0 ea);have hp:=bW (A:=sh A' 1) (n:=n'-1) om (sl la (HtA.out hn0) om);have hob:bv B' m' % 2=1:=(by have:=HO.out;have:=E1.out;omega);have HN:Hid (g2=Nat.gcd (bv (sh A' 1) (n'-1)) (bv B' m')):=(by have h:=HG2.out;rw[E1.out,aaf hob] at h;exact h);have HO':Hid (bv (sh A' 1) (n'-1) % 2=1∨bv B' m' % 2=1):=Or.inr hob;have Hlt:Hid (bv (sh A' 1) (n'-1)+bv B' m'<gk):=(by have:=Hg.out;have:=E1.out;show _<_;omega);rw[ea] at ka;go_wp2;go_roundg (bv (sh A' 1) (n'-1)+bv B' m')
          case measure=>exact Hlt.out
          case rel=>exact⟨n'-1,m',sh A' 1,B',rfl,⟨_,bp',op'+1,cp'-1,rfl,om,yW hA hn0,sl la (HtA.out hn0)⟩,⟨_,bq',oq',cq',rfl,hcq,hB,HtB.out⟩,om,m1,hm1,HO',HN,hs⟩
        . have hoa:=c0 hn0 ea;have hpa:=bW hn0 (HtA.out hn0);rw[ea] at ka;cases eb:B' 0
          . --b is even
            have lb:=yU m1 eb (HtB.out m1);have E1:=aR (cM m1 eb);have hp:=bW (A:=sh B' 1) (n:=m'-1) om (sl lb (HtB.out m1) om);have HN:Hid (g2=Nat.gcd (bv A' n') (bv (sh B' 1) (m'-1))):=(by have h:=HG2.out;rw[E1.out,ado hoa] at h;exact h);have HO':Hid (bv A' n' % 2=1∨bv (sh B' 1) (m'-1) % 2=1):=Or.inl hoa;have Hlt:Hid (bv A' n'+bv (sh B' 1) (m'-1)<gk):=(by have:=Hg.out;have:=E1.out;show _<_;omega);rw[eb] at kb;go_wp2;go_roundg (bv A' n'+bv (sh B' 1) (m'-1))
            case measure=>exact Hlt.out
            case rel=>exact⟨n',m'-1,A',sh B' 1,rfl,⟨_,bp',op',cp',rfl,hcp,hA,HtA.out⟩,⟨_,bq',oq'+1,cq'-1,rfl,om,yW hB m1,sl lb (HtB.out m1)⟩,hn1,om,om,HO',HN,hs⟩
          . have hob:=c0 m1 eb;have hpb:=bW m1 (HtB.out m1);rw[eb] at kb;have HP:=aR (And.intro hoa (And.intro hob (And.intro hpa hpb)));go_wp2_with fail;refine (rj om om hA hB HtA.out HtB.out).mono ?_;rintro e w2 ⟨rfl,s2⟩;have hA:=hA.same s2;have hB:=hB.same s2;have hs:=hs.trans (s2.since _);by_cases hge:bv B' m'<=bv A' n'
            . have hc:=xT hge;have hlen:=c7 HtB.out hge;have HN:Hid (g2=Nat.gcd (bv A' n'-bv B' m') (bv B' m')):=(by have h:=HG2.out;rw[<-aaW hge] at h;exact h);have Hge:=aR hge;generalize li (bv A' n') (bv B' m')=z at*;go_wp2_with fail;refine (ou om hlen hA hB Hge.out).mono ?_;rintro e w3 ⟨g3,t3,c3,D,rfl,k1,k2,hD,k3,k4,k5,s3⟩;have HD:=aR k4;have HV:=aR k5;have hB:=hB.bH s3;have hs3:=hs.tr s3;go_wp2;go_roundg (bv D t3+bv B' m')
              case measure=>have:=Hg.out;have:=HV.out;have:=HP.out;have:=Hge.out;omega
              case rel=>exact⟨t3,m',D,B',rfl,⟨_,g3,0,c3,rfl,k1,hD,HD.out⟩,⟨_,bq',oq',cq',rfl,hcq,hB,HtB.out⟩,om,m1,hm1,Or.inr HP.out.2.1,by rw[HV.out];exact HN,hs3⟩
            . have hlt:bv A' n'<bv B' m':=om;have hc:=ct hlt;have hlen:=c7 HtA.out (cZ hlt);have HN:Hid (g2=Nat.gcd (bv A' n') (bv B' m'-bv A' n')):=(by have h:=HG2.out;rw[<-adS (cZ hlt)] at h;exact h);have Hlt:=aR hlt;generalize li (bv A' n') (bv B' m')=z at*;go_wp2_with fail;refine (ou om hlen hB hA (cZ Hlt.out)).mono ?_;rintro e w3 ⟨g3,t3,c3,D,rfl,k1,k2,hD,k3,k4,k5,s3⟩;have HD:=aR k4;have HV:=aR k5;have hA:=hA.bH s3;have hs3:=hs.tr s3;have ht3:0<t3:=by
               by_cases e:0<t3
               . exact e
               . have e0:t3=0:=om;rw[e0] at k5;have:=Hlt.out;simp[bv] at k5;omega
              have hne:((t3:Int)==0)=false:=(by simp;omega);go_wp2;go_roundg (bv A' n'+bv D t3)
              case measure=>have:=Hg.out;have:=HV.out;have:=HP.out;have:=Hlt.out;omega
              case rel=>exact⟨n',t3,A',D,rfl,⟨_,bp',op',cp',rfl,hcp,hA,HtA.out⟩,⟨_,g3,0,c3,rfl,k1,hD,HD.out⟩,hn1,ht3,om,Or.inl HP.out.1,by rw[HV.out];exact HN,hs3⟩
      . have e0:n'=0:=om;subst e0;obtain⟨i0,hi,hz0,hz1,hz2⟩:=kT bj;have hmk:=run_make_row' (P:=Tryz.prog) 47 4 (.bool false) 1 underlying47 bj rfl .i64 .i64 tw om om;have hrow:=iY wr (.bool false) tw 4;have hsz:=hs.size;have hB2:=hB.bH (w':=wr.alloc (.o (madeCells #[.bool false] tw) 4)) (cV _ _);go_wp2_with (at_builtin;refine gK _ rfl _ _ 47 rfl w.heap.size 4 i0 (.bool false) 1 1 underlying47 hi hz0 hz1 hz2 rfl qd _ _ _ rfl (aeA (S:=fun _=>false) hrow zR (by unfold maxLen;omega) hsz) (jj bq' oq') m' cq' (bl B' m') rfl (by rw[tE];omega) (aiw hB2) (alN B' m') (by unfold maxLen;omega) om (by simp;omega) ?_);intro v' w3 hown hgrow hnn;rw[<-alM] at hown;have hs3:=(hs.alloc hsz _).grown hgrow (by simp;omega) (fun k hk=>by simp[Value.ownBlock] at hk;omega);obtain⟨g3,c3,rfl,k1,k2,k3⟩:=ot hown hnn;go_wp2;go_ret;refine⟨_,tw+m',xk tw B',rfl,om,⟨_,g3,0,c3,rfl,k1,k3,fun _=> ?_⟩, ?_,hs3⟩
        . unfold xk;rw[aM om,show tw+m'-1-tw=m'-1 by omega];exact HtB.out m1
        . rw[alJ,<-HG.out,<-HGG.out,HG2.out];simp[bv]
theorem ae2{w wr:World}{i O A:Nat->Bool}{n:Nat}{a:Bool}(s j:Bool)(l:w.S wr)(h:wr.rowIs w.heap.size 4 m (fun k=>.bool (O k)))(p:yk i O A n c d a)
 (r:O (c+d)=f)(o:ext A n d=F)(g:s=((f != F) != a))(q:j=((f&&F) ||(f&&a) ||(F&&a))):
 ∃b,w.S (wr.setCell ⟨w.heap.size,c+d,none⟩ (.bool s))/\(wr.setCell ⟨w.heap.size,c+d,none⟩ (.bool s)).rowIs w.heap.size 4 m (fun k=>.bool (b k))/\yk i b A n c (d+1) j:=by
 subst g q;refine⟨_,l.setCell zR _,(h.set (c+d) _).congr (fun k _=> ?_),agT p r o⟩;by_cases e:k=c+d
 . simp[e]
 . simp[e]
theorem kz{a A:Option Addr}{n m c d k i j l:Nat}{p B:Nat->Bool}{w:World}(hn:c<=2147483648)(hm:j<=2147483648)(U:kp w a n m c p)(V:kp w A k i j B):
 Cl 137 #[.slice a c d,.slice A j l] w fun e R=>∃g t S O,e=.returned (.s g t S)/\t<=S/\t<=c+j/\kp R (jp g 0) g 0 t O/\w.heap.size<=g/\
  (0<t->O (t-1)=true)/\bv O t=bv p c*bv B j/\w.S R:=by
 have Z:=run_make_row' (P:=Tryz.prog) 47 4 (.bool false) 1 underlying47 bj rfl .i64 .i64 (c+j) om om;rw[rM] at Z;go_enter func137,ntmps137;go_wp2;go_loopw [6] (fun q wr=>∃b:Nat,b<=j/\q=.i b/\w.S wr/\∃O,wr.rowIs w.heap.size 4 (c+j) (fun P=>.bool (O P))/\bv O (c+j)=bv p c*bv B b) (fun q _=>j-(intOf q).toNat)
 case atStart=>exact⟨0,aJ _,rfl,cV _ _,fun _=>false,iY w _ _ _,by rw[cI (fun _=>false) 0 (c+j) om (fun _ _ _=>rfl)];simp[bv]⟩
 case round=>
  obtain⟨b,hj,rfl,E,f,s,h0⟩:=hrel;have u:Hid (bv f (c+j)=bv p c*bv B b):=h0;by_cases W:b<j
  . obtain⟨rfl,r⟩:=V b W;have T:wr.cell? (jj k (i+b))=some (.bool (B b)):=(by rw[E.cell (a:=jj k (i+b)) (V.lt om)];exact r);cases hbj:B b
    . rw[hbj] at T;have v:Hid (B b=false):=hbj;go_wp2;go_roundw
      case rel=>exact⟨b+1,om,by go_num,E,f,s,alj u.out v.out⟩
      case measure=>exact yI
    . rw[hbj] at T;have v:Hid (B b=true):=hbj;go_wp2;go_loopw [7,8] (fun ac t X=>∃(h:Nat) (N:Bool) (O:Nat->Bool),b+h<=c+j/\t=.i h/\ac=.bool N/\w.S X/\X.rowIs w.heap.size 4 (c+j) (fun P=>.bool (O P))/\yk f O p c b h N) (fun _ t _=>c+j-(intOf t).toNat)
      case atStart=>exact⟨0,false,f,om,rfl,rfl,E,s,afw f p c b⟩
      case round=>
       obtain⟨h,N,O,hi,rfl,rfl,E,o,hR⟩:=hrel;have z:Hid (yk f O p c b h N):=hR;by_cases Y:b+h<c+j
       . have g1:=o.cell Y;have g2:=o.frozen (b+h);obtain⟨x,H⟩:∃x,x=O (b+h):=⟨_,rfl⟩;rw[<-H] at g1;have Q:Hid (O (b+h)=x):=H.symm;clear H;by_cases F:h<c
         . obtain⟨rfl,r⟩:=U h F;have g3:wr.cell? (jj n (m+h))=some (.bool (p h)):=(by rw[E.cell (a:=jj n (m+h)) (U.lt om)];exact r);obtain⟨y,I⟩:∃y,y=p h:=⟨_,rfl⟩;rw[<-I] at g3;have C:Hid (ext p c h=y):=(by simp[Hid,ext,F,I]);clear I r;cases x<;>cases y<;>cases N
           all_goals
            go_wp2;go_roundw
            case rel=>go_light;obtain⟨D,K,L,M⟩:=ae2 _ _ E o z.out Q.out C.out rfl rfl;exact⟨h+1,_,D,om,by go_num,rfl,K,L,M⟩
            case measure=>go_light;simp[intOf];omega
         . have C:Hid (ext p c h=false):=(by simp[Hid,ext,F]);cases x<;>cases N
           all_goals
            go_wp2;go_roundw
            case rel=>go_light;obtain⟨D,K,L,M⟩:=ae2 _ _ E o z.out Q.out C.out rfl rfl;exact⟨h+1,_,D,om,by go_num,rfl,K,L,M⟩
            case measure=>go_light;simp[intOf];omega
       . have e:b+h=c+j:=om;go_wp2;go_roundw
         case rel=>exact⟨b+1,om,by go_num,E,O,o,aiz z.out e W u.out v.out⟩
         case measure=>exact yI
  . have e:b=j:=om;subst e;go_wp2_with fail;refine (nu om zR (cp s)).mono ?_;rintro e w1 ⟨rfl,rfl⟩;go_wp2;go_ret;have G:=gh f (c+b);exact⟨w.heap.size,_,_,f,rfl,G,G,(cp s).take G,aC _,fun ad=>h8 _ _ ad,(ur _ _).trans u.out,E⟩
theorem aiu(n m c d:Nat):((n:Int)*m+c+d)/4294967296=(((n*m+c+d)/4294967296:Nat):Int):=by
 have h:(((n*m+c+d:Nat):Int))=(n:Int)*m+c+d:=by simp
 rw[<-h];omega
theorem pn{n:Nat}{i l o:Nat}(hn:k<=67108864)(hm:o<=67108864)(R:bE w a c d k X)(S:bE w A j l o Y)
 (ae:∀v,v<k->X v<4294967296)(af:∀v,v<o->Y v<4294967296)(T:w.cell? (jj n m)=some (.l a k i))(ag:w.frozen? (jj n m)=false):
 Cl 142 #[.p n m,.slice A o b] w fun e w'=>e=.returned (.tuple #[])/\∃H P,w.S H/\H.rowIs w.heap.size 135 (k+o) (fun v=>.int .u32 (P v:Nat))/\
  (∀G,P G<4294967296)/\lv P (k+o)=lv X k*lv Y o/\w'=H.setCell ⟨n,m,none⟩ (.s w.heap.size (gi (nz P) (k+o)) (k+o)):=by
 have ah:=run_make_row' (P:=Tryz.prog) 138 135 (.int .u32 0) 4 underlying138 fI rfl .i64 .i64 (k+o) om om;rw[rM] at ah;have U:=aG _ _ T;go_enter func142,ntmps142;go_wp2
 go_loopw [23] (fun q wr=>∃(h:Nat) (P:Nat->Nat),h<=k/\q=.i h/\w.S wr/\wr.rowIs w.heap.size 135 (k+o) (fun G=>.int .u32 (P G))/\wr.rowIs (w.heap.size+1) 138 1 (fun _=>.s w.heap.size (k+o) (k+o))/\
  (∀G,P G<4294967296)/\lv P (h+o)=lv X h*lv Y o) (fun q _=>k-(intOf q).toNat)
 case atStart=>
  refine⟨0,fun _=>0,aJ _,rfl,(cV _ _).alloc qz _,((iY w _ _ _).alloc _), ?_,fun _=>Nat.zero_lt_succ _, ?_⟩
  . have:=mJ (w.alloc (Obj.cells (madeCells #[Value.int IntKind.u32 0] (k+o)) 135)) #[Value.s w.heap.size (k+o) (k+o)] 138 (fun _=>.s w.heap.size (k+o) (k+o)) (fun h W=>by simp at W;subst W;rfl);simpa using this
  . rw[yN (fun _=>0) 0 (0+o) om (fun _ _ _=>rfl)];simp[lv]
 case round=>
  obtain⟨h,r,ai,rfl,M,C,O,ad,h0⟩:=hrel;have K:Hid (lv r (h+o)=lv X h*lv Y o):=h0;have L:Hid (∀G,r G<4294967296):=ad;by_cases am:h<k
  . obtain⟨rfl,Z⟩:=R h am;have z:wr.cell? (jj c (d+h))=some (.int .u32 (X h)):=(by rw[M.cell (a:=jj c (d+h)) (R.lt om)];exact Z);have E:=ae h am;obtain⟨x,D⟩:∃x,x=X h:=⟨_,rfl⟩;rw[<-D] at z E;have HX:Hid (x=X h):=D;clear D;go_wp2
    go_loopw [7,30] (fun n t I=>∃(v g:Nat) (P:Nat->Nat),v<=o/\t=.i v/\n=.int .u64 g/\w.S I/\I.rowIs w.heap.size 135 (k+o) (fun G=>.int .u32 (P G))/\
     I.rowIs (w.heap.size+1) 138 1 (fun _=>.s w.heap.size (k+o) (k+o))/\a1 r P x Y h v g) (fun _ t _=>o-(intOf t).toNat)
    case atStart=>exact⟨0,0,r,om,rfl,rfl,M,C,O,aeJ L.out x Y h⟩
    case round=>
     obtain⟨v,g,P,hj,rfl,rfl,M,s,O,hR⟩:=hrel;have f:Hid (a1 r P x Y h v g):=hR;have N:=O.cell (i:=0) om;by_cases aa:v<o
     . obtain⟨rfl,Z⟩:=S v aa;have z:wr.cell? (jj j (l+v))=some (.int .u32 (Y v)):=(by rw[M.cell (a:=jj j (l+v)) (S.lt om)];exact Z);have F:=af v aa;have Q:=s.cell (i:=h+v) om;have g2:=s.frozen (h+v);have ab:=acT f.out E F;have u:=aR (agj f.out E F rfl);obtain⟨y,hy⟩:∃y,y=Y v:=⟨_,rfl⟩;obtain⟨p,B⟩:∃p,p=P (h+v):=⟨_,rfl⟩;have V:=f.out.2.2.1;have al:p<4294967296:=(by rw[B];exact f.out.2.1 _);rw[<-hy] at z F ab u;rw[<-B] at Q ab u;clear hy B;have aj:(0:Int)<=x*(y:Int):=(by rw[<-dR];omega);have ak:(x:Int)*(y:Int)+(p:Int)+(g:Int)<=18446744073709551615:=(by rw[<-dR];omega);go_wp2;go_roundw
       case rel=>
        go_light;refine⟨v+1,(x*y+p+g)/4294967296,_,om,by go_num,congrArg (Value.int .u64) (aiu x y p g),M.setCell zR _,(s.set (h+v) _).congr (fun G _=> ?_),O.setOther qz _,u.out⟩;by_cases e:G=h+v
        . simp[e]
        . simp[e]
       case measure=>exact yI
     . have e:v=o:=om;subst e;have Q:=s.cell (i:=h+v) om;have g2:=s.frozen (h+v);have V:=f.out.2.2.1;go_wp2;go_roundw
       case rel=>
        go_light;rw[HX.out] at f;refine⟨h+1,_,om,by go_num,M.setCell zR _,(s.set (h+v) _).congr (fun G _=> ?_),O.setOther qz _,fun G=> ?_,ahB f.out K.out⟩
        . by_cases e:G=h+v
          . simp[e]
          . simp[e]
        . show (if G=h+v then g else P G)<_;split
          . exact V
          . exact f.out.2.1 G
       case measure=>exact yI
  . have e:h=k:=om;subst e;have N:=O.cell (i:=0) om;have b1:=O.frozen 0;go_wp2_with fail;refine (af3 om zR N b1 (ip C)).mono ?_;rintro e w1 ⟨rfl,rfl⟩;have q0:wr.frozen? (jj n m)=false:=(by rw[M.frozen (a:=jj n m) U];exact ag);have q1:wr.cell? (jj n m)=some (.l a h i):=(by rw[M.cell (a:=jj n m) U];exact T);have q2:n≠w.heap.size+1:=om;go_wp2;go_end0;exact⟨rfl,_,r,M.setCell (oI _) _,C.setOther qz _,L.out,K.out,rfl⟩
def az(O A B:Nat->Bool)(n m i:Nat)(c:Bool):Prop:=bv O i+c.toNat*2^i=bv (ext A n) i+bv (ext B m) i
theorem xz{O A B:Nat->Bool}{n:Nat}{y:Bool}(h:az O A B n m c f)(b:ext A n c=F)(g:ext B m c=y):
 az (pf O c ((F != y) != f)) A B n m (c+1) ((F&&y) ||(F&&f) ||(y&&f)):=by
 unfold az at*;have a:=agF F y f;simp only[bv,e7 O c _ c zR,fy,b,g];generalize ((F != y) != f).toNat=s at a⊢;generalize ((F&&y) ||(F&&f) ||(y&&f)).toNat=d at a⊢;have e:s*2^c+d*2^(c+1)=F.toNat*2^c+y.toNat*2^c+f.toNat*2^c:=by rw[<-bI,<-bI,<-a,bI,iH,cJ (2^c) 2,<-cS,cJ d 2]
 omega
theorem aho{O A B:Nat->Bool}{n:Nat}(h:az O A B n m c f)(b:n<=c)(a:m<=c):bv O c+f.toNat*2^c=bv A n+bv B m:=by
 unfold az at h;rw[bX A n c b,bX B m c a] at h;exact h
theorem alb(f F:Bool):(!(f==F))=((false != f) != F):=by cases f<;>cases F<;>rfl
theorem adP{a A:Option Addr}{n m c d k i j l:Nat}{X B:Nat->Bool}{w:World}(hn:c<=2147483648)(hm:j<=2147483648)(N:kp w a n m c X)(O:kp w A k i j B):
 Cl 138 #[.slice a c d,.slice A j l] w fun e w'=>∃g t ab D,e=.returned (.s g t ab)/\t<=ab/\t<=max c j+1/\kp w' (jp g 0) g 0 t D/\w.heap.size<=g/\
  (0<t->D (t-1)=true)/\bv D t=bv X c+bv B j/\w.S w':=by
 obtain⟨T,P,Q,R,S⟩:=kT bj;obtain⟨H,ag,ah,ak,ai,al⟩:∃H,c<=H/\j<=H/\H<=2147483648/\H<=max c j/\(H=c∨H=j):=by
  rcases Nat.le_total c j with h | h
  . exact⟨j,h,aC _,hm,Nat.le_max_right _ _,Or.inr rfl⟩
  . exact⟨c,aC _,h,hn,Nat.le_max_left _ _,Or.inl rfl⟩
 have HK:=aR ai;go_enter func138,ntmps138;go_wp2;go_loopw [5,6,7] (fun ac ad t wr=>∃(b:Nat) (f:Bool) (D:Nat->Bool),b<=H/\t=.i b/\ad=.bool f/\Hid (ac≠ .n)/\wr.ownsRow w.heap.size 4 1 ac b (bl D b)/\w.S wr/\Hid (az D X B c j b f)) (fun _ _ t _=>H-(intOf t).toNat)
 case atStart=>exact⟨0,false,fun _=>false,aJ _,rfl,rfl,aR qz,iP w #[] 0 zR qd rfl,cV _ _,aR (by simp[az,bv])⟩
 case round=>
  obtain⟨b,f,D,aj,rfl,rfl,HN,Z,p,M⟩:=hrel;by_cases K:b<c
  . by_cases z:b<j
    . obtain⟨rfl,Y⟩:=N b K;have W:wr.cell? (jj n (m+b))=some (.bool (X b)):=(by rw[p.cell (a:=jj n (m+b)) (N.lt om)];exact Y);obtain⟨x,u⟩:∃x,x=X b:=⟨_,rfl⟩;rw[<-u] at W;have F:Hid (ext X c b=x):=(by simp[Hid,ext,K,u]);clear u;obtain⟨rfl,Y⟩:=O b z;have am:wr.cell? (jj k (i+b))=some (.bool (B b)):=(by rw[p.cell (a:=jj k (i+b)) (O.lt om)];exact Y);obtain⟨y,v⟩:∃y,y=B b:=⟨_,rfl⟩;rw[<-v] at am;have G:Hid (ext B j b=y):=(by simp[Hid,ext,z,v]);clear Y v;have E:=aR (xz M.out F.out G.out);go_wp2_with (at_builtin;refine gK _ rfl _ _ 47 rfl w.heap.size 4 T (.bool false) 1 1 underlying47 P Q R S rfl qd _ _ _ rfl (Z.alloc _) (jj wr.heap.size 0) 1 1 [.bool _] rfl rfl (kh _ _ _) (one_one _ rfl) (by unfold maxLen;omega) om (by have:=p.size;simp;omega) ?_);intro v' U L o r;have s:=(p.alloc p.size _).grown o (by have:=p.size;simp;omega) (fun H q=>(Z.lt H q).1);have C:=aR r;rw[aiM x y f,<-bh] at L;cases x<;>cases y<;>cases f
      all_goals
       go_wp2;go_roundw
       case rel=>exact⟨b+1,_,_,om,by go_num,rfl,C,L,s,E⟩
       case measure=>exact yI
    . obtain⟨rfl,Y⟩:=N b K;have W:wr.cell? (jj n (m+b))=some (.bool (X b)):=(by rw[p.cell (a:=jj n (m+b)) (N.lt om)];exact Y);obtain⟨x,u⟩:∃x,x=X b:=⟨_,rfl⟩;rw[<-u] at W;have F:Hid (ext X c b=x):=(by simp[Hid,ext,K,u]);clear u;have G:Hid (ext B j b=false):=(by simp[Hid,ext,z]);have E:=aR (xz M.out F.out G.out);go_wp2_with (at_builtin;refine gK _ rfl _ _ 47 rfl w.heap.size 4 T (.bool false) 1 1 underlying47 P Q R S rfl qd _ _ _ rfl (Z.alloc _) (jj wr.heap.size 0) 1 1 [.bool _] rfl rfl (kh _ _ _) (one_one _ rfl) (by unfold maxLen;omega) om (by have:=p.size;simp;omega) ?_);intro v' U L o r;have s:=(p.alloc p.size _).grown o (by have:=p.size;simp;omega) (fun H q=>(Z.lt H q).1);have C:=aR r;rw[aiN x f,<-bh] at L;cases x<;>cases f
      all_goals
       go_wp2;go_roundw
       case rel=>exact⟨b+1,_,_,om,by go_num,rfl,C,L,s,E⟩
       case measure=>exact yI
  . by_cases z:b<j
    . have F:Hid (ext X c b=false):=(by simp[Hid,ext,K]);obtain⟨rfl,Y⟩:=O b z;have am:wr.cell? (jj k (i+b))=some (.bool (B b)):=(by rw[p.cell (a:=jj k (i+b)) (O.lt om)];exact Y);obtain⟨y,v⟩:∃y,y=B b:=⟨_,rfl⟩;rw[<-v] at am;have G:Hid (ext B j b=y):=(by simp[Hid,ext,z,v]);clear Y v;have E:=aR (xz M.out F.out G.out);go_wp2_with (at_builtin;refine gK _ rfl _ _ 47 rfl w.heap.size 4 T (.bool false) 1 1 underlying47 P Q R S rfl qd _ _ _ rfl (Z.alloc _) (jj wr.heap.size 0) 1 1 [.bool _] rfl rfl (kh _ _ _) (one_one _ rfl) (by unfold maxLen;omega) om (by have:=p.size;simp;omega) ?_);intro v' U L o r;have s:=(p.alloc p.size _).grown o (by have:=p.size;simp;omega) (fun H q=>(Z.lt H q).1);have C:=aR r;rw[alb y f,<-bh] at L;cases y<;>cases f
      all_goals
       go_wp2;go_roundw
       case rel=>exact⟨b+1,_,_,om,by go_num,rfl,C,L,s,E⟩
       case measure=>exact yI
    . have e:b=H:=om;subst e;have HE:=aR (aho M.out ag ah);cases f
      . obtain⟨g,V,rfl,ao,an,I⟩:=ot Z HN.out;go_wp2_with fail;refine (nu om ao I).mono ?_;rintro e U ⟨rfl,rfl⟩;go_wp2;go_ret;have aa:=gh D b;have:=HK.out;exact⟨g,_,V,D,rfl,om,om,I.take aa,an,fun h=>h8 _ _ h,(ur _ _).trans (by have:=HE.out;simpa using this),p⟩
      . go_wp2_with (at_builtin;refine gK _ rfl _ _ 47 rfl w.heap.size 4 T (.bool false) 1 1 underlying47 P Q R S rfl qd _ _ _ rfl (Z.alloc _) (jj wr.heap.size 0) 1 1 [.bool true] rfl rfl (kh _ _ _) (one_one _ rfl) (by unfold maxLen;omega) om (by have:=p.size;simp;omega) ?_);intro v' U L o r;have s:=(p.alloc p.size _).grown o (by have:=p.size;simp;omega) (fun H q=>(Z.lt H q).1);rw[<-bh] at L;obtain⟨g,V,rfl,ao,an,I⟩:=ot L r;go_wp2_with fail;refine (nu om ao I).mono ?_;rintro e w2 ⟨rfl,rfl⟩;go_wp2;go_ret;have aa:=gh (pf D b true) (b+1);have:=HK.out;refine⟨g,_,V,pf D b true,rfl,om,om,I.take aa,an,fun h=>h8 _ _ h,(ur _ _).trans ?_,s⟩;have h9:=HE.out;simp only[bv,fy,e7 D b true b zR];exact h9
end Go.Proofs.YtaeieekkddndhaaGreat
