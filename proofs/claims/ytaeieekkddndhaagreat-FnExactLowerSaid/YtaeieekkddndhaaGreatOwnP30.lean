import Derived.Lib.Explode
import Derived.WalkLawsBesides
import Derived.Deep.RegionHeldLaw
import Derived.Deep.AppendLies
import Derived.Deep.RegionLaw
import Derived.Test.YtaeieekkddndhaaGreatOwnP21
set_option maxHeartbeats 6400000
set_option maxRecDepth 100000
namespace Go.Proofs.YtaeieekkddndhaaGreat
open Go.RowKit
def bt(s:ByteArray)(k:Nat):Nat:=(s.data.toList[k]?.getD 0).toNat
end Go.Proofs.YtaeieekkddndhaaGreat
namespace Go.Proofs.YtaeieekkddndhaaGreat
open Go.RowKit
def dv(s:ByteArray):Nat->Nat
 | 0=>0
 | k+1=>dv s k*10+(bt s k-48)
end Go.Proofs.YtaeieekkddndhaaGreat
namespace Go.Proofs.YtaeieekkddndhaaGreat
open Go.RowKit
def wd(ws:List ByteArray)(i:Nat):ByteArray:=ws.getD i ⟨#[]⟩
def eb:Value->Option Nat
 | .slice (some a) (_+1) _=>some a.block
 | _=>none
section
variable{w w':World}{p p':Nat->Prop}{vW vB:Value}{C:Nat}{rs:List (Nat×List ByteArray)}{xW xB:List Value}
end
structure MapD where
 R:Nat
 C:Nat
 rs:List (Nat×List ByteArray)
section
variable{w w' w1:World}{lo k:Nat}{v v':Value}{D:Nat->MapD}{xs:List Value}{zs:List (List Value)}
end
end Go.Proofs.YtaeieekkddndhaaGreat
namespace Go.Proofs.YtaeieekkddndhaaGreat
open Go.RowKit
def tot(rest:List (Nat×List ByteArray)):Nat:=(rest.map fun r=>r.2.length).sum
end Go.Proofs.YtaeieekkddndhaaGreat
namespace Go.Proofs.YtaeieekkddndhaaGreat
open Go.RowKit
section
variable{w w':World}{p:Nat->Prop}{c i K K' b off:Nat}{v0 v1:Value}{aW aB:Option Addr}{gW nW cW gB nB cB:Nat}{pW pB:Nat->Nat->Prop}{kW kB:Nat->Nat}{f:Bool}{g h:Nat}{a1:Option Addr}{n1 k1:Nat}{a2:Option Addr}{n2 k2:Nat}{X Y:Nat->Nat}
theorem ax.bH(r:ax w p b off f g h a1 n1 k1 a2 n2 k2 X Y)(s:w.S w'):ax w' p b off f g h a1 n1 k1 a2 n2 k2 X Y:=by
 have d:b<w.heap.size:=aG _ _ r.c0;refine⟨(s.cell (a:=jj b off) d).trans r.c0,(s.cell (a:=jj b (off+1)) d).trans r.c1,(s.cell (a:=jj b (off+2)) d).trans r.c2,r.L1.bH s,r.L2.bH s,r.s1,r.s2,fun c=>⟨(r.lg c).1,fun o=> ?_⟩,fun c=>⟨(r.lh c).1,fun o=> ?_⟩,r.ne⟩
 . have e:g<w.heap.size:=aG _ _ (r.L1 0 c).2;rw[s.frozen (a:=jj g o) e];exact (r.lg c).2 o
 . have e:h<w.heap.size:=aG _ _ (r.L2 0 c).2;rw[s.frozen (a:=jj h o) e];exact (r.lh c).2 o
theorem LM.bH{a:Option Addr}{n:Nat}{p:Nat->Nat->Prop}{X:Nat->Nat}(h:LM w a g n p X)(s:w.S w'):LM w' a g n p X:=
 ⟨h.ha,fun i j=>by
   obtain⟨e,f,b,m,k,c,o,l,q,d⟩:=h.M i j;exact⟨e,f,b,m,k,c,o,l,q.bH s,d⟩⟩
theorem AQ.bH(h:AQ w p c i v0 v1 aW gW nW cW pW aB gB nB cB pB)(s:w.S w'):AQ w' p c i v0 v1 aW gW nW cW pW aB gB nB cB pB:=by
 have b:c<w.heap.size:=aG _ _ h.c0;exact⟨(s.cell (a:=jj c (i*4)) b).trans h.c0,(s.cell (a:=jj c (i*4+1)) b).trans h.c1,(s.cell (a:=jj c (i*4+2)) b).trans h.c2,(s.cell (a:=jj c (i*4+3)) b).trans h.c3,h.W.bH s,h.B.bH s,h.dis,h.inW,h.inB,h.sz⟩
theorem AM.bH(h:AM w p c i K K' aW gW nW cW pW kW aB gB nB cB pB kB)(s:w.S w'):AM w' p c i K K' aW gW nW cW pW kW aB gB nB cB pB kB:=by
 have b:c<w.heap.size:=aG _ _ h.c0;exact⟨(s.cell (a:=jj c (i*4)) b).trans h.c0,(s.cell (a:=jj c (i*4+1)) b).trans h.c1,(s.cell (a:=jj c (i*4+2)) b).trans h.c2,(s.cell (a:=jj c (i*4+3)) b).trans h.c3,h.W.bH s,h.B.bH s,h.inW,h.inB,h.sz,h.k0,h.k1,h.k2,h.z1,h.z2⟩
end
structure bo(w:World)(a:Option Addr)(c n:Nat)(p:Nat->Nat->Prop)(z:Nat->Nat):Prop where
 ha:0<n->a=some ⟨c,0,none⟩
 D:db n p c
 f:0<n->∀o,w.frozen? ⟨c,o,none⟩=false
 Q:NQ w c 0 n p z
theorem bo.bH{w w':World}{a:Option Addr}{m n:Nat}{p:Nat->Nat->Prop}{z:Nat->Nat}(h:bo w a m n p z)(s:w.S w'):bo w' a m n p z:=
 ⟨h.ha,h.D,fun b o=>by
   obtain⟨_,_,_,_,_,_,_,_,_,_,_,_,r,-⟩:=h.Q 0 zR b;have q:m<w.heap.size:=aG _ _ r.c0;rw[s.frozen (a:=jj m o) q];exact h.f b o,fun i l c=>by
   obtain⟨A,B,e,k,u,g,x,d,j,t,f,v,y,C⟩:=h.Q i l c;exact⟨A,B,e,k,u,g,x,d,j,t,f,v,y.bH s,C⟩⟩
theorem ajR{a:Option Addr}{n m c d:Nat}{p:Nat->Nat->Prop}{X:Nat->Nat}{w:World}(t:m<=1048576)(s:d<=1000000)(u:∀i,i<=m->psN X i<=16777216)(H:bo w a n m p X):
 Cl 11 #[.agg #[.slice a m c],.i d] w fun e l=>∃K:Nat->Nat,K 0=d/\(∀i,i<=m->K i<=282000000000000)/\e=.returned (.i ((K m:Nat):Int))/\∃h,w.S h/\tc h l (wJ n m p)/\NM l n m p K:=by
 have k:=cV w (.o #[.l a m c] 29);have v:=ki.new w (.l a m c) 29;go_enter Tryz.func11,Tryz.ntmps11;go_wp2_with fail;generalize w.alloc _=h at*;have b:=H.bH k;refine (adL t s u b.ha b.D b.f b.Q).mono ?_;rintro e y ⟨K,r,j,rfl,F,M⟩;have o:=aR M;have g:=aR j;obtain⟨x,f⟩:∃x,K m=x:=⟨_,rfl⟩;rw[f];have q:=aR f;clear M j f;go_wp2;go_ret;exact⟨K,r,g.out,by rw[q.out];rfl,_,k,F,o.out⟩
theorem akj{a:Option Addr}{n m c d:Nat}{p:Nat->Nat->Prop}{X:Nat->Nat}{w:World}(y:m<=1048576)(t:X 0=d)(u:0<m->a=jp n 0)(f:∀i,i<=m->X i<=282000000000000)(H:NM w n m p X):
 Cl 12 #[.agg #[.slice a m c],.i d] w fun e K=>e=.returned (.i ((X m:Nat):Int))/\w.S K:=by
 have h:=cV w (.o #[.l a m c] 29);have L:=ki.new w (.l a m c) 29;have G:=f m zR;have j:NM (w.alloc (.o #[.l a m c] 29)) n m p X:=fun i v=>by obtain⟨g,s,C,q,E,A,l,r,B,o,D,z,F⟩:=H i v;exact⟨g,s,C,q,E,A,l,r,B,o,D,z,F.bH h⟩
 go_enter Tryz.func12,Tryz.ntmps12;go_wp2_with fail;generalize w.alloc _=M at*;refine (adR y t u f j).mono ?_;rintro e N ⟨rfl,rfl⟩;obtain⟨x,b⟩:∃x,X m=x:=⟨_,rfl⟩;rw[b] at G⊢;have k:=aR b;have I:¬((x:Int)<0):=om;clear b;go_wp2;go_ret;exact⟨by rw[k.out];rfl,h⟩
end Go.Proofs.YtaeieekkddndhaaGreat
