import Derived.Test.YtaeieekkddndhaaGreatOwnP29
import Derived.RangeFuncOwn
set_option maxHeartbeats 6400000
set_option maxRecDepth 100000
namespace Go.Proofs.YtaeieekkddndhaaGreat
open Tryz Go.RowKit
variable{w v W V:World}{n m c d k i j l o b p q t r s g h e:Nat}{a A B:Option Addr}{u U:Value}{G:be}{P:Nat->Prop}{D:dA}
def vP(w:World)(q:Nat):Prop:=∃o,w.heap[q]?=some o/\o.isCells=true
structure Frm where
 w0:World
 wf:World
 FB:Nat->Prop
def NT(FB:Nat->Prop)(bl bm:Nat)(vm:Value)(q:Nat):Prop:=q≠bl/\q≠bm/\vm.ownBlock≠some q/\¬FB q
structure yZ(w0:Frm)(w:World)(bl:Nat)(g:be)(lo:Nat)(aL aH aN:Option Addr)(kL kH kN bd kd bu ku:Nat)(m bm:Nat)(vm:Value)(base:Nat)(A:List (Nat×Nat×List Rat×List Rat))(M:List (Int×Value))(K:Nat->Prop)(X:Nat->List Row):Prop where
 L:Low w bl g lo aL aH aN kL kH kN bd kd bu ku (m:Int) (.map (some bm)) vm
 e:Eld w0.w0 w g lo aL aH aN kL kH kN bd bl bu
 Z:jm w bm M
 N:Kn w (NT w0.FB bl bm vm) M K X
 p:∀a∈A,0<a.2.2.1.length/\0<a.2.2.2.length
 A:∃xa,GL KA (fun q=>q≠bl/\q≠bm/\¬w0.FB q) w base vm A xa
 n1:bl≠bm
 n2:bu≠bm
 n3:bl≠bu
 v1:vm.ownBlock≠some bl
 v2:vm.ownBlock≠some bu
 v3:vm.ownBlock≠some bm
 z1:w0.w0.heap.size<=bm
 z2:w0.w0.heap.size<=base
 z3:base<=w.heap.size
 fb:∀q,w0.FB q->(q≠bl/\q≠bm/\vm.ownBlock≠some q/\w0.w0.heap.size<=q)/\q<w.heap.size/\vP w q/\w.heap[q]?=w0.wf.heap[q]?
section
variable{w0:Frm}{w w':World}{bl:Nat}{g:be}{lo:Nat}{aL aH aN:Option Addr}{kL kH kN bd kd bu ku:Nat}{m bm:Nat}{vm:Value}{base:Nat}{A:List (Nat×Nat×List Rat×List Rat)}{M:List (Int×Value)}{K:Nat->Prop}{X:Nat->List Row}
theorem yZ.vlt(S:yZ w0 w bl g lo aL aH aN kL kH kN bd kd bu ku m bm vm base A M K X)(h:vm.ownBlock=some n):base<=n/\n<w.heap.size:=by
 obtain⟨a,G⟩:=S.A;exact G.own.lt n h
theorem yZ.new(S:yZ w0 w bl g lo aL aH aN kL kH kN bd kd bu ku m bm vm base A M K X)(h:w.heap.size<=n):NT w0.FB bl bm vm n:=
 ⟨by have:=S.L.B.lt;omega,by have:=S.Z.lt;omega,fun e=>by have:=(S.vlt e).2;omega,fun e=>by have:=(S.fb n e).2.1;omega⟩
theorem yZ.old(S:yZ w0 w bl g lo aL aH aN kL kH kN bd kd bu ku m bm vm base A M K X)(h:n<w0.w0.heap.size):NT w0.FB bl bm vm n:=
 ⟨by have:=S.e.l;omega,by have:=S.z1;omega,fun e=>by have:=(S.vlt e).1;have:=S.z2;omega,fun e=>by have:=(S.fb n e).1.2.2.2;omega⟩
theorem yZ.fbk(S:yZ w0 w bl g lo aL aH aN kL kH kN bd kd bu ku m bm vm base A M K X)(k:Gr P w w')(i:w0.FB n)(h:¬P n):(n≠bl/\n≠bm/\vm.ownBlock≠some n/\w0.w0.heap.size<=n)/\n<w'.heap.size/\vP w' n/\w'.heap[n]?=w0.wf.heap[n]?:=by
 obtain⟨a,b,⟨o,c,d⟩,f⟩:=S.fb n i;have e:=k.block n b h;exact⟨a,by have:=k.size;omega,⟨o,e.trans c,d⟩,e.trans f⟩
theorem yZ.map(S:yZ w0 w bl g lo aL aH aN kL kH kN bd kd bu ku m bm vm base A M K X){c:List (Int×Value)}{j:Nat->List Row}(k:Gr (fun q=>q=bm) w w')(f:jm w' bm c)(d:Kn w' (NT w0.FB bl bm vm) c P j):yZ w0 w' bl g lo aL aH aN kL kH kN bd kd bu ku m bm vm base A c P j:=by
 obtain⟨i,G⟩:=S.A;have h:∀q,q=bm->w0.w0.heap.size<=q:=fun q e=>e▸S.z1;exact⟨S.L.gr S.e k h S.n1 S.n2,S.e.gr k h,f,d,S.p,⟨i,G.gr KA.ok k (fun b hb e=>S.v3 (by rw[hb,e])) (fun q _ a e=>a.2.1 e)⟩,S.n1,S.n2,S.n3,S.v1,S.v2,S.v3,S.z1,S.z2,aU S.z3 k.size,fun q a=>S.fbk k a (S.fb q a).1.2.1⟩
theorem yZ.bH(S:yZ w0 w bl g lo aL aH aN kL kH kN bd kd bu ku m bm vm base A M K X)(s:w.S w'):yZ w0 w' bl g lo aL aH aN kL kH kN bd kd bu ku m bm vm base A M K X:=
 S.map (Gr.of s) (S.Z.bH s) (S.N.gr (T:=fun _=>False) (Gr.of s) (fun _ _ h=>h))
theorem yZ.imp(S:yZ w0 w bl g lo aL aH aN kL kH kN bd kd bu ku m bm vm base A M K X){K':Nat->Prop}{c:Nat->List Row}(a:∀j,K' j->K j)(b:∀j,K' j->c j=X j):yZ w0 w bl g lo aL aH aN kL kH kN bd kd bu ku m bm vm base A M K' c:=
 ⟨S.L,S.e,S.Z,S.N.imp a b,S.p,S.A,S.n1,S.n2,S.n3,S.v1,S.v2,S.v3,S.z1,S.z2,S.z3,S.fb⟩
theorem ez{N:List Row}(a:1<=N.length)(b:1<=n):0<(zh N n).2.2.1.length/\0<(zh N n).2.2.2.length:=by
 unfold zh;simp only[bS,cT];exact⟨fE a b,a⟩
theorem en(G:be)(n:Nat)(X:Nat->List Row)(O:List Row):O.length<=(wQ G n X O).length:=by
 unfold wQ;rw[aT];omega
theorem yZ.stp(S:yZ w0 w bl g lo aL aH aN kL kH kN bd kd bu ku m bm vm base A M K X){a:Nat×Nat×List Rat×List Rat}{e:Ending}(R:aow bl g aL aH aN kL kH kN (.s bd (g.nn+1) kd) (.s bu (g.nn+1) ku) vm n c base (fun q=>¬w0.FB q) A a w e w')(D:0<a.2.2.1.length/\0<a.2.2.2.length):
 e=.returned (.tuple #[])/\∃d r f,w.heap.size<=d/\yZ w0 w' bl g lo aL aH aN kL kH kN bd kd bu ku c d r base (A++[a]) f (fun j=>j<n/\n<bL g j) (rF g n)/\Gr (fun q=>q=bl∨vm.ownBlock=some q) w w'/\∀b,r.ownBlock=some b->vm.ownBlock=some b∨w.heap.size<=b:=by
 obtain⟨E,d,y,O,f,L,z,B,u,t,s,k,p,H,I⟩:=R;have P:=S.L.B.lt;have G:=S.L.U.lt;have C:∀q,(q=bl∨vm.ownBlock=some q)->w0.w0.heap.size<=q:=fun q h=>by
  rcases h with h | h
  . have:=S.e.l;omega
  . have:=(S.vlt h).1;have:=S.z2;omega
 have l:=S.e.gr k C;have N:=S.e.s.size;have v:y≠bu:=fun h=>by
  rcases p with o | o
  . exact S.v2 (by rw[o,h])
  . omega
 exact⟨E,d,_,f,z,⟨⟨B,S.e.G.bH l.s,S.e.D.bH l.s,S.L.U.of_block (k.block _ G (fun h=>by rcases h with h | h;exact S.n3 h.symm;exact S.v2 h))⟩,l,u,t.wide (fun q _ h=>⟨om,h.2.1,by simp[Value.ownBlock];exact fun e=>h.2.2 e.symm,fun e=>by have:=(S.fb q e).2.1;omega⟩),fun x F=>by rcases iX.1 F with h | h;exact S.p x h;simp at h;subst h;exact D,⟨L,s⟩,om,om,S.n3,by simp[Value.ownBlock];exact I,by simp[Value.ownBlock];exact v,by simp[Value.ownBlock];exact H,om,S.z2,aU S.z3 k.size,fun q i=>⟨⟨(S.fb q i).1.1,by have:=(S.fb q i).2.1;omega,by simp[Value.ownBlock];exact fun e=>by subst e;rcases p with h | h;exact (S.fb _ i).1.2.2.1 h;have:=(S.fb _ i).2.1;omega,(S.fb q i).1.2.2.2⟩,(S.fbk k i (fun h=>by rcases h with h | h;exact (S.fb q i).1.1 h;exact (S.fb q i).1.2.2.1 h)).2⟩⟩,k,fun b hb=>by simp[Value.ownBlock] at hb;subst hb;exact p⟩
theorem yZ.put(S:yZ w0 w bl g lo aL aH aN kL kH kN bd kd bu ku m bm vm base A M K X)(o:i<=1000){b c n kc:Nat}{R:List Row}(l:R.length=n)(p:n<=kc)(f:ML KR w (NT w0.FB bl bm vm) a b c R)(hb:0<n->NT w0.FB bl bm vm b):
 ∃s,(Instr.mapUpdate 107 (.map (some bm)) (.i (i:Int)) (.slice a n kc)).run Tryz.prog w=.ok () s/\yZ w0 s bl g lo aL aH aN kL kH kN bd kd bu ku m bm vm base A (qc (i:Int) (.slice a n kc) M) (fun j=>j=i∨K j) (fun j=>if j=i then R else X j):=by
 obtain⟨s,r,k,d⟩:=S.Z.put (P:=Tryz.prog) (mty:=107) (kt:=3) (et:=118) (z:=(i:Int)) underlying107 underlying3 (bf o) (.l a n kc);exact⟨s,r,S.map (Gr.gb d) k ((S.N.put i l p f hb).gr (Gr.gb d) (fun q h e=>h.2.1 e))⟩
end
def NSt(w0:Frm)(w:World)(bl:Nat)(g:be)(lo:Nat)(aL aH aN:Option Addr)(kL kH kN bd kd bu ku:Nat)(t k:Nat):Prop:=∃bm vm base M V K X,yZ w0 w bl g lo aL aH aN kL kH kN bd kd bu ku ((eS g).getD t 0) bm vm base ((List.range t).map (amap g)) M K X/\ug g t k V K X
def TkC(w0:Frm)(bl:Nat)(g:be)(lo:Nat)(aL aH aN:Option Addr)(kL kH kN bd kd bu ku:Nat)(k:Nat)(e:Ending)(w':World):Prop:=e=.returned (.tuple #[])/\∃t,NSt w0 w' bl g lo aL aH aN kL kH kN bd kd bu ku t (k+1)
section
variable{w0:Frm}{w w':World}{bl:Nat}{g:be}{lo:Nat}{aL aH aN:Option Addr}{kL kH kN bd kd bu ku:Nat}{m bm:Nat}{vm:Value}{base:Nat}{A:List (Nat×Nat×List Rat×List Rat)}{M:List (Int×Value)}{K:Nat->Prop}{X:Nat->List Row}{t k:Nat}{V:(Nat->Rat)->Nat->Nat->Rat}
theorem ug.tl(H:ug g t k V K X)(a:k<=g.nn):t<=(bP g).length:=by
 obtain⟨r,b⟩:=vF g a;rw[H.st];unfold bP;rw[b,aT];omega
theorem ug.small(E:iy g)(a:jw g<=20000)(H:ug g t k V K X)(b:k<=g.nn):(eS g).getD t 0<=20000:=ru E a (H.tl b)
theorem ug.ka(E:iy g)(H:ug g t k V K X)(a:k<g.nn)(b:fo g (k+1)=true):K (g.N k).a.toNat:=H.src _ (E.nd a).ai (by have:=uW a b (j:=(g.N k).a.toNat) (by simp[qm]);omega)
theorem yP(h:D.op=1∨D.op=4∨D.op=6∨D.op=7):isStep D=false:=by
 unfold isStep;simp only[qQ,kS,rJ];omega
theorem amQ(E:iy g)(D:g.size<=1048576)(C:jw g<=20000)(a:k<g.nn)(s:fo g (k+1)=true)(o:(g.N k).op=1)(N:NSt w0 w bl g lo aL aH aN kL kH kN bd kd bu ku t k):
 Cl 109 #[.p bl 0,.i ((k+1:Nat):Int)] w (TkC w0 bl g lo aL aH aN kL kH kN bd kd bu ku k):=by
 obtain⟨f,i,z,M,V,K,X,S,H⟩:=N;have b:=E.nd a;have I:=b.a0;have T:=b.k0;have u:=H.ka E a s;have d:=H.kn _ u;have Q:=H.small E C (cZ a);have G:=S.L.G.tV;have B:=(E.i9 (j:=(g.N k).a.toNat) (by have:=b.ai;omega)).2;obtain⟨A,L⟩:=b.sh.c1 o;obtain⟨j,l,m,p⟩:=b2 o (vD g (g.N k).a.toNat);refine (@af6 bl g E lo aL aH aN kL kH kN bd kd bu ku _ i f k (k+1) ((eS g).getD t 0) (g.N k).a.toNat (vD g (g.N k).a.toNat) (g.N k).k.toNat rfl om om (NT w0.FB bl f i) K X M w0.w0 w S.L S.e S.Z a S.N (fun q=>S.new) (fun q=>S.old) (fun h=>h.2.1 rfl) u om d.len B om A (fun e P=> ?_)).mono ?_
 . have r:=d.mixOk E D G a (.inl o) (show e<vD g (k+1) by omega);rw[j,l,m] at r;simp only[p] at r;exact r
 . rintro e W ⟨c,n,U,R,rfl,hl,⟨O,v⟩,y,x,F⟩
   exact⟨rfl,t,f,i,z,_,_,_,_,S.map F y x,H.take E a s (yP (.inl o)) (rP.mix E a (.inl o) d om (by
    rw[j,show mB (g.N k) (vD g (g.N k).a.toNat)=_ from funext l,show mW (g.N k) (vD g (g.N k).a.toNat)=_ from funext m];simp only[p];exact v))⟩
theorem anX(E:iy g)(O:g.size<=1048576)(G:jw g<=20000)(a:k<g.nn)(v:fo g (k+1)=true)(o:(g.N k).op=6)(N:NSt w0 w bl g lo aL aH aN kL kH kN bd kd bu ku t k):
 Cl 114 #[.p bl 0,.i ((k+1:Nat):Int)] w (TkC w0 bl g lo aL aH aN kL kH kN bd kd bu ku k):=by
 obtain⟨i,m,B,M,V,K,X,S,H⟩:=N;have b:=E.nd a;have T:=b.a0;have Y:=b.k0;have x:=H.ka E a v;have d:=H.kn _ x;have W:=H.small E G (cZ a);have Q:=S.L.G.tV;have F:=(E.i9 (j:=(g.N k).a.toNat) (by have:=b.ai;omega)).2;have U:=E.i9 (j:=k+1) a;obtain⟨C,D⟩:=b.sh.c6 o;obtain⟨n,p,s,u⟩:=b1 o (vD g (g.N k).a.toNat);have f:=b.sh.f;have j:=f.k;rw[o] at j;have j:1<=(g.N k).k/\(g.N k).k<=1000:=j;have l:=f.s;rw[o] at l;have l:1<=(g.N k).s/\(g.N k).s<=1000:=l;refine (@ahl bl g E lo aL aH aN kL kH kN bd kd bu ku _ m i k (k+1) ((eS g).getD t 0) (g.N k).a.toNat (vD g (g.N k).a.toNat) (vD g (k+1)) (g.N k).k.toNat (g.N k).s.toNat rfl om om om rfl (NT w0.FB bl i m) K X M w0.w0 w S.L S.e S.Z a S.N (fun q=>S.new) (fun q=>S.old) (fun h=>h.2.1 rfl) x om d.len F C D om (fun e L=> ?_)).mono ?_
 . have r:=d.mixOk E O Q a (.inr (.inl o)) L;rw[n,p,s] at r;simp only[u] at r;exact r
 . rintro e w' ⟨ab,c,Z,R,rfl,hl,⟨I,y⟩,A,z,P⟩
   exact⟨rfl,t,i,m,B,_,_,_,_,S.map P A z,H.take E a v (yP (.inr (.inr (.inl o)))) (rP.mix E a (.inr (.inl o)) d I (by
    rw[n,show mB (g.N k) (vD g (g.N k).a.toNat)=_ from funext p,show mW (g.N k) (vD g (g.N k).a.toNat)=_ from funext s];simp only[u];exact y))⟩
theorem anH(E:iy g)(s:g.size<=1048576)(G:jw g<=20000)(a:k<g.nn)(p:fo g (k+1)=true)(o:(g.N k).op=7)(N:NSt w0 w bl g lo aL aH aN kL kH kN bd kd bu ku t k):
 Cl 115 #[.p bl 0,.i ((k+1:Nat):Int)] w (TkC w0 bl g lo aL aH aN kL kH kN bd kd bu ku k):=by
 obtain⟨C,O,B,M,V,K,X,S,H⟩:=N;have b:=E.nd a;have P:=b.a0;have u:=H.ka E a p;have d:=H.kn _ u;have W:=H.small E G (cZ a);have v:=S.L.G.tV;have F:=(E.i9 (j:=(g.N k).a.toNat) (by have:=b.ai;omega));obtain⟨Q,D⟩:=b.sh.c7 o;obtain⟨f,i,l,m⟩:=b0 o (vD g (g.N k).a.toNat);have L:=b.sh.f.v7 o;have r:∀e,e<vD g (g.N k).a.toNat->b4 ((eS g).getD t 0) 1 ((g.N k).w 3-(g.N k).w 0*((g.N k).w 2)⁻¹ *(g.N k).w 1) (fun _=>(g.N k).w 0*((g.N k).w 2)⁻¹) (fun _=>uh (X (g.N k).a.toNat) e):=fun e U=>by have r:=d.mixOk E s v a (.inr (.inr o)) (show e<vD g (k+1) by omega);rw[f,i,l] at r;simp only[m] at r;exact r
 refine (ahk E rfl om X S.L S.e S.Z a S.N (fun q=>S.new) (fun h=>h.2.1 rfl) u om d.len F.2 L D (fun x Y=>E.qw s v k a x om) ((r 0 om).qW 0 om) r).mono ?_;rintro e j ⟨c,n,Z,R,rfl,hl,⟨T,y⟩,A,z,I⟩
 exact⟨rfl,t,C,O,B,_,_,_,_,S.map I A z,H.take E a p (yP (.inr (.inr (.inr o)))) (rP.mix E a (.inr (.inr o)) d om (by
  rw[f,show mB (g.N k) (vD g (g.N k).a.toNat)=_ from funext i,show mW (g.N k) (vD g (g.N k).a.toNat)=_ from funext l];simp only[m];exact y))⟩
theorem aov(E:iy g)(i:g.size<=1048576)(T:jw g<=20000)(a:k<g.nn)(m:fo g (k+1)=true)(o:(g.N k).op=4)(N:NSt w0 w bl g lo aL aH aN kL kH kN bd kd bu ku t k):
 Cl 112 #[.p bl 0,.i ((k+1:Nat):Int)] w (TkC w0 bl g lo aL aH aN kL kH kN bd kd bu ku k):=by
 obtain⟨l,q,O,M,V,K,X,S,H⟩:=N;have d:=E.nd a;have Z:=d.a0;have b0:=d.b0;have B:=H.ka E a m;have C:K (g.N k).b.toNat:=H.src _ d.bi (by have:=uW a m (j:=(g.N k).b.toNat) (by simp[qm,o]);omega);have b:=H.kn _ B;have f:=H.kn _ C;have hm:=H.small E T (cZ a);have j:=S.L.G.tV;have P:=(E.i9 (j:=(g.N k).a.toNat) (by have:=d.ai;omega)).2;have e4:=d.sh.c4 o;have eb:=d.b4 o;have Q:∀(x z:Nat->Rat) (D e:Nat),lu (g.N k) x z D e=x e+z e:=fun x z D e=>by unfold lu;rw[aM om,aM om,aM om,aY o]
 refine (@ajr bl g E lo aL aH aN kL kH kN bd kd bu ku _ q l k (k+1) ((eS g).getD t 0) (g.N k).a.toNat (g.N k).b.toNat rfl om om (NT w0.FB bl l q) K X M w S.L S.Z a S.N (fun ab=>S.new) (fun h=>h.2.1 rfl) B C om (by rw[b.len,f.len];omega) (by rw[b.len];exact P) (fun e ra rb n A=> ?_)).mono ?_
 . obtain⟨s,-,u⟩:=b.at_ n;obtain⟨v,-,L⟩:=f.at_ A;have W:e<vD g (k+1):=(by have:=(bG.1 n).1;rw[b.len] at this;omega);refine⟨s,v,fun z=>th E i j (cZ a) (u z),fun z=> ?_,fun x p=>by rw[<-uL s.nd p];exact th E i j (cZ a) (u _),fun x p=>by rw[<-uL v.nd p];exact th E i j (cZ a) (L _)⟩;have r:=uN E a (x:=fun c=>eO (uh (X (g.N k).a.toNat) c) z) (z:=fun c=>eO (uh (X (g.N k).b.toNat) c) z) (fun c y=>(b.rd y).2.2 z) (fun _ c y=>(f.rd om).2.2 z) W;rw[Q,my n,my A] at r;exact th E i j (k:=k+1) a r
 . rintro e w' ⟨c,aa,kc,R,rfl,hl,⟨U,F⟩,I,G,Y⟩;exact⟨rfl,t,l,q,O,_,_,_,_,S.map Y I G,H.take E a m (yP (.inr (.inl o))) (rP.add E a o b f U F)⟩
end
def StK(w0:Frm)(bl:Nat)(g:be)(lo:Nat)(aL aH aN:Option Addr)(kL kH kN bd kd bu ku:Nat)(i nN base:Nat)(A:List (Nat×Nat×List Rat×List Rat))(R:List Row)(e:Ending)(w':World):Prop:=
 e=.returned (.tuple #[])/\∃bm vm M,yZ w0 w' bl g lo aL aH aN kL kH kN bd kd bu ku nN bm vm base A M (fun j=>j=i∨(j<i/\i<bL g j)) (fun j=>if j=i then R else rF g i j)
theorem ahj{bl:Nat}(E:iy G){b6:List (Nat×Nat×List Rat×List Rat)}{M:List (Int×Value)}(X:Nat->List Row)(b9:t=q+1)(ab:(G.N q).a=r)(bm:Frm)(S:yZ bm w bl G n a A B m c d k i j l o b u p b6 M P X)(hk:q<G.nn)(ka:P r)(aq:(X r).length=s)(au:1<=s)(bz:s<=1000)
 (L:∀Z,Z<t->t<bL G Z->P Z/\(X Z).length=vD G Z/\∀ad∈X Z,ic o ad)(aw:∀ad∈X r,ic o ad)(hm:o<=20000)(ar:1<=o)(av:ga G t t+s=g)(a7:g<=20000)(hA:b6.length<=1000000):
 Cl 110 #[.p bl 0,.i (t:Int)] w (StK bm bl G n a A B m c d k i j l t g p (b6++[zh (wQ G t X (X r)) o]) ((List.range s).map fun e=>cL ((ga G t t+e:Nat):Int) [1])):=by
 have b0:=E.head.n;obtain⟨T,ba,oa,f,U,va,bf,b4,MA,pA⟩:=S.N.at_ r ka;have a8:f=s:=om;subst a8;have HK:=aR L;have a0:=aR aw;have ah:=aR av;have af:=aR aq;have bi:=aR ab;clear L aw av aq bf;have HE:=aR E;have HI:=aR b9;have ao:t<=G.nn:=om;have I:∀K:World,K.S K.drew:=fun K=>(aF K.heap.size K).drew;have ag:=aR (show ∀K,jm K b M->(Instr.lookup 107 (.map (some b)) (.i (r:Int)) false).run Tryz.prog K=.ok (.l T f U) K from fun K hZ=>by
  have:=hZ.look (P:=Tryz.prog) (mty:=107) (kt:=3) (et:=118) (zv:=.n) underlying107 underlying3 kr false (z:=(r:Int));rw[show ((iN (r:Int) M).map Prod.snd).getD (.n)=.l T f U from by show (ql (r:Int) M).getD _=_;rw[va];rfl] at this;exact this)
 have F:=S.bH (I w);have sN:=cV w (.o #[] 163);have ax:w.S (w.alloc (.o #[] 163)).drew:=sN.tr (I _);have D:=S.bH ax;have cd:=bF E b9 F.L hk;have ce:=bF E b9 D.L hk;rw[ab] at cd ce;have an:=fun (x0 x1 x2 x3 x4 x5:Value) (K:World)=>ale x0 x1 x2 x3 x4 x5 K;clear b9 ab E;go_enter func110,ntmps110;go_wp2_with fail;refine pack (fun a4 a' C=>∃R v x,a'=((((((((((((a4.put (some 8) (.p bl 0)).put (some 9) (.p bl 0)).put (some 10) (.p bl 9)).put (some 11) (.map (some b))).put (some 12) (.p bl 0)).put (some 13) (.i (t:Int))).put (some 14) (.agg #[.i (G.N q).op,.i (r:Int),.i (G.N q).b,.i (G.N q).k,.i (G.N q).s,.l v (G.N q).nv x])).put (some 15) (.i (r:Int))).put (some 16) (.l T f U)).put (some 17) (.s R 0 0)).put (some 4) (.l T f U)).put (some 5) (.s R 0 0))/\w.S C/\w.heap.size<=R/\GL KR (fun z=>w.heap.size<=z) C w.heap.size (.s R 0 0) [] []) ?_ ?_
 . refine bQ 11 (fun C=>C.cell? (jj bl 9)=some (.map (some b))/\jm C b M) kr ⟨F.L.B.c9,F.Z⟩ (fun aa=> ?_);refine tX 0 8 ?_;refine tX 1 9 ?_;refine tX 2 10 ?_;refine tX 3 11 ?_;refine tX 4 12 ?_;refine tX 5 13 ?_;refine an3 (i:=6) (j:=9) kr rfl rfl (fun P L=> ?_) (fun P L=> ?_)
   . go_simp;go_wp2_with (go_at_call 61;(with_reducible refine cd.mono ?_);rintro e V ⟨v,x,rfl,-,Y⟩);have Q:=F.bH Y;refine L.out _ _ (fun _=>⟨Q.L.B.c9,Q.Z⟩) ?_;clear L P aa;have aa:V.cell? (jj bl 9)=some (.map (some b))/\jm V b M:=⟨Q.L.B.c9,Q.Z⟩;refine aa9 (i:=7) (d:=some 15) (v:=.i (r:Int)) rfl kr kr kr (fun _ _ _ h=>h) kr yE ?_ ?_
     focus
      intro K N;have hL:=an (.i (G.N q).op) (.i (r:Int)) (.i (G.N q).b) (.i (G.N q).k) (.i (G.N q).s) (.l v (G.N q).nv x) K;exact yG
     simp only[ap,la,lz,ls];refine aa9 (i:=8) (d:=some 16) (v:=(.l T f U)) rfl kr kr kr (fun _ _ _ h=>h) kr yE ?_ ?_
     focus
      intro K N;have hL:=ag.out K N.2;exact yG
     simp only[ap,la,lz,ls];refine aa9 (i:=10) (d:=some 4) (v:=(.l T f U)) rfl kr kr kr (fun _ _ _ h=>h) kr yE ?_ ?_
     focus
      intro K N;exact yG
     simp only[ap,la,lz,ls];refine afB (i:=9) kr rfl (fun P L=> ?_);go_simp;have sA:=cV V (.o #[] 163);have S4:=Q.bH sA;have b7:=GL.new KR (fun z=>w.heap.size<=z) V;have H:w.S V:=(I w).trans (sM Y (I w).size);refine L.out _ _ (fun _=>⟨S4.L.B.c9,S4.Z⟩) ?_;clear L P aa;refine afB (i:=11) kr rfl (fun P L=> ?_);go_simp;refine L.out _ _ (fun h=>absurd rfl h) ?_;clear L P;refine wG kr ?_ _;refine⟨V.heap.size,v,x, ?_,H.tr sA,H.size,⟨b7.own.mono H.size,b7.at_⟩⟩;first | rfl | (simp only[ap,la,lz,ls])
   . go_simp;refine L.out _ _ (fun _=>⟨D.L.B.c9,D.Z⟩) ?_;clear L P aa;refine afB (i:=6) kr rfl (fun P L=> ?_);go_simp;go_wp2_with (go_at_call 61;(with_reducible refine ce.mono ?_);rintro e V ⟨v,x,rfl,-,Y⟩);have Q:=D.bH Y;refine L.out _ _ (fun _=>⟨Q.L.B.c9,Q.Z⟩) ?_;clear L P;have aa:V.cell? (jj bl 9)=some (.map (some b))/\jm V b M:=⟨Q.L.B.c9,Q.Z⟩;refine aa9 (i:=7) (d:=some 15) (v:=.i (r:Int)) rfl kr kr kr (fun _ _ _ h=>h) kr yE ?_ ?_
     focus
      intro K N;have hL:=an (.i (G.N q).op) (.i (r:Int)) (.i (G.N q).b) (.i (G.N q).k) (.i (G.N q).s) (.l v (G.N q).nv x) K;exact yG
     simp only[ap,la,lz,ls];refine aa9 (i:=8) (d:=some 16) (v:=(.l T f U)) rfl kr kr kr (fun _ _ _ h=>h) kr yE ?_ ?_
     focus
      intro K N;have hL:=ag.out K N.2;exact yG
     simp only[ap,la,lz,ls];have b7:=((GL.new KR (fun z=>w.heap.size<=z) w).bH KR.ok (I _)).bH KR.ok Y;have H:=ax.tr Y;refine aa9 (i:=10) (d:=some 4) (v:=(.l T f U)) rfl kr kr kr (fun _ _ _ h=>h) kr yE ?_ ?_
     focus
      intro K N;exact yG
     simp only[ap,la,lz,ls];refine afB (i:=11) kr rfl (fun P L=> ?_);go_simp;refine L.out _ _ (fun h=>absurd rfl h) ?_;clear L P;refine wG kr ?_ _;refine⟨w.heap.size,v,x, ?_,H,aC _,b7⟩;first | rfl | (simp only[ap,la,lz,ls])
 rintro a' w1 ⟨a6,v,x,rfl,S1,br,G1⟩;simp only[ap,la,lz,ls];have L1:=S.L.bH S1;have JW:=pu HE.out L1 ao;clear cd ce F D sN;go_wp2_with fail;refine JW.mono ?_;rintro e w2 ⟨rfl,s2⟩;clear JW;have S2:=S1.tr s2;have G2:=G1.bH KR.ok s2;have b1:ga G t t<=20000:=by have:=ah.out;omega
 have az:=aR (show ga G t t+f=g from ah.out);generalize al:ga G t t=b8 at*;have ai:=aR al;clear al;go_wp2_with fail;go_loopw [5,23] (fun bg z wr=>∃O:Nat,O<=f/\z=.i (O:Int)/\w.S wr/\∃R ky xs,bg=.s R O ky/\GL KR (fun z=>w.heap.size<=z) wr w.heap.size (.s R O ky) ((List.range O).map fun e=>cL ((b8+e:Nat):Int) [1]) xs) (fun _ z _=>f-(intOf z).toNat)
 case atStart=>exact⟨0,aJ _,rfl,S2,a6,0,[],rfl,G2⟩
 case round=>
  obtain⟨O,ht,rfl,ca,R,ky,xs,rfl,cb⟩:=hrel;have lt:=cb.lt;have zs:=ca.size;by_cases bs:O<f
  . have bc:(O:Int)<f:=om;go_wp2_with fail;refine (@rt wr).mono ?_;rintro e y ⟨u2,rfl,R2,s4⟩;obtain⟨a2,n2,c2,b2,m2,d2,-,-,-,-,-,-,e2,-⟩:=id R2;subst e2;have sV:=cV y (.o #[.bool (qn (1:Rat)),.l a2 n2 c2,.l b2 m2 d2] 83);have QV:dQ (y.alloc (.o #[.bool (qn (1:Rat)),.l a2 n2 c2,.l b2 m2 d2] 83)) (fun G=>wr.heap.size<=G) (jp y.heap.size 0) y.heap.size 0 1 (fun _=>1):=(show ML KQ _ _ _ _ _ ((List.range 1).map fun _=>(1:Rat)) from ML.one KQ.ok (c:=[.bool (qn (1:Rat)),.l a2 n2 c2,.l b2 m2 d2]) (x:=(1:Rat)) ⟨_,_,rfl,R2⟩ 83).fn;have JP:=@ti ((b8+O:Nat):Int) (jp y.heap.size 0) y.heap.size 0 1 1 _ (fun _=>1) _ QV om om om;rw[show (List.range 1).map (fun _:Nat=>(1:Rat))=[1] from rfl] at JP;have a9:=aR (ie (fun (e:Nat)=>cL ((b8+e:Nat):Int) [1]) O);generalize am:cL ((b8+O:Nat):Int) [1]=pl at*;have bj:=aR am;clear am QV;go_wp2_with fail;generalize y.alloc _=wV at*;refine JP.mono ?_;rintro e w8 ⟨c8,k8,x8,rfl,cc,s8⟩;have z2:=s4.size;have zV:=sV.size;have z8:=s8.size;have b5:=cc.lt;have a5:=cc.cap;have T8:=(s4.tr sV).trans (sM s8 (s4.tr sV).size);have GR:=cb.bH KR.ok T8;have M8:=cc.ml KT.ok;have sX:=cV w8 (.o #[.s c8 pl.length k8] 163);have zX:=sX.size;go_wp2_with (at_builtin;refine kv ?_);intro _;refine jg (m:=1) KR.ok (GR.bH KR.ok sX) qz (ML.one (p:=fun z=>w.heap.size<=z/\z≠R) KR.ok (c:=[.s c8 pl.length k8]) (x:=pl) ⟨_,c8,0,k8,rfl,a5,fun _=>⟨om,om⟩,M8.imp KT.ok (fun z _ a3=>by have:=a3.1;exact⟨om,om⟩)⟩ 163) rfl rfl _ _ rfl rfl rfl om ?_;rintro c' k' C ⟨⟨bh,G'⟩,gr,bo,bw⟩;go_wp2;go_roundw
    case rel=>exact⟨O+1,om,by go_num,eI (ca.tr (T8.trans (sM sX T8.size))) gr lt.1 om,c',k',bh,rfl,by rw[a9.out];exact G'⟩
    case measure=>exact yI
  . have et:O=f:=om;subst et;have bc:¬(O:Int)<O:=om;have W:=S.bH ca;obtain⟨xa,ae⟩:=W.A;have JS:=@eX bl G HE.out n a A B m c d k i j l u b t o O g p T ba oa U (X r) (NT bm.FB bl b u) P (fun z=>¬bm.FB z) X M b6 xa wr W.L ao W.Z W.N (MA.bH KR.ok ca) af.out au HK.out a0.out (fun z h=>⟨h.1,h.2.2.1,h.2.2.2⟩) (fun z a3 h=>by have:=(W.fb z h).2.1;omega) ae W.z3 W.v1 hm ar (by rw[ai.out];exact az.out) a7 hA;have Gi:=cb.imp KR.ok (P':=fun z=>w.heap.size<=z/\z<wr.heap.size) (fun z a3 h=>⟨h,a3⟩);have bq:=S.L.B.lt;have ac:=fun (aj:Nat) (h:u.ownBlock=some aj)=>(S.vlt h).2;clear ae;go_wp2_with fail;refine JS.mono ?_;intro e w5 R5;obtain⟨rfl,ak,ay,M',bp,S5,g5,bb⟩:=W.stp R5 (ez (aU (by rw[af.out];exact au) (en G t X (X r))) ar);clear JS R5;have G5:=Gi.gr KR.ok g5 (fun aj hb h=>by
     simp[Value.ownBlock] at hb;rcases h with h | h
     . omega
     . have:=ac _ h;omega) (fun z _ a3 h=>by
     rcases h with h | h
     . omega
     . have:=ac _ h;omega)
    have nt:∀z,w.heap.size<=z->z<wr.heap.size->NT bm.FB bl ak ay z:=fun z h1 h2=>⟨om,om,fun e=>by
     rcases bb z e with h | h
     . have:=ac _ h;omega
     . omega,fun e=>by have:=(S.fb z e).2.1;omega⟩
    obtain⟨w6,b3,S6⟩:=S5.put (i:=t) (by have:=HI.out;omega) (n:=O) qz G5.cap ((G5.ml KR.ok).imp KR.ok (fun z _ h=>nt z h.1.1 h.1.2)) (fun _=>nt R om om);have bn:=S5.L.B.c9;have a1:=aR S6;clear S6 nt;go_wp2;go_end0;rw[ai.out];exact⟨rfl,ak,ay,_,a1.out⟩
structure Tw(w wr:World)(P0 P1:Nat->Prop)(c1 k1 c2 k2:Nat)(A B:List Row):Prop where
 s:w.Since w.heap.size wr
 n:c1≠c2
 h0:∀q,P0 q->q<w.heap.size
 h1:∀q,P1 q->q<w.heap.size
 G1:∃xs,GL KR (fun q=>P0 q∨(w.heap.size<=q/\q≠c2)) wr w.heap.size (.slice (some ⟨c1,0,none⟩) A.length k1) A xs
 G2:∃xs,GL KR (fun q=>P1 q∨(w.heap.size<=q/\q≠c1)) wr w.heap.size (.slice (some ⟨c2,0,none⟩) B.length k2) B xs
section
variable{w wr w1 w2:World}{P0 P1:Nat->Prop}{c1 k1 c2 k2:Nat}{A B:List Row}
theorem Tw.lt(I:Tw w wr P0 P1 c1 k1 c2 k2 A B):w.heap.size<=c1/\c1<wr.heap.size/\w.heap.size<=c2/\c2<wr.heap.size:=by
 obtain⟨x,G⟩:=I.G1;obtain⟨y,a⟩:=I.G2;exact⟨G.lt.1,G.lt.2,a.lt.1,a.lt.2⟩
theorem Tw.sym(I:Tw w wr P0 P1 c1 k1 c2 k2 A B):Tw w wr P1 P0 c2 k2 c1 k1 B A:=⟨I.s,I.n.symm,I.h1,I.h0,I.G2,I.G1⟩
theorem Tw.bH(I:Tw w wr P0 P1 c1 k1 c2 k2 A B)(a:wr.S w1):Tw w w1 P0 P1 c1 k1 c2 k2 A B:=by
 obtain⟨x,G⟩:=I.G1;obtain⟨y,b⟩:=I.G2;exact⟨I.s.trans (sM a I.s.size),I.n,I.h0,I.h1,⟨x,G.bH KR.ok a⟩,⟨y,b.bH KR.ok a⟩⟩
theorem Tw.app(I:Tw w w1 P0 P1 c1 k1 c2 k2 A B){m c' k':Nat}{L':List Row}(hm:L'.length=m)(AP:Apd KR (fun q=>P0 q∨(w.heap.size<=q/\q≠c2)) w1 w.heap.size c1 A.length m (A++L') c' k' w2):Tw w w2 P0 P1 c' k' c2 k2 (A++L') B:=by
 obtain⟨⟨xs',G'⟩,gr,hat,hlt⟩:=AP;obtain⟨y,G⟩:=I.G2;have g1:=Gr.gb gr;have l:=I.lt;have n:=I.n;have hz:=I.s.size;refine⟨Gr.since I.s g1 (fun q h=>by omega) hz,om,I.h0,I.h1,⟨xs',by rw[aT,hm];exact G'⟩,⟨y, ?_⟩⟩;have k1:=G.imp KR.ok (P':=fun q=>(P1 q/\q<w.heap.size)∨(w.heap.size<=q/\q≠c1/\q≠c')) (fun q hq h=>by
  rcases h with h | h
  . exact .inl ⟨h,I.h1 q h⟩
  . exact .inr ⟨h.1,h.2,om⟩)
 exact (k1.gr KR.ok g1 (fun b h e=>by simp[Value.ownBlock] at h;omega) (fun q _ h e=>by omega)).imp KR.ok (fun q _ h=>by
  rcases h with h | h
  . exact .inl h.1
  . exact .inr ⟨h.1,h.2.2⟩)
end
theorem af5{bl:Nat}{g:be}(E:iy g){lo:Nat}{aL aH aN:Option Addr}{kL kH kN bd kd bu ku:Nat}{o:Value}{base:Nat}{A:List (Nat×Nat×List Rat×List Rat)}{M:List (Int×Value)}{K:Nat->Prop}(X:Nat->List Row){k i c T nN:Nat}(hi:i=k+1)(ay:(g.N k).a=c)(b:Frm)(S:yZ b w bl g lo aL aH aN kL kH kN bd kd bu ku m n o base A M K X)(hk:k<g.nn)(ka:K c)(az:(X c).length=T)(cl:1<=T)(cm:T<=1000)(a6:(g.N k).nv=1)
 (hK:∀j,j<i->i<bL g j->K j/\(X j).length=vD g j/\∀r∈X j,ic m r)(bb:∀r∈X c,ic m r)(hm:m<=20000)(a0:1<=m)(a1:ga g i i+2*T=nN)(b1:nN<=20000)(hA:A.length<=1000000):
 Cl 111 #[.p bl 0,.i (i:Int)] w (StK b bl g lo aL aH aN kL kH kN bd kd bu ku i nN base (A++[zh (wQ g i X (nL (X c))) m]) ((List.range T).map fun e=>cL ((ga g i i+2*e:Nat):Int) [1,-(g.N k).w 0])):=by
 have cn:=E.head.n;obtain⟨aa,ba,oa,v,ca,va,cc,ct,MA,pA⟩:=S.N.at_ c ka;have b4:v=T:=om;subst b4;have HK:=aR hK;have ad:=aR bb;have al:=aR a1;have W:=aR az;have JD:=cU E hi S.L S.e hk;rw[ay,a6] at JD;clear hK bb a1 az cc;have HE:=aR E;have HI:=aR hi;have ax:i<=g.nn:=om;have dr:∀s:World,s.S s.drew:=fun s=>(aF s.heap.size s).drew;have bi:=aR (show ∀s,jm s n M->(Instr.lookup 107 (.map (some n)) (.i (c:Int)) false).run Tryz.prog s=.ok (.l aa v ca) s from fun s hZ=>by
  have:=hZ.look (P:=Tryz.prog) (mty:=107) (kt:=3) (et:=118) (zv:=.n) underlying107 underlying3 kr false (z:=(c:Int));rw[show ((iN (c:Int) M).map Prod.snd).getD (.n)=.l aa v ca from by show (ql (c:Int) M).getD _=_;rw[va];rfl] at this;exact this)
 clear hi ay E a6;have cj:=S.L.B.lt;have ag:=fun (ab:Nat) (h:o.ownBlock=some ab)=>(S.vlt h).2;have E0:=aR S.e.s;have zE:=S.e.s.size;generalize a7:(g.N k).w 0=d at*;have bo:=aR a7;clear a7;go_enter func111,ntmps111;go_wp2_with fail;refine JD.mono ?_;rintro e p ⟨a3,F,B,k3,rfl,ck,QV,s3⟩;clear JD;obtain⟨bs,xb,yb,C⟩:=QV 0 om;subst bs;obtain⟨a8,n8,c8,b8,m8,d8,-,-,-,-,-,-,ea,-⟩:=C.R;simp only[ag3,fM] at ea;obtain⟨rfl,rfl⟩:=ea;rw[bo.out,show B+0*3=B from rfl] at C;obtain⟨a,e5⟩:∃ai,ai=p.alloc (.o #[.i (g.N k).op,.i (c:Int),.i (g.N k).b,.i (g.N k).k,.i (g.N k).s,.l (jp F B) 1 k3] 87):=⟨_,rfl⟩;have s5:p.S a:=by rw[e5];exact (aF p.heap.size p).alloc zR _
 have N:dL a p.heap.size (.i (g.N k).op) (.i (c:Int)) (.i (g.N k).b) (.i (g.N k).k) (.i (g.N k).s) (.l (jp F B) 1 k3):=by rw[e5];exact dL.new _ _ _ _ _ _ _ _
 obtain⟨w6,e6⟩:∃ai,ai=(a.alloc (.o #[] 163)).alloc (.o #[] 163):=⟨_,rfl⟩;have sA:=cV a (.o #[] 163);have zA:(a.alloc (.o #[] 163)).heap.size=a.heap.size+1:=by simp
 have sB:=(aF _ (a.alloc (.o #[] 163))).alloc zR (.o #[] 163);have S5:=s3.tr s5;have z5:=S5.size;have s6:a.S w6:=by rw[e6];exact sA.tr sB
 have T6:Tw a w6 (fun q=>NT b.FB bl n o q/\q<w.heap.size) (fun q=>q<b.w0.heap.size) a.heap.size 0 (a.heap.size+1) 0 [] []:=by
  rw[e6];refine⟨by rw[<-e6];exact s6,om,fun q h=>by omega,fun q h=>by omega,⟨[], ?_⟩,⟨[], ?_⟩⟩
  . have h:=(GL.new KR (fun q=>(NT b.FB bl n o q/\q<w.heap.size)∨(a.heap.size<=q/\q≠a.heap.size+1)) a).bH KR.ok sB;exact h
  . have h:=GL.new KR (fun q=>q<b.w0.heap.size∨(a.heap.size<=q/\q≠a.heap.size)) (a.alloc (.o #[] 163));rw[zA] at h;exact⟨h.own.mono om,h.at_⟩
 have S6:=S5.tr s6;have B6:=N.bH s6;have lB:=N.lt;have z6:=s6.size;have z3:=s3.size;have lC:=C.lt;have JW:=pu HE.out (S.L.bH S6) ax;have aj:=aR (show a.heap.size=p.heap.size+1 by rw[e5];simp);have E5:=aR e5;have E6:=aR e6;clear e5 e6;go_wp2_with fail;rw[<-E5.out,<-E6.out];refine JW.mono ?_;rintro e w7 ⟨rfl,s7⟩;clear JW;have T7:=T6.bH s7;have B7:=B6.bH s7;have z7:=s7.size;have S7:=S6.tr s7;have c9:=(S.L.bH S7).B.c9;have p1:=B7.c1;have lk:=bi.out w7.drew ((S.Z.bH S7).bH (dr _));have cq:ga g i i<=20000:=by have:=al.out;omega
 have bj:=aR (show ga g i i+2*v=nN from al.out);generalize av:ga g i i=l at*;have am:=aR av;clear av;go_wp2_with fail;go_region;all_goals go_wp2_with fail
 have u:b.w0.Since b.w0.heap.size a:=E0.out.trans (sM S5 E0.out.size);have cv:=u.size;go_loopw [5,6,26] (fun cd bf q wr=>∃t:Nat,t<=v/\q=.i (t:Int)/\∃G ko H ky f,cd=.s G f ko/\bf=.s H t ky/\f=2*t/\Tw a wr (fun q=>NT b.FB bl n o q/\q<w.heap.size) (fun q=>q<b.w0.heap.size) G ko H ky (nL ((X c).take t)) ((List.range t).map fun e=>cL ((l+2*e:Nat):Int) [1,-d])) (fun _ _ q _=>v-(intOf q).toNat)
 case atStart=>exact⟨0,aJ _,rfl,p.heap.size+1,0,p.heap.size+1+1,0,0,by first | rfl | rw[aj.out],by first | rfl | rw[aj.out],rfl,by rw[<-aj.out];exact (T6.bH s7).bH (dr _)⟩
 case round=>
  obtain⟨t,ht,rfl,G,ko,H,ky,f,rfl,rfl,a4,I⟩:=hrel;have O:=aR a4;have cp:f<=2000:=om;clear a4;have lt:=I.lt;have zs:=I.s.size;have Sr:=S5.trans (sM I.s S5.size);by_cases b0:t<v
  . have cb:(t:Int)<v:=om;obtain⟨r,R⟩:∃r,(X c)[t]?=some r:=⟨_,aK (by rw[W.out];exact b0)⟩;obtain⟨eA,_,⟨aA,bA,oA,kA,rfl,bz,af,bp⟩,aw⟩:=((MA.imp KR.ok (p':=fun q=>NT b.FB bl n o q/\q<w.heap.size) (fun q z hp=>⟨hp,z⟩)).bH KR.ok Sr) t r R;have cA:=aw 0 _ rfl;rw[show oa+t*KR.sz+0=oa+t by show oa+t*1+0=_;omega] at cA;subst eA;have cs:r.length<=20001:=(by have:=(ad.out r (cO R)).len;omega);have bg:=aR (ady R);clear R aw;generalize a5:r.length=L at*;have x:=aR a5;clear a5;have Id:=I.bH (dr wr);have zd:wr.drew.heap.size=wr.heap.size:=rfl;have dB:=(N.bH Id.s).c5;have dC:=C.bH (u.trans (sM Id.s u.size));have d0:=dC.c0;have d1:=dC.c1;have cf:=dC.c2;have J1:=@rt wr.drew;have b9:IntKind.i64.wrap ((l:Int)+(f:Int))=(l:Int)+(f:Int):=fO om om;have an:=aR (show cL ((l+2*t:Nat):Int) [1,-d]=cL ((l+f:Nat):Int) [1,-d] by rw[O.out]);have b6:=aR (ie (fun (e:Nat)=>cL ((l+2*e:Nat):Int) [1,-d]) t);go_wp2_with fail
    go_region_held3 (fun U=>U.cell? (jj p.heap.size 5)=some (.l (jp F B) 1 k3)/\U.cell? (jj F B)=some (.bool (qn d))/\U.cell? (jj F (B+1))=some (.l a8 n8 c8)/\U.cell? (jj F (B+2))=some (.l b8 m8 d8)) (go_keep)
     (first
       | (go_at_call 108;(with_reducible refine J1.mono ?_);rintro e wa ⟨ua,rfl,Ra,sa⟩;obtain⟨a2,n2,c2,b2,m2,d2,-,-,-,-,-,-,e2,-⟩:=id Ra;subst e2;have Ia:=Id.bH sa;have pB:=(N.bH Ia.s).c5;have pC:=C.bH (u.trans (sM Ia.s u.size));have p0:=pC.c0;have p1:=pC.c1;have p2:=pC.c2;have J2:=pm pC.R)
       | (go_at_call 149;(with_reducible refine J2.mono ?_);rintro e V ⟨rfl,sb⟩;have Ib:=Ia.bH sb;have qB:=(N.bH Ib.s).c5;have qC:=C.bH (u.trans (sM Ib.s u.size));have q0:=qC.c0;have q1:=qC.c1;have q2:=qC.c2;have za:=sa.size;have zb:=sb.size;have sV:=cV V (.o #[.bool (qn (1:Rat)),.l a2 n2 c2,.l b2 m2 d2,.bool (qn (-d)),.l a8 n8 c8,.l b8 m8 d8] 83);have Iv:=Ib.bH sV;have zV:=sV.size;have ao:dQ (V.alloc (.o #[.bool (qn (1:Rat)),.l a2 n2 c2,.l b2 m2 d2,.bool (qn (-d)),.l a8 n8 c8,.l b8 m8 d8] 83)) (fun q=>q<b.w0.heap.size∨wr.heap.size<=q) (jp V.heap.size 0) V.heap.size 0 2 (fun t=>if t=0 then 1 else-d):=(show ML KQ _ _ _ _ _ ((List.range 2).map fun t=>if t=0 then (1:Rat) else-d) from ML.two KQ.ok (c:=[.bool (qn (1:Rat)),.l a2 n2 c2,.l b2 m2 d2]) (d:=[.bool (qn (-d)),.l a8 n8 c8,.l b8 m8 d8]) (x:=(1:Rat)) (y:=-d) ⟨_,_,rfl,(Ra.bH sb).imp (fun q _ h=>.inr om)⟩ ⟨_,_,rfl,qC.R.flip.imp (fun q _ h=>.inl h)⟩ 83).fn;have Z:=@ti ((l+f:Nat):Int) (jp V.heap.size 0) V.heap.size 0 2 2 _ (fun t=>if t=0 then 1 else-d) _ ao om om om;rw[show (List.range 2).map (fun t:Nat=>if t=0 then (1:Rat) else-d)=[1,-d] from rfl] at Z;generalize bw:cL ((l+f:Nat):Int) [1,-d]=pl at Z an;clear bw;rw[show ((l+f:Nat):Int)=l+(f:Int) from rfl] at Z)
       | (go_at_call 107;(with_reducible refine Z.mono ?_);rintro e w8 ⟨cP,kP,xP,rfl,GP,s8⟩;have I8:=Iv.bH s8;have yB:=(N.bH I8.s).c5;have yC:=C.bH (u.trans (sM I8.s u.size));have y0:=yC.c0;have y1:=yC.c1;have y2:=yC.c2;have z8:=s8.size;have lP:=GP.lt;have bq:=GP.cap;have MP:=GP.ml KT.ok;have sX:=cV w8 (.o #[.s cP pl.length kP] 163);have I9:=I8.bH sX;have z9:=sX.size;obtain⟨xy,D⟩:=I9.G2;rw[show ((List.range t).map fun e=>cL ((l+2*e:Nat):Int) [1,-d]).length=t by simp] at D)
       | (refine mr (m:=1) KR.ok D qz (ML.one (p:=fun q=>(q<b.w0.heap.size∨(a.heap.size<=q/\q≠G))/\q≠H) KR.ok (c:=[.s cP pl.length kP]) (x:=pl) ⟨_,cP,0,kP,rfl,bq,fun _=>⟨.inr ⟨om,om⟩,om⟩,MP.imp KT.ok (fun q _ z=>by rcases z.1 with h | h;exact⟨.inl h,om⟩;exact⟨.inr ⟨om,om⟩,om⟩)⟩ 163) rfl rfl _ _ rfl rfl rfl om ?_
          intro c' k' wY AP;have b5:p.heap.size≠H:=om;have ae:F≠H:=om;have P:=AP.2.1;have x5:=cK P yB b5;have x0:=cK P y0 ae;have x1:=cK P y1 ae;have x2:=cK P y2 ae))
    have Y:=(I9.sym.app (m:=1) (L':=[pl]) rfl (by rw[show ((List.range t).map fun e=>cL ((l+2*e:Nat):Int) [1,-d]).length=t by simp];exact AP)).sym;have mv:∀q,q<w.heap.size->wY.heap[q]?=wr.heap[q]?:=fun q z=>(Y.s.block q om).trans (I.s.block q om).symm;have zY:wr.heap.size<=wY.heap.size:=(by have:=P.size;omega);have MU:=bp.move KT.ok zY (fun h=>mv _ (af (by rw[x.out] at h;exact h)).2) (fun q _ h=>mv q h.2);have JN:=@uT aA bA oA L kA (fun q=>NT b.FB bl n o q/\q<w.heap.size) r wY MU x.out om;have Q:(nL ((X c).take t)).length=f:=(by rw[tb,jR,O.out];have:=W.out;omega);have ac:=aR Q;clear Q AP P D MP GP I9 I8 Iv Ib Ia Id I x5 x0 x1 x2 yB y0 y1 y2 yC qB qC q0 q1 q2 pB pC p0 p2 ao Z J2 J1 b9;all_goals go_wp2_with fail
    refine JN.mono ?_;rintro e' wN ⟨cX,kX,xX,rfl,GX,ah⟩;clear JN;have IN:=Y.bH ah;have zN:=ah.size;have lX:=GX.lt;have br:=GX.cap;have MX:=GX.ml KT.ok;have sQ:=cV wN (.o #[.l aA L kA,.s cX L kX] 163);have IQ:=IN.bH sQ;obtain⟨xn,GN⟩:=IQ.G1;rw[ac.out] at GN;have lY:=Y.lt;have cw:=Y.s.size;go_wp2_with (at_builtin;refine kv ?_);intro _;refine jg (m:=2) KR.ok GN ac.out (ML.two (p:=fun q=>((NT b.FB bl n o q/\q<w.heap.size)∨(a.heap.size<=q/\q≠c'))/\q≠G) KR.ok (c:=[.l aA L kA]) (d:=[.s cX L kX]) (x:=r) (y:=jz r) ⟨aA,bA,oA,kA,by rw[x.out],by rw[x.out];exact bz,fun h=>⟨.inl (af (by rw[x.out] at h;exact h)),by have:=(af (by rw[x.out] at h;exact h)).2;omega⟩,((MU.bH KT.ok ah).imp KT.ok (fun q _ h=>⟨.inl h,om⟩))⟩ ⟨_,cX,0,kX,by rw[show (jz r).length=L by unfold jz;rw[bS];exact x.out],by rw[show (jz r).length=L by unfold jz;rw[bS];exact x.out];exact br,fun _=>⟨.inr ⟨om,om⟩,om⟩,MX.imp KT.ok (fun q _ h=>⟨.inl h.1,by have:=h.1.2;omega⟩)⟩ 163) rfl rfl _ _ rfl rfl rfl om ?_;intro ar a9 U AQ;have IA:=IQ.app (m:=2) (L':=[r,jz r]) rfl (by rw[ac.out];exact AQ)
    have bh:=aR (show Tw a U (fun q=>NT b.FB bl n o q/\q<w.heap.size) (fun q=>q<b.w0.heap.size) ar a9 c' k' (nL ((X c).take (t+1))) ((List.range (t+1)).map fun e=>cL ((l+2*e:Nat):Int) [1,-d]) by
     rw[bg.out,b6.out,an.out];exact IA)
    clear IA IQ IN Y AQ GN MX GX MU;go_wp2;go_roundw
    case rel=>exact⟨t+1,om,by go_num,ar,a9,c',k',f+2,rfl,rfl,by have:=O.out;omega,bh.out⟩
    case measure=>exact yI
  . have et:t=v:=om;subst et;have cb:¬(t:Int)<t:=om;have y:=S.bH Sr;obtain⟨xa,ak⟩:=y.A;have fx:(X c).take t=X c:=dV (by rw[W.out];exact aC _);rw[fx] at I;obtain⟨xo,GO⟩:=I.G1;obtain⟨xy,D⟩:=I.G2;have Q:(nL (X c)).length=f:=(by rw[tb,W.out,O.out]);rw[Q] at GO;rw[show ((List.range t).map fun e=>cL ((l+2*e:Nat):Int) [1,-d]).length=t by simp] at D;have MO:=(GO.ml KR.ok).imp KR.ok (p':=NT b.FB bl n o) (fun q _ h=>by
     rcases h.1 with h | h
     . exact h.1
     . exact S.new om)
    have JS:=@eX bl g HE.out lo aL aH aN kL kH kN bd kd bu ku o n i m f nN base (jp G 0) G 0 ko (nL (X c)) (NT b.FB bl n o) K (fun q=>¬b.FB q) X M A xa wr y.L ax y.Z y.N MO Q (by have:=O.out;omega) HK.out (fun r R=>by
     obtain⟨bf,hy,h⟩:=iK.1 R;simp only[fW,jA,qO] at h;rcases h with rfl | rfl
     . exact ad.out _ hy
     . exact bN (ad.out _ hy)) (fun q h=>⟨h.1,h.2.2.1,h.2.2.2⟩) (fun q z h=>by have:=(y.fb q h).2.1;omega) ak y.z3 y.v1 hm a0 (by rw[am.out];have:=bj.out;have:=O.out;omega) b1 hA
    have Gi:=D.imp KR.ok (P':=fun q=>(q<b.w0.heap.size∨a.heap.size<=q)/\q<wr.heap.size) (fun q z h=>⟨by rcases h with h | h;exact .inl h;exact .inr h.1,z⟩);have cg:=S.e.l;have au:=fun (ab:Nat) (h:o.ownBlock=some ab)=>(S.vlt h).1;have ch:=S.z2;clear ak GO D MO I Q fx;go_wp2_with fail;refine JS.mono ?_;intro e w8 R8;obtain⟨rfl,aq,bc,M',ci,S8,g8,b7⟩:=y.stp R8 (ez (aU (by rw[tb,W.out];omega) (en g i X (nL (X c)))) a0);clear JS R8;have cu:=Gi.lt;have G8:=Gi.gr KR.ok g8 (fun ab hb h=>by
     simp[Value.ownBlock] at hb;rcases h with h | h
     . omega
     . have:=ag _ h;omega) (fun q _ z h=>by
     rcases h with h | h
     . omega
     . have:=ag _ h;have:=au _ h;omega)
    have nt:∀q,(q<b.w0.heap.size∨a.heap.size<=q)->q<wr.heap.size->NT b.FB bl aq bc q:=fun q h1 h2=>⟨om,om,fun e=>by
     rcases b7 q e with h | h
     . have:=ag _ h;have:=au _ h;omega
     . omega,fun e=>by have h3:=(S.fb q e).2.1;have h4:=(S.fb q e).1.2.2.2;omega⟩
    obtain⟨w9,cr,S9⟩:=S8.put (i:=i) (by have:=HI.out;omega) (n:=t) qz G8.cap ((G8.ml KR.ok).imp KR.ok (fun q _ h=>nt q h.1.1 h.1.2)) (fun _=>nt H (.inr om) om);have ce:=S8.L.B.c9;have bn:=aR S9;clear S9 nt;go_wp2;go_end0;rw[am.out];exact⟨rfl,aq,bc,_,bn.out⟩
section
variable{w0:Frm}{w w':World}{bl:Nat}{g:be}{lo:Nat}{aL aH aN:Option Addr}{kL kH kN bd kd bu ku:Nat}{m bm:Nat}{vm:Value}{base:Nat}{A:List (Nat×Nat×List Rat×List Rat)}{M:List (Int×Value)}{K:Nat->Prop}{X:Nat->List Row}{t k:Nat}{V:(Nat->Rat)->Nat->Nat->Rat}
theorem yK(E:iy g)(m:t<=(bP g).length):1<=(eS g).getD t 0:=by
 cases t with
 | zero=>exact (E.i9 (j:=0) (aJ _)).1
 | succ s=>
   have a:(bP g)[s]?=some _:=aK om;rw[kx a];obtain⟨h,b,j,f⟩:=pj (cO a);generalize (bP g)[s]'_=x at*;obtain⟨i,c⟩:=x;simp only at h b j f;have d:=E.nd (i:=i-1) om;have k:=(E.i9 (j:=(g.N (i-1)).a.toNat) (by have:=d.ai;omega)).1;have e:=(E.i9 (j:=i) b).1;show 1<=ga g i i+si g i c;unfold si;split
   . omega
   . split
     . omega
     . have l:1<c:=om;have:1*1<=vD g i*(3*(c/2)+2*(c % 2)):=dF e om;omega
theorem ug.map(_:iy g)(H:ug g t k V K X)(f:k<g.nn)(i:fo g (k+1)=true)(m:isStep (g.N k)=true){O:List Row}(c:vz ((eS g).getD t 0) (fun q=>u7 g (V q) 0 (fun _ _=>0) (k+1)) O):amap g t=zh (wQ g (k+1) X O) ((eS g).getD t 0):=by
 refine vz.amap (g:=g) (t:=t) ⟨fun q=> ?_,fun r l=> ?_⟩
 . have d:vz ((eS g).getD t 0) (fun q=>(xV g (k+1)).flatMap fun j=>jt (V q j) (vD g j)) ((xV g (k+1)).flatMap fun j=>nL (X j)):=vz.flat (F:=fun q j=>jt (V q j) (vD g j)) (fun j b=>by
    have a:=mP.1 b;have e:=dU.1 a.1;exact (H.kn j (H.src j om (by have:k+1<bL g j:=(by simpa using a.2);omega))).both)
   rw[H.neu f i m q];exact (d.append c).val q
 . rcases iX.1 l with h | h
   . obtain⟨j,b,h⟩:=iK.1 h;have a:=mP.1 b;have e:=dU.1 a.1;exact ((H.kn j (H.src j om (by have:k+1<bL g j:=(by simpa using a.2);omega))).both).ok r h
   . exact c.ok r h
theorem ug.hK(H:ug g t k V K X):∀j,j<k+1->k+1<bL g j->K j/\(X j).length=vD g j/\∀r∈X j,ic ((eS g).getD t 0) r:=fun j b c=>by
 have a:=H.src j om om;exact⟨a,(H.kn j a).len,(H.kn j a).ok⟩
theorem ug.after(E:iy g)(H:ug g t k V K X)(b:k<g.nn)(a:fo g (k+1)=true)(o:(g.N k).op=2∨(g.N k).op=3){O R:List Row}(m:vz ((eS g).getD t 0) (fun q=>u7 g (V q) 0 (fun _ _=>0) (k+1)) O)
 (i:rP (mD g (k+1,0)) (bT g (k+1)) (bD g (k+1)) (vD g (k+1)) (fun q=>zf g (k+1) 0 q) R){e:Ending}(S:StK w0 bl g lo aL aH aN kL kH kN bd kd bu ku (k+1) (mD g (k+1,0)) base ((List.range t).map (amap g)++[zh (wQ g (k+1) X O) ((eS g).getD t 0)]) R e w'):TkC w0 bl g lo aL aH aN kL kH kN bd kd bu ku k e w':=by
 obtain⟨rfl,l,r,M,S⟩:=S;have p:isStep (g.N k)=true:=by unfold isStep;simp only[jT,fT,jJ];omega
 have c:fQ g k=[(k+1,0)]:=by unfold fQ;rw[aY a,aY o]
 have d:(bP g)[t]?=some (k+1,0):=by have:=uU E b a (j:=0) (s:=(k+1,0)) (by rw[c];rfl);rw[fV,<-H.st] at this;exact this
 rw[<-H.map E b a p m,<-lO (f:=amap g),<-eJ,<-gY,<-kx d] at S
 exact⟨rfl,t+1,l,r,base,M,_,_,_,S.imp (fun j n=>by rcases n with h | h;exact .inl h;exact .inr ⟨om,h.2⟩) (fun _ _=>rfl),ug.behind E b a d om (by
  show t+1=(dH g k++fQ g k).length;rw[c,aT,<-H.st];rfl) (fun _ _ _=>rfl) i⟩
theorem anu(o:(g.N k).op=2∨(g.N k).op=3):mD g (k+1,0)=ga g (k+1) (k+1)+(if (g.N k).op=2 then vD g (g.N k).a.toNat else 2*vD g (g.N k).a.toNat):=by
 unfold mD si;simp only;rw[cF];by_cases h:(g.N k).op=2
 . rw[aY h,aY h]
 . rw[aM h,aM h,aY (o.resolve_left h)]
theorem ug.wide0(E:iy g)(c:jw g<=20000)(H:ug g t k V K X)(d:k<g.nn)(a:fo g (k+1)=true)(o:(g.N k).op=2∨(g.N k).op=3):mD g (k+1,0)<=20000:=by
 have b:(bP g)[t]?=some (k+1,0):=by have:=uU E d a (j:=0) (s:=(k+1,0)) (by unfold fQ;rw[aY a,aY o];rfl);rw[fV,<-H.st] at this;exact this
 rw[<-kx b];exact ru E c (bG.1 b).1
theorem ug.many(E:iy g)(H:ug g t k V K X)(a:k<=g.nn):((List.range t).map (amap g)).length<=1000000:=by
 rw[bS,cT];have b:=H.tl a;have c:=qt E;have d:=E.head.n;omega
theorem an6(E:iy g)(h:jw g<=20000)(a:k<g.nn)(d:fo g (k+1)=true)(o:(g.N k).op=2)(N:NSt w0 w bl g lo aL aH aN kL kH kN bd kd bu ku t k):
 Cl 110 #[.p bl 0,.i ((k+1:Nat):Int)] w (TkC w0 bl g lo aL aH aN kL kH kN bd kd bu ku k):=by
 obtain⟨v,z,u,M,V,K,X,S,H⟩:=N;have c:=E.nd a;have s:=c.a0;have n:=H.ka E a d;have b:=H.kn _ n;have f:=(E.i9 (j:=(g.N k).a.toNat) (by have:=c.ai;omega));have m:=anu (g:=g) (k:=k) (.inl o);rw[aY o] at m;have p:=c.sh.c2 o;have r:=(yp _ _ (E.jS (i:=k+1) a) rfl rfl).1;refine (ahj E X rfl om w0 S a n b.len f.1 f.2 H.hK b.ok (H.small E h (cZ a)) (yK E (H.tl (cZ a))) m.symm (H.wide0 E h a d (.inl o)) (H.many E (cZ a))).mono ?_;intro e A R;refine H.after E a d (.inl o) ?_ ?_ R
 . refine⟨fun q=> ?_,b.ok⟩;rw[b.val q];unfold u7;rw[cF,aY o]
 . rw[p];refine (rP.uM (fun e=>ga g (k+1) (k+1)+e) [1] (fun e y=> ?_) (fun q l=> ?_)).qD (fun q x _=> ?_)
   . show ga g (k+1) (k+1)+e+1<=_;omega
   . simp only[List.mem_singleton] at l;subst l;exact r
   . rw[afR];unfold zf;rw[cF,aY o]
theorem amC(E:iy g)(h:jw g<=20000)(a:k<g.nn)(d:fo g (k+1)=true)(o:(g.N k).op=3)(N:NSt w0 w bl g lo aL aH aN kL kH kN bd kd bu ku t k):
 Cl 111 #[.p bl 0,.i ((k+1:Nat):Int)] w (TkC w0 bl g lo aL aH aN kL kH kN bd kd bu ku k):=by
 obtain⟨y,A,v,M,V,K,X,S,H⟩:=N;have c:=E.nd a;have u:=c.a0;have n:=H.ka E a d;have b:=H.kn _ n;have f:=(E.i9 (j:=(g.N k).a.toNat) (by have:=c.ai;omega));have m:=anu (g:=g) (k:=k) (.inr o);rw[aM om] at m;have p:=c.sh.c3 o;have r:=(yp _ _ (E.jS (i:=k+1) a) rfl rfl).1;have s:=afN E a o;refine (af5 E X rfl om w0 S a n b.len f.1 f.2 (c.sh.f.v3 o) H.hK b.ok (H.small E h (cZ a)) (yK E (H.tl (cZ a))) m.symm (H.wide0 E h a d (.inr o)) (H.many E (cZ a))).mono ?_;intro e B R;refine H.after E a d (.inr o) ?_ ?_ R
 . refine⟨fun q=> ?_,b.both.ok⟩;rw[b.both.val q];unfold u7;rw[cF,aM om,aY o]
 . rw[p];refine (rP.uM (fun e=>ga g (k+1) (k+1)+2*e) [1,-(g.N k).w 0] (fun e z=> ?_) (fun q l=> ?_)).qD (fun q x _=> ?_)
   . show ga g (k+1) (k+1)+2*e+2<=_;omega
   . simp only[fW,jA,qO] at l;rcases l with rfl | rfl
     . exact r
     . exact s
   . rw[ej];unfold zf;rw[cF,aM om,aY o]
end
end Go.Proofs.YtaeieekkddndhaaGreat
