import Derived.Test.YtinihjgnnlemmaaGreatDoorOwnP11
import Derived.Deep.AppendLies
import Derived.WalkLawsBesides
import Derived.Deep.RegionHeldLaw
import Derived.Test.YtinihjgnnlemmaaGreatDoorOwnP27
set_option maxHeartbeats 6400000
set_option maxRecDepth 100000
set_option linter.unusedVariables false
namespace Go.Proofs.YtinihjgnnlemmaaGreatDoor
open Tryz Go.RowKit
variable{w v W V:World}{n m c d k i j l o b p q t r s g h e:Nat}{u U:Value}
def agw(w:World)(base g cap:Nat)(ws:List ByteArray):Prop:=w.ownsRow base 9 1 (.slice (some ⟨g,0,none⟩) ws.length cap) ws.length (ws.map Value.string)
theorem agw.cells{base g n:Nat}{a:List ByteArray}(h:agw w base g n a):(∀(j:Nat) (x:ByteArray),a[j]?=some x->w.cell? (jj g j)=some (.string x))/\base<=g/\g<w.heap.size/\a.length<=n:=by
 have c:= @World.ownsRow.cells _ _ _ _ _ _ _ h;have hl:=h.lt g rfl;refine⟨fun j x d=> ?_,hl.1,hl.2, ?_⟩
 . have b:=c (g:=g) rfl j (.string x) (by rw[cY,d];rfl);rw[Go.WideShapes.add_plain,aZ] at b;exact b
 . obtain⟨_,⟨e,_⟩ | ⟨k,f,i,e,l,hb,m,_⟩⟩:=h
   . simp at e
   . simp only[Value.slice.injEq] at e;obtain⟨_,_,rfl⟩:=e;assumption
theorem afa{P:List ByteArray}{x:ByteArray}(h:P[n]?=some x):(P.take (n+1)).filter (fun p=>decide (0<p.size))=(P.take n).filter (fun p=>decide (0<p.size))++(if 0<x.size then [x] else []):=by
 rw[jE,h,rS];simp only[Option.toList,List.filter_cons,List.filter_nil,mG]
theorem sE{e:TypeId}{b:List Value}(h:w.ownsRow n e m u c b)(s:w.S v):v.ownsRow n e m u c b:=by
 obtain⟨hl,h | ⟨g,i,d,rfl,hb,a,f⟩⟩:=h
 . exact⟨hl,Or.inl h⟩
 . exact⟨hl,Or.inr ⟨g,i,d,rfl,hb,(s.block g (dM.1 a).1).trans a,f⟩⟩
theorem wdR{p:Prop}(h:p:=by
 obtain⟨k,hk,rfl,s2,cp,lp,g,cap,m,rfl,hne,hmk,O⟩:=hrel;by_cases hlt:k<P.length
 . have hlt':(k:Int)<(P.length:Int):=om;obtain⟨x,hx⟩:∃x,P[k]?=some x:=⟨_,aK hlt⟩;have g0:=cp.out k x hx;have hxz:x.size<=s.size:=HZ.out x (cO hx);have tf:=afa hx;by_cases hx0:0<x.size
   . rw[aY hx0] at tf;have TF:=eI tf;have hx1:(0:Int)<(x.size:Int):=om;have hxe:x.toList.isEmpty=false:=by
      rw[Lib.toList_data];cases e:x.data.toList with
      | nil=>rw[Lib.size_eq,e] at hx0;simp at hx0
      | cons _ _=>rfl
     clear tf hx;go_wp2_with (at_builtin;refine wpList_append_own_at _ rfl _ _ 36 rfl w.heap.size 9 i0 (.string ByteArray.empty) 1 16 underlying36 hi hz0 hz1 hz2 rfl qd _ _ _ rfl (O.alloc _) (jj wr.heap.size 0) 1 1 [.string x] rfl rfl (iq _ _ _) (one_one _ rfl) (by unfold maxLen;omega) om (by have:=s2.size;simp;omega) ?_);intro v' w5 hown' hgrow hnn hat;replace hgrow:(wr.alloc (.cells #[.string x] 9)).grownBy w5 (Value.s g m cap).ownBlock:=hgrow;obtain⟨g',capn,rfl,hg1,hg2⟩:=hown'.form om;have sW:=fA wr (.cells #[.string x] 9);have zW:(wr.alloc (.cells #[.string x] 9)).heap.size=wr.heap.size+1:=(by simp);have z5:=hgrow.size;have S5:=(s2.trans (sM sW s2.size)).grown hgrow (by have:=s2.size;omega) (fun q hq=>(O.lt q hq).1);have kb:w5.heap[gP]?=wr.heap[gP]?:=(hgrow.block gP om (by simp[Value.ownBlock];omega)).trans (sW.block gP lp);have C5:Hid (∀(j:Nat) (x:ByteArray),P[j]?=some x->w5.cell? (jj gP j)=some (.string x)):=eI (fun j x h=>(aO (a:=jj gP j) kb).trans (cp.out j x h));have hne5:g'≠gP:=by
      rcases hat with h | h
      . simp[Value.ownBlock] at h;omega
      . simp[Value.ownBlock] at h;omega
     have O5:w5.ownsRow w.heap.size 9 1 (.s g' (m+1) capn) (m+1) (((P.take (k+1)).filter fun p=>decide (0<p.size)).map Value.string):=(by rw[TF.out,eJ];exact hown');clear hnn hat hown' hgrow kb g0;go_wp2;go_roundw
     case rel=>exact⟨k+1,om,by go_num,S5,C5,om,g',capn,m+1,rfl,hne5,om,O5⟩
     case measure=>exact yI
   . rw[aM hx0,iJ] at tf;have O5:wr.ownsRow w.heap.size 9 1 (.s g m cap) m (((P.take (k+1)).filter fun p=>decide (0<p.size)).map Value.string):=(by rw[tf];exact O);have O5:=eI O5;have hx1:¬((0:Int)<(x.size:Int)):=om;have hxe:x.toList.isEmpty=true:=(by rw[Lib.toList_data,List.isEmpty_iff,<-List.length_eq_zero_iff,<-Lib.size_eq];omega);clear tf hx hx0;go_wp2;go_roundw
     case rel=>exact⟨k+1,om,by go_num,s2,cp,lp,g,cap,m,rfl,hne,om,O5.out⟩
     case measure=>exact yI
 . have e:k=P.length:=om;subst e;have O5:agw wr w.heap.size g cap (ja s)/\m=(ja s).length:=by
    rw[List.take_length,<-HW.out] at O;have hm:m=(ja s).length:=(by have:=O.1;rw[bS] at this;omega);subst hm;exact⟨O,rfl⟩
   obtain⟨O5,rfl⟩:=O5;have O5:=eI O5;clear O;go_wp2;go_ret;exact⟨g,cap,rfl,O5.out,s2⟩):p:=h
theorem ajQ{s:ByteArray}{w:World}(M:s.size<=1048576):
 Cl 34 #[.string s,.int .u8 32,.int .u8 32] w fun e b=>∃g cap,e=.returned (.s g (ja s).length cap)/\agw b w.heap.size g cap (ja s)/\w.S b:=by
 obtain⟨i0,hi,hz0,hz1,hz2⟩:=kT c1;have G:=fA w (.cells #[] 9);have F:(w.alloc (.cells #[] 9)).ownsRow w.heap.size 9 1 (.s w.heap.size 0 0) 0 []:=iP w #[] 0 zR (aJ _) rfl;have A:=eI (show (w.alloc (.cells #[] 9)).heap.size=w.heap.size+1 by simp);have HW:Hid (ja s=(jP 32 s).filter fun p=>decide (0<p.size)):=eI rfl;have r:=pm 32 s;obtain⟨P,f⟩:∃P,jP 32 s=P:=⟨_,rfl⟩;have HZ:Hid (∀x∈P,x.size<=s.size):=eI (fun x hx=>xF (by rw[f];exact hx));rw[f] at HW r;have n:=eI f;go_enter func34,ntmps34;go_wp2_with fail;generalize w.alloc _=d at*;have y:Cl 33 #[.string s,.int .u8 32,.int .u8 32] d fun e b=>∃v,e=.returned v/\b.ownsRow d.heap.size 9 1 v (jP 32 s).length ((jP 32 s).map Value.string)/\d.S b:=cf om;refine y.mono ?_;rintro e I ⟨H,rfl,c,l⟩;have c:I.ownsRow d.heap.size 9 1 H P.length (P.map Value.string):=by rw[<-n.out];exact c
 have C:0<P.length:=by rw[<-n.out];exact cc 32 s
 obtain⟨gP,L,rfl,hg1,-⟩:=c.form C;obtain⟨B,K,D,-⟩:=agw.cells c;have o:=eI B;have t:Hid (w.heap.size<gP):=eI (by have:=A.out;omega);have z:=G.tr l;have N:=l.size;have E:=sE F l;go_wp2_with fail;go_loopw [7,9] (fun u i wr=>∃k:Nat,k<=P.length/\i=.i (k:Int)/\w.S wr/\Hid (∀(j:Nat) (x:ByteArray),P[j]?=some x->wr.cell? (jj gP j)=some (.string x))/\gP<wr.heap.size/\∃g cap m,u=.s g m cap/\g≠gP/\m<=k/\wr.ownsRow w.heap.size 9 1 (.s g m cap) m (((P.take k).filter fun p=>decide (0<p.size)).map Value.string)) (fun _ i _=>P.length-(intOf i).toNat)
 case atStart=>exact⟨0,aJ _,rfl,z,o,D,w.heap.size,0,0,rfl,by have:=t.out;omega,aC _,E⟩
 case round=>exact wdR
theorem aiU{s:ByteArray}{w:World}(z:s.size<=1048576):
 Cl 125 #[.string s] w fun e n=>∃g cap,e=.returned (.s g (ja s).length cap)/\agw n w.heap.size g cap (ja s)/\w.S n:=by
 obtain⟨i0,hi,hz0,hz1,hz2⟩:=kT c1;have C:=fA w (.cells #[] 9);have B:(w.alloc (.cells #[] 9)).ownsRow w.heap.size 9 1 (.s w.heap.size 0 0) 0 []:=iP w #[] 0 zR (aJ _) rfl;have y:=eI (show (w.alloc (.cells #[] 9)).heap.size=w.heap.size+1 by simp);have HW:Hid (ja s=(jP 32 s).filter fun p=>decide (0<p.size)):=eI rfl;have r:=pm 32 s;obtain⟨P,b⟩:∃P,jP 32 s=P:=⟨_,rfl⟩;have HZ:Hid (∀x∈P,x.size<=s.size):=eI (fun x hx=>xF (by rw[b];exact hx));rw[b] at HW r;have o:=eI b;clear b;go_enter func125,ntmps125;go_wp2_with fail;generalize w.alloc _=D at*;refine mo (aib z) fun E⟨c,l,d⟩=> ?_;rw[o.out] at c⊢;obtain⟨gP,f⟩:∃g,g=D.heap.size:=⟨_,rfl⟩;rw[<-f] at c l⊢;have t:Hid (w.heap.size<gP):=eI (by have:=y.out;omega);clear f;have v:=C.tr d;have F:=d.size;have A:=sE B d;go_wp2_with fail;go_loopw [3,10] (fun u i wr=>∃k:Nat,k<=P.length/\i=.i (k:Int)/\w.S wr/\Hid (∀(j:Nat) (x:ByteArray),P[j]?=some x->wr.cell? (jj gP j)=some (.string x))/\gP<wr.heap.size/\∃g cap m,u=.s g m cap/\g≠gP/\m<=k/\wr.ownsRow w.heap.size 9 1 (.s g m cap) m (((P.take k).filter fun p=>decide (0<p.size)).map Value.string)) (fun _ i _=>P.length-(intOf i).toNat)
 case atStart=>exact⟨0,aJ _,rfl,v,c,l,w.heap.size,0,0,rfl,by have:=t.out;omega,aC _,A⟩
 case round=>exact wdR
def aq(w:World)(wb:Nat)(v:Value)(ws:List ByteArray):Prop:=
 ∃(a:Option Addr) (off cap:Nat),v=.slice a ws.length cap/\ws.length<=cap/\∀(j:Nat) (x:ByteArray),ws[j]?=some x->a=some ⟨wb,off,none⟩/\w.cell? ⟨wb,off+j,none⟩=some (.string x)
def jt(c:Nat)(w w':World):Prop:=w.grownBy w' (some c)
theorem jt.refl(n:Nat)(w:World):jt n w w:=⟨rfl,rfl,rfl,aC _,fun _ _ _=>rfl⟩
theorem jt.trans(h:jt c w v)(k:jt c v W):jt c w W:=
 ⟨k.os.trans h.os,k.tape.trans h.tape,k.output.trans h.output,aU h.size k.size,fun q b a=>(k.block q (aS b h.size) a).trans (h.block q b a)⟩
theorem jt.of(s:w.S v):jt c w v:=⟨s.os,s.tape,s.output,s.size,fun q a _=>s.block q a⟩
theorem jt.set(h:jt n w v)(m:Nat)(u:Value):jt n w (v.setCell ⟨n,m,none⟩ u):=
 ⟨h.os,h.tape,h.output,by simpa [World.setCell] using h.size,fun q b a=>(fN _ _ _ _ (fun e=>a (by simp[e]))).trans (h.block q b a)⟩
theorem jt.cell(h:jt n w v){a:Addr}(b:w.cell? a=some u)(d:a.block≠n):v.cell? a=some u:=
 (aO (h.block a.block (aG _ _ b) (by simpa using d))).trans b
theorem aq.cA{w w':World}{b:List ByteArray}(h:aq w n u b)(k:w'.heap[n]?=w.heap[n]?):aq w' n u b:=by
 obtain⟨a,f,g,e,hl,c⟩:=h;exact⟨a,f,g,e,hl,fun j x d=>⟨(c j x d).1,(aO (a:=jj n (f+j)) k).trans (c j x d).2⟩⟩
structure ql(w:World)(c bl wb:Nat)(L:List ByteArray)(t:Nat)(ws:List ByteArray):Prop where
 c0:w.cell? ⟨c,0,none⟩=some (.slice (some ⟨bl,0,none⟩) L.length L.length)
 c1:w.cell? ⟨c,1,none⟩=some (.int .i64 (t:Int))
 c2:∃v,w.cell? ⟨c,2,none⟩=some v/\aq w wb v ws
 f:∀k,w.frozen? ⟨c,k,none⟩=false
 ln:∀(j:Nat) (x:ByteArray),L[j]?=some x->w.cell? ⟨bl,j,none⟩=some (.string x)
 ne:bl≠c
 nw:wb≠c
 lw:wb<w.heap.size
 lb:bl<w.heap.size
 tl:t<=L.length
 sz:∀x∈L,x.size<=100000
 wz:∀x∈ws,x.size<=100000
 wl:ws.length<=100001
 ll:L.length<=100001
section
variable{w w':World}{c bl wb t:Nat}{L ws:List ByteArray}
theorem ql.lt(h:ql w c bl wb L t ws):c<w.heap.size:=aG _ _ h.c0
theorem ql.blks(h:ql w c bl wb L t ws)(a:w.heap.size<=w'.heap.size)(g:w'.heap[c]?=w.heap[c]?)(i:w'.heap[bl]?=w.heap[bl]?)(f:w'.heap[wb]?=w.heap[wb]?):ql w' c bl wb L t ws:=by
 obtain⟨v,d,b⟩:=h.c2;refine⟨(aO (a:=jj c 0) g).trans h.c0,(aO (a:=jj c 1) g).trans h.c1,⟨v,(aO (a:=jj c 2) g).trans d,b.cA f⟩,fun k=> ?_,fun j x e=>(aO (a:=jj bl j) i).trans (h.ln j x e),h.ne,h.nw,aS h.lw a,aS h.lb a,h.tl,h.sz,h.wz,h.wl,h.ll⟩;have:=h.f k;unfold World.frozen? at this⊢;rw[g];exact this
theorem ql.aA(h:ql w c bl wb L t ws)(s:w.S w'):ql w' c bl wb L t ws:=h.blks s.size (s.block _ h.lt) (s.block _ h.lb) (s.block _ h.lw)
theorem ql.bR(h:ql w c bl wb L t ws)(s:jt d w w')(a:d≠c)(b:d≠bl)(f:d≠wb):ql w' c bl wb L t ws:=
 h.blks s.size (s.block _ h.lt (by simpa using fun e=>a e.symm)) (s.block _ h.lb (by simpa using fun e=>b e.symm)) (s.block _ h.lw (by simpa using fun e=>f e.symm))
theorem ql.eG(h:ql w c bl wb L t ws){v:Value}{ws':List ByteArray}(f:aq w n v ws')(d:n≠c)(b:n<w.heap.size)(i:∀x∈ws',x.size<=100000)(hl:ws'.length<=100001):ql (w.setCell ⟨c,2,none⟩ v) c bl n L t ws':=by
 obtain⟨u,e,-⟩:=h.c2;have hb:=(jt.refl c w).set 2 v;refine⟨?_, ?_,⟨v, ?_,f.cA (hb.block n b (by simpa using d))⟩,fun k=> ?_,fun j x g=>hb.cell (h.ln j x g) h.ne,h.ne,d,aS b hb.size,aS h.lb hb.size,h.tl,h.sz,i,hl,h.ll⟩
 . rw[lM];exact h.c0
 . rw[lM];exact h.c1
 . exact aQ _ _ _ e
 . simpa using h.f k
theorem ql.setTaken(h:ql w c bl wb L t ws){t':Nat}(b:t'<=L.length):ql (w.setCell ⟨c,1,none⟩ (.i (t':Int))) c bl wb L t' ws:=by
 obtain⟨u,d,a⟩:=h.c2;have hb:jt c w (w.setCell (jj c 1) (.i (t':Int))):=(jt.refl c w).set 1 _;refine⟨?_, ?_,⟨u, ?_,a.cA (hb.block wb h.lw (by simpa using h.nw))⟩,fun k=> ?_,fun j x e=>hb.cell (h.ln j x e) h.ne,h.ne,h.nw,aS h.lw hb.size,aS h.lb hb.size,b,h.sz,h.wz,h.wl,h.ll⟩
 . rw[lM];exact h.c0
 . exact aQ _ _ _ h.c1
 . rw[lM];exact d
 . simpa using h.f k
end
def jl(n:Int):Ending:=.panicked [{ v:=.iface 91 (.agg #[.int .i64 n]),recovered:=false }]
theorem xD{n bl m c:Nat}{L b:List ByteArray}(h:ql w n bl m L c b):
 Cl 82 #[.p n 0] w fun e a=>e=jl c/\a=w:=by
 have d:=h.c1;go_enter func82,ntmps82;go_wp2;exact⟨rfl,rfl,rfl⟩
theorem aq.of{a:List ByteArray}(h:agw w n m c a):aq w m (.s m a.length c) a:=by
 obtain⟨b,e,f,g⟩:=h.cells;exact⟨_,0,c,rfl,g,fun j x d=>⟨rfl,by rw[aZ];exact b j x d⟩⟩
theorem vE(l:ByteArray):(ja l).length<=l.size+1:=aU (qJ _ _) (pm 32 l)
def Nxt(w w':World)(c bl t:Nat)(L:List ByteArray)(e:Ending):Prop:=
 (ip t (L.drop t)=[]/\e=.returned (.bool false)/\∃wb ws',ql w' c bl wb L L.length ws')∨
 ∃n x rest wb,ip t (L.drop t)=(n,x)::rest/\e=.returned (.bool true)/\ql w' c bl wb L n x/\w.heap.size<=wb/\ip n (L.drop n)=rest/\0<x.length
theorem abX{n bl m c:Nat}{L Z:List ByteArray}(h:ql w n bl m L c Z):
 Cl 80 #[.p n 0] w fun e f=>jt n w f/\Nxt w f n bl c L e:=by
 have ad:=h.ll;have S:=eI h.sz;go_enter func80,ntmps80;go_wp2_with fail;go_loopw [] (fun wr=>∃(k z:Nat) (C:List ByteArray),k<=L.length/\ql wr n bl z L k C/\jt n w wr/\Hid (ip c (L.drop c)=ip k (L.drop k))) (fun wr=>L.length-(intOf ((wr.cell? (jj n 1)).getD undef)).toNat)
 case atStart=>exact⟨c,m,Z,h.tl,h,jt.refl n w,eI rfl⟩
 case round=>
  obtain⟨k,z,C,hk,R,B,r⟩:=hrel;have E:=R.c0;have o:=R.c1;by_cases Y:k<L.length
  . have ae:(k:Int)<(L.length:Int):=om;obtain⟨l,hl⟩:∃l,L[k]?=some l:=⟨_,aK Y⟩;have ah:=S.out l (cO hl);have F:=R.ln k l hl;go_wp2_with fail;go_quiet (fail);go_wp2_with fail;have sd:wr.S (wr.drewN nq):=((Same.refl wr).drewN nq).since _;have i:=R.aA sd;have D:=B.trans (jt.of sd);generalize wr.drewN nq=A at*;have E:=i.c0;have o:=i.c1;have F:=i.ln k l hl;have lc:=i.lt;have K:=fun ac (hx:ac∈ja l)=>aU (aeW hx).1 ah;have G:(ja l).length<=100001:=aU (vE l) om;have V:=uB A;have u:=@aiU l A.drew om;obtain⟨a,I⟩:∃a,ja l=a:=⟨_,rfl⟩;rw[I] at u G K;have T:=eI K;have s:=eI I;have P:=eI hl
    go_region_held_law (fun f=>f.cell? (jj n 0)=some (.s bl L.length L.length)/\f.cell? (jj n 1)=some (.i k)/\f.cell? (jj bl k)=some (.string l)) (go_keep)
     (first
       | (go_at_call 125;(with_reducible refine u.mono ?_);rintro e x ⟨g,j,rfl,O,s2⟩;have N:=V.tr s2;have b:=i.aA N;have p0:=b.c0;have p1:=b.c1;have p2:=b.ln k l P.out;obtain⟨ag,H,-⟩:=b.c2;have X:=b.f 2;have M:=O.lt g rfl;have ab:A.heap.size<=g:=M.1;have d:=b.eG (aq.of O) om M.2 T.out G;have k0:=d.c0;have k1:=d.c1;have k2:=d.ln k l P.out;have k3:(x.setCell (jj n 2) (.s g a.length j)).cell? (jj n 2)=some (.s g a.length j):=aQ _ _ _ H))
    all_goals clear E o F p0 p1 p2 H X k0 k1 k2 u
    have Q:jt n w (x.setCell (jj n 2) (.s g a.length j)):=(D.trans (jt.of N)).set 2 _;generalize x.setCell (jj n 2) (.s g a.length j)=y at*;have o:=d.c1;have f1:=d.f 1;have v:=d.setTaken (t':=k+1) om;have p:jt n w (y.setCell (jj n 1) (.i ((k+1:Nat):Int))):=Q.set 1 _;have W:((k+1:Nat):Int)=k+1:=om;rw[W] at v p;have c2:(y.setCell (jj n 1) (.i ((k:Int)+1))).cell? (jj n 2)=some (.s g a.length j):=(by rw[lM];exact k3);have U:(y.setCell (jj n 1) (.i ((k:Int)+1))).cell? (jj n 1)=some (.i ((k:Int)+1)):=aQ _ _ _ o;rcases cQ a.length with t | t
    . have aa:¬((0:Int)<(a.length:Int)):=om;have q:=eI (ahm P.out (by rw[s.out];exact List.length_eq_zero_iff.1 t));go_wp2;go_roundw
      case rel=>exact⟨k+1,g,a,om,v,p,eI (r.out.trans q.out)⟩
      case measure=>rw[U,R.c1];simp[intOf];omega
    . have aa:(0:Int)<(a.length:Int):=om;have q:=eI (ajG P.out (by rw[s.out];intro e;rw[e] at t;simp at t));go_wp2;go_ret;exact⟨p,Or.inr ⟨k+1,a,_,g,by rw[r.out,q.out,s.out],rfl,v,aU D.size ab,rfl,t⟩⟩
  . have e:k=L.length:=om;subst e;have af:¬((L.length:Int)<(L.length:Int)):=om;go_wp2_with fail;go_quiet (fail);go_wp2;go_ret;have sd:wr.S (wr.drewN nq):=((Same.refl wr).drewN nq).since _;exact⟨B.trans (jt.of sd),Or.inl ⟨by rw[r.out];exact al5 zR,rfl,z,C,R.aA sd⟩⟩
def dv(s:ByteArray):Nat->Nat
 | 0=>0
 | k+1=>dv s k*10+(bt s k-48)
theorem ev(n:Nat)(a:48<=n)(b:n<=57):IntKind.u8.wrap ((n:Int)-48)=((n-48:Nat):Int):=by
 have:IntKind.u8.wrap ((n:Int)-48)=((n:Int)-48) % 256:=by simp[IntKind.wrap,IntKind.bits,IntKind.signed]
 rw[this];omega
theorem afk(h:w.Since n v):w.Since n v.drew:=⟨h.os,h.tape,h.output,h.size,h.block⟩
theorem rY{s:ByteArray}{w:World}(hs:s.size<=400)(hd:∀k,k<s.size->48<=bt s k/\bt s k<=57):
 Cl 103 #[.string s] w fun e G=>∃v t B,e=.returned v/\Tr G v t B/\t<=26065/\bv B t=dv s s.size/\w.S G:=by
 have sA:=fA w (.o #[] 4);go_enter func103,ntmps103;go_wp2_with fail;refine (@li 10 _ om).mono ?_;rintro e w1 ⟨aq,F,f,rfl,am,p,ac,s1⟩;have Y:=sA.tr s1;have L:=eI ac;obtain⟨q,r,C,ab,rfl,an,R,ao⟩:=p;go_wp2;go_loopw [3,5] (fun v t wr=>∃(k:Nat) (a:Option Addr) (g n c:Nat) (B:Nat->Bool),k<=s.size/\t=.i k/\v=.l a n c/\n<=c/\n<=65*k+65/\jx wr a g 0 n B/\Hid (0<n->B (n-1)=true)/\Hid (bv B n=dv s k)/\jx wr q r C F f/\w.S wr) (fun _ t _=>s.size-(intOf t).toNat)
 case atStart=>exact⟨0,_,0,0,_,fun _=>false,aJ _,rfl,rfl,aC _,aJ _,fun al hj=>absurd hj om,eI (fun ar=>absurd ar om),eI rfl,R,Y⟩
 case round=>
  obtain⟨k,a,g,n,c,B,hk,rfl,rfl,ad,ah,o,N,i,m,b⟩:=hrel;by_cases x:k<s.size
  . have ag:(k:Int)<(s.size:Int):=om;have hx:=ti x;have af:=hd k x;obtain⟨y,z⟩:∃y,bt s k=y+48:=⟨bt s k-48,om⟩;have M:Hid (dv s (k+1)=dv s k*10+y):=eI (by rw[dv,z,cF]);rw[z] at hx af;have A:y<18446744073709551616:=om;have ak:=gv y A;have ae:((y+48:Nat):Int)-48=(y:Int):=om;have aj:(y:Int)+48-48=(y:Int):=om;have ai:IntKind.u8.wrap (y:Int)=y:=(by have:=ev (y+48) om om;rw[ae] at this;rw[this];omega);have j:=@jK a q g 0 n c r C F ab B f wr.drew om om o m;rw[i.out,L.out] at j;go_wp2_with fail
    go_region_held3 (fun _=>True) (go_keep)
     (first
       | (go_at_call 143;(with_reducible refine j.mono ?_);rintro e w2 ⟨u,t2,c2,H,rfl,m1,m2,V,m3,p2,e2,D⟩;have Z:=(afk b).trans (sM D b.size);have S:=jx.aA (w:=wr.drew) m D;have Q:=@li y w2 A)
       | (go_at_call 66;(with_reducible refine Q.mono ?_);rintro e w3 ⟨x3,t3,I,rfl,m4,⟨h,b3,o3,c3,rfl,m5,W,p3⟩,e3,d⟩;have au:=Z.tr d;have T:=S.aA d;have l:=@wW (jp u 0) h u 0 t2 c2 b3 o3 t3 c3 H I w3 om om (V.aA d) W;rw[e2,e3,<-M.out] at l)
       | (go_at_call 142;(with_reducible refine l.mono ?_);rintro e w4 ⟨g4,t4,c4,K,rfl,m6,m7,X,m8,p4,e4,E⟩;have av:=au.tr E;have U:=T.aA E))
    all_goals
     have O:=eI p4;have P:=eI e4;go_wp2;go_roundw
     case rel=>exact⟨k+1,_,g4,t4,c4,K,om,by go_num,rfl,m6,om,X,O,P,U,av⟩
     case measure=>exact yI
  . have e:k=s.size:=om;subst e;go_wp2;go_ret;exact⟨_,n,B,rfl,⟨a,g,0,c,rfl,ad,o,N.out⟩,om,i.out,b⟩
theorem agQ{s:ByteArray}(m:s.size<=100000):
 Cl 19 #[.string s] w fun e i=>∃c bl,e=.returned (.p c 0)/\ql i c bl bl (jP 10 s) 0 []/\w.heap.size<=c/\w.S i:=by
 have J:=@aib 10 s w om;have hl:=pm 10 s;have d:Hid (∀x∈jP 10 s,x.size<=100000):=eI (fun x a=>aU (xF a) m);obtain⟨P,l⟩:∃P,jP 10 s=P:=⟨_,rfl⟩;rw[l] at J hl d⊢;go_enter func19,ntmps19;go_wp2_with fail;refine mo J fun b⟨k,n,f⟩=> ?_;have g:=fA b (.o #[.s w.heap.size P.length P.length,.i 0,.n] 95);have B:=eS.new b (.s w.heap.size P.length P.length) (.i 0) (.n) 95;go_wp2;go_ret;refine⟨b.heap.size,w.heap.size,rfl,⟨B.c0,B.c1,⟨_,B.c2,none,0,0,rfl,aC _,fun j x h=>by simp at h⟩,B.f,fun j x a=> ?_,om,om,by simp;omega,by simp;omega,aJ _,d.out,fun x h=>by simp at h,qz,om⟩,f.size,f.tr g⟩;exact (g.cell (a:=jj w.heap.size j) n).trans (k.out j x a)
def Need(w w':World)(c bl t:Nat)(L:List ByteArray)(e:Ending):Prop:=
 (ip t (L.drop t)=[]/\e=jl ((L.length:Int)+1))∨
 ∃n x rest wb,ip t (L.drop t)=(n,x)::rest/\e=.returned (.tuple #[])/\ql w' c bl wb L n x/\w.heap.size<=wb/\ip n (L.drop n)=rest/\0<x.length
theorem xI{n bl m c:Nat}{L t:List ByteArray}{w:World}(h:ql w n bl m L c t):
 Cl 50 #[.p n 0] w fun e d=>jt n w d/\Need w d n bl c L e:=by
 have p:=h.ll;go_enter func50,ntmps50;go_wp2_with fail;refine (abX h).mono ?_;rintro e q ⟨B,⟨b,rfl,f,r,R⟩ | ⟨s,x,l,f,b,rfl,R,k,i,j⟩⟩
 . have o:=R.c0;have a:=eI b;go_wp2;exact⟨rfl,B,Or.inl ⟨a.out,rfl⟩⟩
 . have a:=eI b;have g:=eI i;go_wp2;go_end0;exact⟨B,Or.inr ⟨s,x,l,f,a.out,rfl,R,k,g.out,j⟩⟩
theorem ake{n bl m c:Nat}{L r:List ByteArray}(h:ql w n bl m L c r):
 Cl 55 #[.p n 0] w fun e g=>jt n w g/\((ip c (L.drop c)=[]/\e=.returned (.tuple #[]))∨∃i x d,ip c (L.drop c)=(i,x)::d/\e=jl i):=by
 go_enter func55,ntmps55;go_wp2_with fail;refine (abX h).mono ?_;rintro e o ⟨B,⟨b,rfl,j,q,R⟩ | ⟨i,x,d,j,b,rfl,R,s,f,l⟩⟩
 . have a:=eI b;go_wp2;go_end0;exact⟨B,Or.inl ⟨a.out,rfl⟩⟩
 . have a:=eI b;have k:=eI f;go_wp2_with fail;refine (xD R).mono ?_;rintro _ o ⟨rfl,rfl⟩;unfold jl;go_wp2;exact⟨rfl,B,Or.inr ⟨i,x,d,a.out,rfl⟩⟩
theorem dO{n bl m c:Nat}{L i:List ByteArray}(h:ql w n bl m L c i):
 Cl 53 #[.p n 0] w fun e g=>g=w/\((i=[]/\e=.returned (.tuple #[]))∨(i≠[]/\e=jl c)):=by
 obtain⟨v,j,a,o,k,rfl,l,-⟩:=h.c2;go_enter func53,ntmps53;rcases cQ i.length with b | b
 . have f:¬((0:Int)<(i.length:Int)):=om;have d:=eI (List.length_eq_zero_iff.1 b);go_wp2;go_end0;exact⟨rfl,Or.inl ⟨d.out,rfl⟩⟩
 . have f:(0:Int)<(i.length:Int):=om;go_wp2_with fail;refine (xD h).mono ?_;rintro _ w ⟨rfl,rfl⟩;unfold jl;go_wp2;exact⟨rfl,rfl,Or.inr ⟨fun e=>by rw[e] at b;simp at b,rfl⟩⟩
theorem xt{n bl m c:Nat}{L d:List ByteArray}(h:ql w n bl m L c d):
 Cl 81 #[.p n 0] w fun e o=>jt n w o/\((d=[]/\e=jl c)∨∃x r,d=x::r/\e=.returned (.string x)/\ql o n bl m L c r):=by
 have A:=h.wl;have q:=eI h.wz;obtain⟨v,g,a,b,i,rfl,s,k⟩:=h.c2;rcases d with _ | ⟨x,r⟩
 . have g:=g;go_enter func81,ntmps81;go_wp2_with fail;refine (xD h).mono ?_;rintro e C ⟨rfl,rfl⟩;unfold jl;go_wp2;exact⟨rfl,jt.refl n C,Or.inl ⟨qz,rfl⟩⟩
 . obtain⟨rfl,t⟩:=k 0 x rfl;have g:=g;rw[fS] at s A;have t:w.cell? (jj m b)=some (.string x):=t;have D:=h.f 2;have E:(1:Int)<=i:=om;have F:(r.length:Int)+1<=(i:Int):=om;have G:¬((r.length:Int)+1=0):=om;have H:∀y∈r,y.size<=100000:=fun y f=>q.out y (by simp[f]);have p:Hid (∀(j:Nat) (y:ByteArray),r[j]?=some y->w.cell? (jj m (b+1+j))=some (.string y)):=eI (fun j y f=>by
    have:=(k (j+1) y (by simpa using f)).2;rw[show b+1+j=b+(j+1) by omega];exact this)
   have l:=eI H;clear k H;by_cases u:i=1
   . subst u;have z:r=[]:=List.length_eq_zero_iff.1 om;subst z;have R:=h.eG (v:=.l (jp m b) 0 0) (ws':=[]) ⟨_,b,0,rfl,aC _,fun j y f=>by simp at f⟩ h.nw h.lw l.out qz;have B:jt n w (w.setCell (jj n 2) (.l (jp m b) 0 0)):=(jt.refl n w).set 2 _;have g:=g;go_enter func81,ntmps81;go_wp2;go_ret;exact⟨B,Or.inr ⟨x,[],qz,rfl,R⟩⟩
   . have R:=h.eG (v:=.l (jp m (b+1)) r.length (i-1)) (ws':=r) ⟨_,b+1,i-1,rfl,om,fun j y f=>⟨rfl,p.out j y f⟩⟩ h.nw h.lw l.out om;have B:jt n w (w.setCell (jj n 2) (.l (jp m (b+1)) r.length (i-1))):=(jt.refl n w).set 2 _;go_enter func81,ntmps81;go_wp2;go_ret;exact⟨B,Or.inr ⟨x,r,rfl,rfl,R⟩⟩
theorem cL{x y:ByteArray}:x.toList=y.toList↔x=y:=
 ⟨fun h=>mq (by rw[<-Lib.toList_data,<-Lib.toList_data,h]),fun h=>by rw[h]⟩
theorem adq{wd:ByteArray}{n bl m c:Nat}{L i:List ByteArray}{w:World}(h:ql w n bl m L c i):
 Cl 51 #[.p n 0,.string wd] w fun e g=>jt n w g/\(((∀r,i≠wd::r)/\e=jl c)∨∃r,i=wd::r/\e=.returned (.tuple #[])/\ql g n bl m L c r):=by
 go_enter func51,ntmps51;go_wp2_with fail;refine (xt h).mono ?_;rintro e l ⟨B,⟨d,rfl⟩ | ⟨x,r,d,rfl,R⟩⟩
 . unfold jl;go_wp2;exact⟨rfl,B,Or.inl ⟨fun r e=>by rw[d] at e;simp at e,rfl⟩⟩
 . have f:=eI d;by_cases a:x.toList=wd.toList
   . have j:(x.toList==wd.toList)=true:=(by simpa using a);have b:=eI (cL.1 a);go_wp2;go_end0;exact⟨B,Or.inr ⟨r,by rw[f.out,b.out],rfl,R⟩⟩
   . have j:(x.toList==wd.toList)=false:=(by simpa using a);have b:=eI (fun e:x=wd=>a (cL.2 e));go_wp2_with fail;refine (xD R).mono ?_;rintro _ l ⟨rfl,rfl⟩;unfold jl;go_wp2;exact⟨rfl,B,Or.inl ⟨fun k e=>by rw[f.out] at e;simp at e;exact b.out e.1,rfl⟩⟩
def isInt(x:ByteArray):Prop:=lE x=true/\x.size<=6
theorem lm{s:ByteArray}(h:lE s=true):∀k,k<s.size->48<=bt s k/\bt s k<=57:=by
 unfold lE at h;simp only[fT,mG] at h;exact h.1
theorem ug{x:ByteArray}(a:∀j,j<k->48<=bt x j/\bt x j<=57):dv x k<10^k:=by
 induction k with
 | zero=>simp[dv]
 | succ k ih=>
   have b:=ih (fun j d=>a j om);have c:=a k om;rw[dv,iH];omega
theorem mF{x:ByteArray}(h:isInt x):dv x x.size<=999999:=by
 have b:=ug (x:=x) (k:=x.size) (fun j a=>lm h.1 j a);have c:10^x.size<=10^6:=dP om h.2;omega
theorem zT{n bl m c:Nat}{L p:List ByteArray}{w:World}(h:ql w n bl m L c p):
 Cl 52 #[.p n 0] w fun e C=>jt n w C/\(((∀x r,p=x::r->¬isInt x)/\e=jl c)∨∃x r,p=x::r/\isInt x/\e=.returned (.i (dv x x.size:Nat))/\ql C n bl m L c r):=by
 have H:=eI h.wz;go_enter func52,ntmps52;go_wp2_with fail;refine (xt h).mono ?_;rintro e U ⟨B,⟨a,rfl⟩ | ⟨x,r,a,rfl,R⟩⟩
 . unfold jl;go_wp2;exact⟨rfl,B,Or.inl ⟨fun x r e=>by rw[a] at e;simp at e,rfl⟩⟩
 . have ag:=H.out x (by rw[a];simp);have f:=eI a;clear a;by_cases q:x.size<=6
   . have I:¬((6:Int)<(x.size:Int)):=om;go_wp2_with fail;refine mo (ud om) fun D T=> ?_;have A:U.S D:=T.since _;have o:=R.aA A;have l:=B.trans (jt.of (c:=n) A);cases hd:lE x
     . have F:=eI hd;go_wp2_with fail;refine (xD o).mono ?_;rintro e W ⟨rfl,rfl⟩;unfold jl;go_wp2;have O:∀d g,p=d::g->¬isInt d:=fun d g e b=>by
        rw[f.out] at e;simp at e;rw[<-e.1] at b;have s:=b.1;rw[F.out] at s;cases s
       exact⟨rfl,l,Or.inl ⟨O,rfl⟩⟩
     . have G:Hid (isInt x):=eI ⟨hd,q⟩;have M:=lm hd;have t:=eI M;go_wp2_with fail;go_loopw [4,20] (fun v i wr=>∃k:Nat,k<=x.size/\i=.i k/\v=.i ((dv x k:Nat):Int)/\wr=D) (fun _ i _=>x.size-(intOf i).toNat)
       case atStart=>exact⟨0,aJ _,rfl,rfl,rfl⟩
       case round=>
        obtain⟨k,Z,rfl,rfl,rfl⟩:=hrel;by_cases u:k<x.size
        . have aa:(k:Int)<(x.size:Int):=om;have Q:=ti u;have S:=t.out k u;obtain⟨y,z⟩:∃y,bt x k=y+48:=⟨bt x k-48,om⟩;have E:Hid (dv x (k+1)=dv x k*10+y):=eI (by rw[dv,z,cF]);rw[z] at Q S;have N:dv x k<=1000000:=by
           have a:=ug (x:=x) (k:=k) (fun j Y=>t.out j om);have X:10^k<=10^6:=dP om om;omega
          obtain⟨V,K⟩:∃V,dv x k=V:=⟨_,rfl⟩;rw[K] at N E⊢;have P:((y+48:Nat):Int)-48=(y:Int):=om;have ac:(y:Int)+48-48=(y:Int):=om;have ab:IntKind.u8.wrap (y:Int)=y:=(by have:=ev (y+48) om om;rw[P] at this;rw[this];omega);have ad:IntKind.i64.wrap ((V:Int)*10)=(V:Int)*10:=(by rw[tR];omega);have ae:IntKind.i64.wrap (y:Int)=y:=(by rw[tR];omega);have af:IntKind.i64.wrap ((V:Int)*10+(y:Int))=(V:Int)*10+(y:Int):=(by rw[tR];omega);go_wp2;go_roundw
          case rel=>exact⟨k+1,om,by go_num,by rw[E.out];simp,qz⟩
          case measure=>exact yI
        . have e:k=x.size:=om;subst e;have ah:¬((x.size:Int)<(x.size:Int)):=om;go_wp2;go_ret;exact⟨l,Or.inr ⟨x,r,f.out,G.out,rfl,o⟩⟩
   . have I:(6:Int)<(x.size:Int):=om;go_wp2_with fail;refine (xD R).mono ?_;rintro _ U ⟨rfl,rfl⟩;unfold jl;go_wp2;exact⟨rfl,B,Or.inl ⟨fun d g e b=>by rw[f.out] at e;simp at e;rw[<-e.1] at b;exact q b.2,rfl⟩⟩
def cv(s:ByteArray)(p:Nat):Nat->Nat
 | 0=>0
 | m+1=>cv s p m*10+(bt s (p+m)-48)
theorem apm(s:ByteArray)(n m:Nat):dv s (n+m)=dv s n*10^m+cv s n m:=by
 induction m with
 | zero=>simp[cv]
 | succ m ih=>
   show dv s (n+m)*10+(bt s (n+m)-48)=_;rw[ih,cv,bI,iH,cS];omega
theorem aqg(s:ByteArray)(n m:Nat)(a:∀k,k<s.size->48<=bt s k/\bt s k<=57)(h:n+m<=s.size):cv s n m<10^m:=by
 induction m with
 | zero=>simp[cv]
 | succ m ih=>
   have b:=ih om;have c:=a (n+m) om;rw[cv,iH];omega
theorem anC(s:ByteArray)(h:n+m<=s.size):(s.extract n s.size).extract m (s.size-n)=s.extract (n+m) s.size:=by
 have a:(s.extract n s.size).size=s.size-n:=pd s om zR;have b:((s.extract n s.size).extract m (s.size-n)).size=s.size-n-m:=pd _ om om;have c:=pd s om zR;refine ame om (fun k d=> ?_);rw[pL _ om,pL _ om,pL _ om,fH]
theorem At1.sinceB{r:Option Nat}(h:At1 n m r v W)(S:w.S v)(g:w.heap.size<=n)(f:∀q,r=some q->w.heap.size<=q):w.S W:=
 ⟨h.os.trans S.os,h.tape.trans S.tape,h.output.trans S.output,aU S.size h.size,fun k a=>(h.block k (aS a S.size) om (fun e=>by have:=f k e.symm;omega)).trans (S.block k a)⟩
theorem pow8(h:i<=8):10^i<=100000000:=aU (dP om h) qd
theorem uF{s:ByteArray}{w:World}(hs:s.size<=400)(Y:∀k,k<s.size->48<=bt s k/\bt s k<=57):
 Cl 172 #[.string s] w fun e L=>∃v g,e=.returned v/\gE L v g (dv s s.size) 402/\w.heap.size<=g/\g<L.heap.size/\w.S L:=by
 have sA:w.S ((w.alloc (.o #[] 133)).alloc (.o #[.s w.heap.size 0 0] 102)):=(fA _ _).alloc qz _;have zA:((w.alloc (.o #[] 133)).alloc (.o #[.s w.heap.size 0 0] 102)).heap.size=w.heap.size+1+1:=by simp
 have ab:((w.alloc (.o #[] 133)).alloc (.o #[.s w.heap.size 0 0] 102)).ownsRow w.heap.size 133 1 (.s w.heap.size 0 0) 0 (ll (fun _=>0) 0):=(iP w #[] 0 zR qd rfl).alloc _;have C:((w.alloc (.o #[] 133)).alloc (.o #[.s w.heap.size 0 0] 102)).cell? (jj (w.heap.size+1) 0)=some (.s w.heap.size 0 0):=by simp
 have D:((w.alloc (.o #[] 133)).alloc (.o #[.s w.heap.size 0 0] 102)).frozen? (jj (w.heap.size+1) 0)=false:=by simp
 have M:=eI Y;clear Y;go_enter func172,ntmps172;go_wp2;generalize ((w.alloc _).alloc _)=wA at*;obtain⟨c,V⟩:∃c,c=w.heap.size+1:=⟨_,rfl⟩;rw[<-V] at C D⊢;have W:c<wA.heap.size:=om;have aq:w.heap.size<c:=om;clear V zA
 go_loopg [0] s.size (fun gk ad wr=>∃(p n:Nat) (v:Value) (X:Nat->Nat),p<=s.size/\Hid (gk=s.size-p)/\ad=.string (s.extract p s.size)/\Hid (p=0∨(s.size-p) % 9=0)/\wr.cell? (jj c 0)=some v/\wr.frozen? (jj c 0)=false/\wr.ownsRow w.heap.size 133 1 v n (ll X n)/\Hid (v≠ .n)/\Hid (v.ownBlock≠some c)/\
  Hid (∀j,j<n->X j<4294967296)/\Hid (0<n->X (n-1)≠0)/\Hid (lv X n=dv s p)/\n<=p/\c<wr.heap.size/\w.S wr)
 case atStart=>exact⟨0,0,_,fun _=>0,aJ _,eI rfl,by rw[Lib.whole_piece],eI (Or.inl rfl),C,D,ab,eI qz,eI (by simp[Value.ownBlock];omega),eI (fun j Z=>absurd Z om),eI (fun h=>absurd h om),eI rfl,aC _,W,sA⟩
 case round=>
  obtain⟨p,n,v,X,hp,HG,rfl,H9,q0,qf,F,N,HC,Q,O,P,a0,ao,B⟩:=hrel;clear ab C D sA W;have aa:(s.extract p s.size).size=s.size-p:=pd s hp zR;have z:=eI (fun m (h:p+m<=s.size)=>anC s h);have o:=eI (fun k (h:k<s.size-p)=>pL s (i:=p) (j:=s.size) h);obtain⟨t,ht⟩:∃t,t=s.extract p s.size:=⟨_,rfl⟩;rw[<-ht] at aa z o⊢;obtain⟨r,G⟩:∃r,r=s.size-p:=⟨_,rfl⟩;rw[<-G] at aa z o;clear ht;by_cases a1:0<r
  . obtain⟨m,hm⟩:∃m,m=(r-1) % 9+1:=⟨_,rfl⟩;have ax:m<=9:=om;have ay:m<=r:=om;have ac:Hid (p=0∨m=9):=eI (by have:=H9.out;omega);have az:((r:Int)-1) % 9+1=(m:Int):=om;have a5:(t.size:Int)=r:=om;have a2:(0:Int)<r:=om;have a3:r<=400:=om;have A:=eI hm;have f:=eI G;clear hm G;go_wp2;go_loopw [5,17] (fun q K an=>∃(i x:Nat),i<=m/\K=.i i/\q=.int .u32 x/\Hid (x=cv s p i)/\x<1000000000/\Same wr an) (fun _ K _=>m-(intOf K).toNat)
    case atStart=>exact⟨0,0,aJ _,rfl,rfl,eI rfl,om,Same.refl _⟩
    case round=>
     obtain⟨i,x,av,rfl,rfl,u,a9,b⟩:=hrel;by_cases aw:i<m
     . have ai:p+m<=s.size:=(by have:=f.out;omega);have a8:x<100000000:=(by have S:=aqg s p i M.out om;have T:=pow8 (i:=i) om;have:=u.out;omega);have aj:i<t.size:=om;have hb:=ti aj;have U:=o.out i om;have af:=M.out (p+i) om;rw[U] at hb;obtain⟨y,H⟩:∃y,bt s (p+i)=y+48:=⟨bt s (p+i)-48,om⟩;have HS:Hid (cv s p (i+1)=x*10+y):=eI (by rw[cv,H,cF,<-u.out]);rw[H] at hb af;have a6:((y+48:Nat):Int)-48=(y:Int):=om;have a7:(y:Int)+48-48=(y:Int):=om;have ag:(i:Int)<m:=om;have au:(i:Int)<r:=om;clear U H;go_wp2;go_roundw
       case rel=>exact⟨i+1,x*10+y,om,by go_num,by go_num,eI HS.out.symm,om,b⟩
       case measure=>exact yI
     . have e:i=m:=om;subst e;have ai:p+i<=s.size:=(by have:=f.out;omega);have q1:wr.cell? (jj c 0)=some v:=(by rw[b.cell];exact q0);have E:wr.frozen? (jj c 0)=false:=(by rw[b.frozen];exact qf);have I:wr.ownsRow w.heap.size 133 1 v n (ll X n):=F.kept (row:=none) ⟨b.os,b.tape,b.output,by rw[b.size];exact aC _,fun k _ _=>by rw[b.heap]⟩ (by cases h:v.ownBlock<;>simp);have R:=B.tr (b.since _);have ba:=b.size;have J:=@aaR c 0 w.heap.size n v x X wr om om q1 E I HC.out om R.size Q.out;have ah:=fun q hq=>(I.lt q hq).1;have ae:=E;clear q0 qf F B q1 E I;have ar:=z.out i (by have:=f.out;omega);have ag:(i:Int)<=r:=om;go_wp2_with (go_at_call 209;with_reducible refine mo J fun w2⟨v2,a,d,q2,o2,n2,b2,l,l2,e2,m2,t2⟩=> ?_);have al:lv d a=dv s (p+i):=by
        rw[e2,P.out,apm,u.out];rcases ac.out with h | h
        . rw[h];simp[dv]
        . rw[h]
       have ak:0<a->d (a-1)≠0:=fun h0 hz=>by
        rcases t2 with h | h
        . subst h;have S:lv d a=lv d (a-1):=yt d (a-1) a om (fun j S T=>by rw[show j=a-1 by omega];exact hz);have T:=ve (A:=d) (B:=X) (n:=a-1) (m:=a) (fun j Z=>l2 j om) om O.out;omega
        . exact h hz
       have S2:w.S w2:=l.sinceB R om ah;have a4:=l.size;go_roundg (s.size-(p+i))
       case rel=>exact⟨p+i,a,v2,d,om,eI rfl,rfl,eI (Or.inr (by have:=A.out;have:=f.out;omega)),q2,by rw[l.frozen];exact ae,o2,eI (fun h=>N.out (n2 h)),eI b2,eI l2,eI ak,eI al,by have:=A.out;omega,om,S2⟩
       case measure=>have:=HG.out;have:=A.out;have:=f.out;omega
  . obtain⟨g,cp,rfl,k1,a,k3,L3,F3⟩:=iu F N.out;have e:=eI (show p=s.size by omega);go_wp2;go_ret;exact⟨_,g,rfl,⟨_,n,cp,X,rfl,k1,om,fun h=>(by cases h),L3,fun _ am=>F3 am,Q.out,O.out,by rw[<-e.out];exact P.out⟩,a,k3,B⟩
def runs(s:ByteArray):ByteArray:=if vO s then s.extract 1 s.size else s
def jb(u:ByteArray):ByteArray:=if firstIdx u 47=-1 then u else u.extract 0 (firstIdx u 47).toNat
def iN(u:ByteArray):ByteArray:=if firstIdx u 47=-1 then ⟨#[49]⟩ else u.extract ((firstIdx u 47).toNat+1) u.size
def eP(s:ByteArray):Bool×Nat×Nat×Int:=
 let t:=jb (runs s)
 let b:=iN (runs s)
 if !(lE t&&lE b) then (false,0,1,1)
 else if 400<t.size∨400<b.size then (false,0,1,2)
 else if dv b b.size=0 then (false,0,1,3)
 else (vO s&&dv t t.size != 0,dv t t.size/Nat.gcd (dv t t.size) (dv b b.size),dv b b.size/Nat.gcd (dv t t.size) (dv b b.size),0)
theorem dd(s:ByteArray):(runs s).size<=s.size:=by
 unfold runs;split
 . rcases cQ s.size with h | h
   . rw[Lib.size_eq,Lib.extract_data,jR,List.length_drop,<-Lib.size_eq];omega
   . rw[pd s om zR];omega
 . exact aC _
theorem abQ(u:ByteArray):(jb u).size<=u.size+1/\(iN u).size<=u.size+1:=by
 unfold jb iN;rcases pt u with ⟨h,-⟩ | ⟨i,b,h,-,-⟩
 . rw[aY h,aY h];exact⟨om,by show 1<=_;omega⟩
 . have a:¬firstIdx u 47=-1:=(by rw[h];omega);rw[aM a,aM a,h,iL,pd u om om,pd u om zR];omega
theorem sR{s:ByteArray}(h:lE s=true):∀k,k<s.size->48<=bt s k/\bt s k<=57:=by
 unfold lE at h;simp only[fT,jU] at h;exact h.1
theorem aap{s:ByteArray}{w:World}(hs:s.size<=16777216)(hw:0<=w.heap.size)(hT:Tab w):
 Cl 126 #[.string s] w fun e w'=>∃v,e=.returned (.tuple #[v,.i (eP s).2.2.2])/\jM w' v (eP s).1 (eP s).2.1 (eP s).2.2.1 w.heap.size 67108864/\w.S w':=by
 have a5:=dd s;have a4:=abQ (runs s);have sA:=fA w yJ;have rA:=eS.new w (.bool false) (.n) (.n) 70;go_enter func126,ntmps126;go_wp2_with fail;generalize w.alloc _=wA at*;refine (@adc s _ _ om qd qd).mono ?_;rintro e w1 ⟨X,rfl⟩;rw[show (if vO s then s.extract 1 s.size else s)=runs s from rfl];go_wp2_with fail;refine (@anM (runs s) _ _ om qd qd).mono ?_;rintro e w2 ⟨Y,af⟩;have sm:Same wA w2:=⟨Y.os.trans X.os,Y.tape.trans X.tape,Y.output.trans X.output,Y.heap.trans X.heap⟩;have P:=sA.tr (sm.since wA.heap.size);have W:=rA.aA (sm.since _);clear sA rA X Y sm;rcases af with ⟨E,rfl⟩ | ⟨ad,a3,E,rfl⟩
 focus
  obtain⟨t,T⟩:∃t,t=runs s:=⟨_,rfl⟩;obtain⟨b,S⟩:∃b,b=(⟨#[49]⟩:ByteArray):=⟨_,rfl⟩;have te:jb (runs s)=runs s:=by unfold jb;rw[aY E]
  have be:iN (runs s)=⟨#[49]⟩:=by unfold iN;rw[aY E]
  clear E;rw[<-T];have a8:(⟨#[49]⟩:ByteArray)=b:=S.symm
 rotate_left
 focus
  obtain⟨t,T⟩:∃t,t=(runs s).extract 0 ad:=⟨_,rfl⟩;obtain⟨b,S⟩:∃b,b=(runs s).extract (ad+1) (runs s).size:=⟨_,rfl⟩;have ah:¬firstIdx (runs s) 47=-1:=by rw[E];omega
  have te:jb (runs s)=(runs s).extract 0 ad:=by unfold jb;rw[aM ah,E,iL]
  have be:iN (runs s)=(runs s).extract (ad+1) (runs s).size:=by unfold iN;rw[aM ah,E,iL]
  clear E ah a3;rw[<-T,<-S]
 all_goals
  have aj:jb (runs s)=t:=te.trans T.symm;have ag:iN (runs s)=b:=be.trans S.symm;have a6:t.size<=16777217:=by rw[<-aj];omega
  have a0:b.size<=16777217:=by rw[<-ag];omega
  have N:=eI aj;have L:=eI ag;clear T S aj ag a4 a5;have F:=@ud t w2 a6;by_cases B:lE t=true
  . rw[B] at F;go_wp2_with fail;refine mo F fun w3 s3=> ?_;have r3:=W.aA (s3.since _);have S3:=P.trans (s3.since _);have O:=@ud b w3 a0;by_cases G:lE b=true
    . rw[G] at O;go_wp2_with fail;refine mo O fun K u=> ?_;have o:=r3.aA (u.since _);have p:=S3.trans (u.since _);clear F O W r3 P S3 s3 u;by_cases l1:400<t.size
      . have ao:(400:Int)<(t.size:Int):=om;have h:eP s=(false,0,1,2):=(by unfold eP;simp only[N.out,L.out,B,G];simp[l1]);have q:=eI h;clear h;go_wp2_with fail;refine (@pv K).mono ?_;rintro e d ⟨v,rfl,⟨x1,x2,H,I,rfl,n,m,y1,y2,x⟩,l⟩;have a:=o.aA l;have z:=n;have y:=m;obtain⟨i,k,j,Y1,rfl,-⟩:=n;obtain⟨f,c,g,Y2,rfl,-⟩:=m;have A:=p.tr l;have z0:=p.size;have rl:=o.lt;obtain⟨u0,u1,u2⟩:=a.g;obtain⟨aa,ab,ac⟩:=a.k;go_wp2;have r:=((a.bE (.bool false)).bH (.l i k j)).bF (.l f c g);refine bO (mt rfl _ _ _ _ _ _ rfl r) rfl ?_;have M:eM d _ w.heap.size:=(((eM.refl d _).setCell 0 (.bool false)).setCell 1 (.l i k j)).setCell 2 (.l f c g);rw[q.out];exact⟨_,rfl,⟨_,_,H,I,rfl,z.marked M om,y.marked M om,om,om,x⟩,A.trans (M.since zR)⟩
      . by_cases l2:400<b.size
        . have ao:¬(400:Int)<(t.size:Int):=om;have a7:(400:Int)<(b.size:Int):=om;have h:eP s=(false,0,1,2):=(by unfold eP;simp only[N.out,L.out,B,G];simp[l2]);have q:=eI h;clear h;go_wp2_with fail;refine (@pv K).mono ?_;rintro e d ⟨v,rfl,⟨x1,x2,H,I,rfl,n,m,y1,y2,x⟩,l⟩;have a:=o.aA l;have z:=n;have y:=m;obtain⟨i,k,j,Y1,rfl,-⟩:=n;obtain⟨f,c,g,Y2,rfl,-⟩:=m;have A:=p.tr l;have z0:=p.size;have rl:=o.lt;obtain⟨u0,u1,u2⟩:=a.g;obtain⟨aa,ab,ac⟩:=a.k;go_wp2;have r:=((a.bE (.bool false)).bH (.l i k j)).bF (.l f c g);refine bO (mt rfl _ _ _ _ _ _ rfl r) rfl ?_;have M:eM d _ w.heap.size:=(((eM.refl d _).setCell 0 (.bool false)).setCell 1 (.l i k j)).setCell 2 (.l f c g);rw[q.out];exact⟨_,rfl,⟨_,_,H,I,rfl,z.marked M om,y.marked M om,om,om,x⟩,A.trans (M.since zR)⟩
        . have ao:¬(400:Int)<(t.size:Int):=om;have a7:¬(400:Int)<(b.size:Int):=om;have al:=sR B;have am:=sR G;go_wp2_with fail;refine (@uF t K om al).mono ?_;rintro e w5 ⟨v1,az,rfl,N5,ba,bb,s5⟩;have S5:=p.tr s5;have r5:=o.aA s5;go_wp2_with fail;refine (@uF b w5 om am).mono ?_;rintro e d ⟨v2,af,rfl,m,bc,bf,l⟩;have A:=S5.tr l;have r6:=r5.aA l;have n:=N5.aA l;have z4:=p.size;have z5:=s5.size;have z6:=l.size;have bh:=o.lt;have z:=n;have y:=m;obtain⟨i,k,j,Y1,rfl,-⟩:=n;obtain⟨f,c,g,Y2,rfl,-,-,-,-,-,-,tD,eD⟩:=m;have Z:=fA d (.o #[.bool (vO s),.l i k j,.l f c g,.n] 207);have F7:=ie.new d (.bool (vO s)) (.l i k j) (.l f c g) (.n) 207;have S7:=A.tr Z;have r7:=r6.aA Z;have N7:=(z.aA Z).more (show 402<=16777216 by omega);have D7:=(y.aA Z).more (show 402<=16777216 by omega);have z7:d.heap.size<(d.alloc (.o #[.bool (vO s),.l i k j,.l f c g,.n] 207)).heap.size:=F7.lt;have ak:=km tD;rw[eD] at ak;clear tD eD;go_wp2_with fail;generalize (d.alloc _)=w7 at*;generalize a9:d.heap.size=c7 at*;refine (@nN c7 2 f c g w7 F7.c2).mono ?_;rintro e w8 ⟨rfl,rfl⟩;by_cases hD:dv b b.size=0
          . have an:c=0:=ak.2 hD;subst an;have h:eP s=(false,0,1,3):=by
             unfold eP;simp only[N.out,L.out,B,G];simp[l1,l2,hD]
            have q:=eI h;clear h ak hD N7 D7 N5 z y F7 Z r6 r5 o al am;go_wp2_with fail;refine (@pv w8).mono ?_;rintro e wZ ⟨v,rfl,⟨x1,x2,gZ,hZ,rfl,NZ,DZ,y1,y2,x⟩,sZ⟩;have a:=r7.aA sZ;have aw:=NZ;have ar:=DZ;obtain⟨Q,U,C,ax,rfl,-⟩:=NZ;obtain⟨R,V,D,ay,rfl,-⟩:=DZ;have S9:=S7.tr sZ;have z0:=S7.size;have rl:=r7.lt;obtain⟨u0,u1,u2⟩:=a.g;obtain⟨aa,ab,ac⟩:=a.k;go_wp2;have r:=((a.bE (.bool false)).bH (.l Q U C)).bF (.l R V D);refine bO (mt rfl _ _ _ _ _ _ rfl r) rfl ?_;have M:eM wZ _ w.heap.size:=(((eM.refl wZ _).setCell 0 (.bool false)).setCell 1 (.l Q U C)).setCell 2 (.l R V D);rw[q.out];exact⟨_,rfl,⟨_,_,gZ,hZ,rfl,aw.marked M om,ar.marked M om,om,om,x⟩,S9.trans (M.since zR)⟩
          . have an:((c:Int)==0)=false:=(by simp;omega);have h:eP s=(vO s&&dv t t.size != 0,dv t t.size/Nat.gcd (dv t t.size) (dv b b.size),dv b b.size/Nat.gcd (dv t t.size) (dv b b.size),0):=(by unfold eP;simp only[N.out,L.out,B,G];simp[l1,l2,hD]);have q:=eI h;clear h;have JN:=@acR c7 (vO s) (.l i k j) (.l f c g) (.n) az af 0 (dv t t.size) (dv b b.size) 0 (w.heap.size+1) w8 (aJ _) (hT.stay hw S7) F7 N7 D7 (ad7 _ _ _) (Nat.dvd_zero _) om om om om om om om om om om;obtain⟨ae,ai⟩:∃ae,ae=(vO s&&dv t t.size != 0):=⟨_,rfl⟩;rw[<-ai] at JN;have au:=eI ai;clear ai;go_wp2_with fail;refine JN.mono ?_;rintro e wB ⟨v,rfl,⟨x1,x2,gB,hB,rfl,NB,DB,y1,y2,x⟩,sB⟩;have a:=r7.since sB om;have av:=NB;have aq:=DB;obtain⟨Q,U,C,ax,rfl,-⟩:=NB;obtain⟨R,V,D,ay,rfl,-⟩:=DB;have SB:=S7.trans (sM sB om);obtain⟨u0,u1,u2⟩:=a.g;obtain⟨aa,ab,ac⟩:=a.k;clear JN;go_wp2;have r:=((a.bE (.bool ae)).bH (.l Q U C)).bF (.l R V D);refine bO (mt rfl _ _ _ _ _ _ rfl r) rfl ?_;have M:eM wB _ w.heap.size:=(((eM.refl wB _).setCell 0 (.bool ae)).setCell 1 (.l Q U C)).setCell 2 (.l R V D);rw[q.out];exact⟨_,rfl,⟨_,_,gB,hB,by rw[au.out],(av.more om).marked M om,(aq.more om).marked M om,om,om,x⟩,SB.trans (M.since zR)⟩
    . have D:lE b=false:=(by simpa using G);rw[D] at O;have h:eP s=(false,0,1,1):=(by unfold eP;simp only[N.out,L.out,B,D];simp);have q:=eI h;clear h;go_wp2_with fail;refine mo O fun K u=> ?_;have o:=r3.aA (u.since _);have p:=S3.trans (u.since _);clear F O W r3 P S3 s3 u;go_wp2_with fail;refine (@pv K).mono ?_;rintro e d ⟨v,rfl,⟨x1,x2,H,I,rfl,n,m,y1,y2,x⟩,l⟩;have a:=o.aA l;have z:=n;have y:=m;obtain⟨i,k,j,Y1,rfl,-⟩:=n;obtain⟨f,c,g,Y2,rfl,-⟩:=m;have A:=p.tr l;have z0:=p.size;have rl:=o.lt;obtain⟨u0,u1,u2⟩:=a.g;obtain⟨aa,ab,ac⟩:=a.k;go_wp2;have r:=((a.bE (.bool false)).bH (.l i k j)).bF (.l f c g);refine bO (mt rfl _ _ _ _ _ _ rfl r) rfl ?_;have M:eM d _ w.heap.size:=(((eM.refl d _).setCell 0 (.bool false)).setCell 1 (.l i k j)).setCell 2 (.l f c g);rw[q.out];exact⟨_,rfl,⟨_,_,H,I,rfl,z.marked M om,y.marked M om,om,om,x⟩,A.trans (M.since zR)⟩
  . have C:lE t=false:=(by simpa using B);rw[C] at F;have h:eP s=(false,0,1,1):=(by unfold eP;simp only[N.out,L.out,C];simp);have q:=eI h;clear h;go_wp2_with fail;refine mo F fun K u=> ?_;have o:=W.aA (u.since _);have p:=P.trans (u.since _);clear F W P u;go_wp2_with fail;refine (@pv K).mono ?_;rintro e d ⟨v,rfl,⟨x1,x2,H,I,rfl,n,m,y1,y2,x⟩,l⟩;have a:=o.aA l;have z:=n;have y:=m;obtain⟨i,k,j,Y1,rfl,-⟩:=n;obtain⟨f,c,g,Y2,rfl,-⟩:=m;have A:=p.tr l;have z0:=p.size;have rl:=o.lt;obtain⟨u0,u1,u2⟩:=a.g;obtain⟨aa,ab,ac⟩:=a.k;go_wp2;have r:=((a.bE (.bool false)).bH (.l i k j)).bF (.l f c g);refine bO (mt rfl _ _ _ _ _ _ rfl r) rfl ?_;have M:eM d _ w.heap.size:=(((eM.refl d _).setCell 0 (.bool false)).setCell 1 (.l i k j)).setCell 2 (.l f c g);rw[q.out];exact⟨_,rfl,⟨_,_,H,I,rfl,z.marked M om,y.marked M om,om,om,x⟩,A.trans (M.since zR)⟩
theorem aki{u:ByteArray}{k:List ByteArray}(h:e5 u k):(3<=k.length/\lE (iN u)=false)∨(k=[jb u]/\iN u=⟨#[49]⟩)∨k=[jb u,iN u]:=by
 rcases pt u with ⟨b,q⟩ | ⟨i,o,b,hb,n⟩
 . have m:jb u=u:=(by unfold jb;rw[aY b]);have g:iN u=⟨#[49]⟩:=(by unfold iN;rw[aY b]);rcases h with ⟨a,-⟩ | ⟨j,a,d,-⟩ | ⟨-,j,c,d,l,f,r⟩
   . exact Or.inr (Or.inl ⟨by rw[a,m],g⟩)
   . exact absurd d (q j a)
   . exact absurd f (q j om)
 . have p:¬firstIdx u 47=-1:=(by rw[b];omega);have m:jb u=u.extract 0 i:=(by unfold jb;rw[aM p,b,iL]);have g:iN u=u.extract (i+1) u.size:=(by unfold iN;rw[aM p,b,iL]);rcases h with ⟨-,a⟩ | ⟨j,a,d,l,f⟩ | ⟨a,j,c,d,l,f,r⟩
   . exact absurd hb (a i o)
   . have e:i=j:=by
      rcases kD i j with e | e | e
      . exact absurd hb (l i o om)
      . exact e
      . exact absurd d (n j e)
     subst e;exact Or.inr (Or.inr (by rw[f,m,g]))
   . refine Or.inl ⟨a, ?_⟩;have t:i<=j:=by
      rcases jI j i with e | e
      . exact absurd f (n j e)
      . exact e
     have v:(iN u).size=u.size-(i+1):=(by rw[g];exact pd u om zR);have s:bt (iN u) (c-(i+1))=bt u c:=(by rw[g,pL u om,show i+1+(c-(i+1))=c by omega]);exact ae9 (k:=c-(i+1)) om (Or.inl om)
theorem amm:lE ⟨#[49]⟩=true:=by
 have h:∀k,k<(⟨#[49]⟩:ByteArray).size->48<=bt ⟨#[49]⟩ k/\bt ⟨#[49]⟩ k<=57:=fun k a=>by
  have:k=0:=by have:(⟨#[49]⟩:ByteArray).size=1:=rfl;omega
  subst this;exact⟨by decide,by decide⟩
 rw[agj h];decide
theorem apk:dv ⟨#[49]⟩ (⟨#[49]⟩:ByteArray).size=1:=by decide
theorem du{a:List ByteArray}(h:w.ownsRow n 9 1 u a.length (a.map Value.string))(i:0<a.length):
 ∃g b,u=.s g a.length b/\a.length<=b/\n<=g/\∀j x,a[j]?=some x->w.cell? (jj g j)=some (.string x):=by
 have c:= @World.ownsRow.cells _ _ _ _ _ _ _ h;rcases h.2 with ⟨rfl,l⟩ | ⟨g,b,f,rfl,hb,k,e,_⟩
 . omega
 . refine⟨g,b,rfl,e,hb,fun j x d=> ?_⟩;have:=c (g:=g) rfl j (.string x) (by simp[d]);rw[mT] at this;simpa using this
theorem anK{c:List ByteArray}{o:ByteArray}(h:w.ownsRow n 9 1 u c.length (c.map Value.string))
 (m:(c=[jb o]/\iN o=⟨#[49]⟩)∨c=[jb o,iN o]):
 ∃g p a,∃q:Nat->ByteArray,u=.s g p a/\p<=a/\n<=g/\(∀j,j<p->w.cell? (jj g j)=some (.string (q j)))/\q 0=jb o/\((p=1/\iN o=⟨#[49]⟩)∨(p=2/\q 1=iN o))/\(∀j,j<p->(q j).size<=o.size+1):=by
 have l:=abQ o;rcases m with ⟨rfl,hb⟩ | rfl
 . obtain⟨g,a,d,f,i,b⟩:=du h qz;refine⟨g,1,a,fun _=>jb o,d,f,i,fun j k=> ?_,rfl,Or.inl ⟨rfl,hb⟩,fun j k=>l.1⟩;obtain rfl:j=0:=om;exact b 0 _ rfl
 . obtain⟨g,a,d,f,i,b⟩:=du h qz;refine⟨g,2,a,fun j=>if j=0 then jb o else iN o,d,f,i,fun j k=> ?_,rfl,Or.inr ⟨rfl,rfl⟩,fun j k=> ?_⟩
   . rcases j with _ | _ | j
     . exact b 0 _ rfl
     . exact b 1 _ rfl
     . omega
   . by_cases e:j=0
     . simp only[e,if_true];exact l.1
     . simp only[e,iO];exact l.2
theorem si{s:ByteArray}{w:World}(hs:s.size<=16777216):
 Cl 69 #[.string s] w fun e w'=>∃v,e=.returned (.tuple #[v,.i (eP s).2.2.2])/\jM w' v (eP s).1 (eP s).2.1 (eP s).2.2.1 w.heap.size 67108864/\w.S w':=by
 have bz:=dd s;have sA:=fA w yJ;have rA:=eS.new w (.bool false) (.n) (.n) 70;have bq:(0<s.size/\bt s 0=45)∨(0<s.size/\¬bt s 0=45)∨¬0<s.size:=by
  by_cases L:0<s.size
  . by_cases c:bt s 0=45
    . exact Or.inl ⟨L,c⟩
    . exact Or.inr (Or.inl ⟨L,c⟩)
  . exact Or.inr (Or.inr L)
 rcases bq with ⟨L,c⟩ | ⟨L,c⟩ | L
 focus
  have aj:(0:Int)<(s.size:Int):=om;have hx:=ti L;have O:vO s=true:=by simp[vO,L,c]
  have hu:s.extract 1 s.size=runs s:=by simp[runs,O]
  rw[c] at hx;go_enter func69,ntmps69;go_wp2_with fail;generalize w.alloc _=wA at*;refine (@dj (runs s) _ om).mono ?_;have HG:=eI O;clear hu hx aj c O;rintro e w1 ⟨v,qs,rfl,h,hcut,ar,V⟩;have P:=sA.tr V;have T:=rA.aA V;have ad:=eI h
 rotate_left
 focus
  have aj:(0:Int)<(s.size:Int):=om;have hx:=ti L;have O:vO s=false:=by simp[vO,L,c]
  have hu:s=runs s:=by simp[runs,O]
  have a9:=am1 s 0;have az:¬((bt s 0:Int)=45):=om;obtain⟨a2,ex⟩:∃a2,a2=bt s 0:=⟨_,rfl⟩;rw[<-ex] at hx a9 az;have bp:((a2:Int)==45)=false:=by simpa using az
  have HU:=eI hu;have HG:=eI O;clear ex c hu O az;go_enter func69,ntmps69;go_wp2_with fail;generalize w.alloc _=wA at*;refine (@dj s _ om).mono ?_;clear hx a9 bp aj;rintro e w1 ⟨v,qs,rfl,h,hcut,ar,V⟩;have P:=sA.tr V;have T:=rA.aA V;have ad:=eI h;rw[HU.out] at hcut
 rotate_left
 focus
  have aj:¬(0:Int)<(s.size:Int):=om;have O:vO s=false:=by simp[vO,L]
  have hu:s=runs s:=by simp[runs,O]
  have HU:=eI hu;have HG:=eI O;clear hu O;go_enter func69,ntmps69;go_wp2_with fail;generalize w.alloc _=wA at*;refine (@dj s _ om).mono ?_;clear aj;rintro e w1 ⟨v,qs,rfl,h,hcut,ar,V⟩;have P:=sA.tr V;have T:=rA.aA V;have ad:=eI h;rw[HU.out] at hcut
 rotate_left
 all_goals
  rcases aki hcut with ⟨h3,a6⟩ | hq
  . first
    | exact absurd ar om
    | (obtain⟨an,bf,rfl,bo,-,-⟩:=du ad.out om
       have o:eP s=(false,0,1,1):=(by unfold eP;simp only[a6];simp);have A:=eI o;generalize qs.length=n at*;have bh:(2:Int)<n:=om;clear o a6 h ad hcut;go_wp2_with fail;refine (@kv w1).mono ?_;rintro e t ⟨v,rfl,⟨x1,x2,D,E,rfl,g,f,y1,y2,G⟩,sZ⟩;have a:=T.aA sZ;have B:=g;have y:=f;obtain⟨k,p,m,ae,rfl,-⟩:=g;obtain⟨l,r,b,af,rfl,-⟩:=f;have C:=P.tr sZ;have z0:=P.size;have rl:=T.lt;obtain⟨u0,u1,u2⟩:=a.g;obtain⟨ag,ah,ai⟩:=a.k;go_wp2;have F:=((a.bE (.bool false)).bH (.l k p m)).bF (.l l r b);refine bO (mt rfl _ _ _ _ _ _ rfl F) rfl ?_;have M:eM t _ w.heap.size:=(((eM.refl t _).setCell 0 (.bool false)).setCell 1 (.l k p m)).setCell 2 (.l l r b);rw[A.out];exact⟨_,rfl,⟨_,_,D,E,rfl,B.marked M om,y.marked M om,om,om,G⟩,C.trans (M.since zR)⟩)
  . obtain⟨an,n,bf,q,rfl,bo,-,ao,a7,a1,a8⟩:=anK ad.out hq;have bn:n=1∨n=2:=(by rcases a1 with b0 | b0<;>omega);have X:=eI a1;have H:=eI a7;have bc:=eI a8;have bh:¬(2:Int)<n:=om;clear h ad hcut hq a1 a7 a8 bn ar V sA rA;go_wp2_with fail;go_loopw [7] (fun ac wr=>∃i:Nat,i<=n/\ac=.i i/\Hid (∀j,j<i->lE (q j)=true)/\Same w1 wr) (fun ac _=>n-(intOf ac).toNat)
    case atStart=>exact⟨0,aJ _,rfl,eI (fun j I=>absurd I om),Same.refl _⟩
    case round=>
     obtain⟨i,br,rfl,HD,u⟩:=hrel;have Q:=P.trans (u.since _);have U:=T.aA (u.since _);by_cases aq:i<n
     . have a0:(i:Int)<n:=om;have hc:=ao i aq;rw[<-u.cell] at hc;have JD:=@yB (q i) wr (by have:=bc.out i aq;omega);by_cases d:lE (q i)=true
       . have ba:=eI d;rw[d] at JD;clear d;go_wp2_with fail;refine mo JD fun w2 x=> ?_;go_wp2;go_roundw
         case rel=>
          refine⟨i+1,om,by go_num,eI (fun j I=> ?_),⟨x.os.trans u.os,x.tape.trans u.tape,x.output.trans u.output,x.heap.trans u.heap⟩⟩;by_cases e:j=i
          . subst e;exact ba.out
          . exact HD.out j om
         case measure=>exact yI
       . have W:lE (q i)=false:=(by simpa using d);rw[W] at JD;have o:eP s=(false,0,1,1):=by
          have:lE (jb (runs s))=false∨lE (iN (runs s))=false:=by
           by_cases e:i=0
           . subst e;rw[H.out] at W;exact Or.inl W
           . rcases X.out with ⟨Z,-⟩ | ⟨Z,N⟩
             . omega
             . obtain rfl:i=1:=om;rw[N] at W;exact Or.inr W
          unfold eP;rcases this with b0 | b0<;>simp[b0]
         have A:=eI o;clear o d W;go_wp2_with fail;refine mo JD fun w2 x=> ?_;have S3:=Q.trans (x.since _);have r3:=U.aA (x.since _);clear JD hc Q U T P;go_wp2_with fail;refine (@kv w2).mono ?_;rintro e t ⟨v,rfl,⟨x1,x2,D,E,rfl,g,f,y1,y2,G⟩,sZ⟩;have a:=r3.aA sZ;have B:=g;have y:=f;obtain⟨k,p,m,ae,rfl,-⟩:=g;obtain⟨l,r,b,af,rfl,-⟩:=f;have C:=S3.tr sZ;have z0:=S3.size;have rl:=r3.lt;obtain⟨u0,u1,u2⟩:=a.g;obtain⟨ag,ah,ai⟩:=a.k;go_wp2;have F:=((a.bE (.bool false)).bH (.l k p m)).bF (.l l r b);refine bO (mt rfl _ _ _ _ _ _ rfl F) rfl ?_;have M:eM t _ w.heap.size:=(((eM.refl t _).setCell 0 (.bool false)).setCell 1 (.l k p m)).setCell 2 (.l l r b);rw[A.out];exact⟨_,rfl,⟨_,_,D,E,rfl,B.marked M om,y.marked M om,om,om,G⟩,C.trans (M.since zR)⟩
     . have e:i=n:=om;subst e;have a0:¬(i:Int)<i:=om
       have z:=eI (show lE (jb (runs s))=true/\lE (iN (runs s))=true by
        rcases X.out with ⟨Z,N⟩ | ⟨Z,N⟩
        . exact⟨by rw[<-H.out];exact HD.out 0 om,by rw[N];exact amm⟩
        . exact⟨by rw[<-H.out];exact HD.out 0 om,by rw[<-N];exact HD.out 1 om⟩)
       go_wp2_with fail;go_loopw [8] (fun ac wr=>∃j:Nat,j<=i/\ac=.i j/\Hid (∀am,am<j->¬400<(q am).size)/\Same w1 wr) (fun ac _=>i-(intOf ac).toNat)
       case atStart=>exact⟨0,aJ _,rfl,eI (fun j I=>absurd I om),u⟩
       case round=>
        clear Q U u;obtain⟨j,bw,rfl,HL,u⟩:=hrel;have Q:=P.trans (u.since _);have U:=T.aA (u.since _);by_cases aq:j<i
        . have a0:(j:Int)<i:=om;have hc:=ao j aq;rw[<-u.cell] at hc;by_cases d:400<(q j).size
          . have W:(400:Int)<((q j).size:Int):=om;have o:eP s=(false,0,1,2):=by
             have:400<(jb (runs s)).size∨400<(iN (runs s)).size:=by
              by_cases e:j=0
              . subst e;rw[H.out] at d;exact Or.inl d
              . rcases X.out with ⟨Z,-⟩ | ⟨Z,N⟩
                . omega
                . obtain rfl:j=1:=om;rw[N] at d;exact Or.inr d
             unfold eP;simp only[z.out.1,z.out.2];rcases this with b0 | b0<;>simp[b0]
            have A:=eI o;clear o d;go_wp2_with fail;refine (@kv wr).mono ?_;rintro e t ⟨v,rfl,⟨x1,x2,D,E,rfl,g,f,y1,y2,G⟩,sZ⟩;have a:=U.aA sZ;have B:=g;have y:=f;obtain⟨k,p,m,ae,rfl,-⟩:=g;obtain⟨l,r,b,af,rfl,-⟩:=f;have C:=Q.tr sZ;have z0:=Q.size;have rl:=U.lt;obtain⟨u0,u1,u2⟩:=a.g;obtain⟨ag,ah,ai⟩:=a.k;go_wp2;have F:=((a.bE (.bool false)).bH (.l k p m)).bF (.l l r b);refine bO (mt rfl _ _ _ _ _ _ rfl F) rfl ?_;have M:eM t _ w.heap.size:=(((eM.refl t _).setCell 0 (.bool false)).setCell 1 (.l k p m)).setCell 2 (.l l r b);rw[A.out];exact⟨_,rfl,⟨_,_,D,E,rfl,B.marked M om,y.marked M om,om,om,G⟩,C.trans (M.since zR)⟩
          . have W:¬(400:Int)<((q j).size:Int):=om;have bb:=eI d;clear d;go_wp2;go_roundw
            case rel=>
             refine⟨j+1,om,by go_num,eI (fun am hk=> ?_),u⟩;by_cases e:am=j
             . subst e;exact bb.out
             . exact HL.out am om
            case measure=>exact yI
        . have e:j=i:=om;subst e;have a0:¬(j:Int)<j:=om
          have K:=eI (show ¬400<(jb (runs s)).size/\¬400<(iN (runs s)).size by
           rcases X.out with ⟨Z,N⟩ | ⟨Z,N⟩
           . exact⟨by rw[<-H.out];exact HL.out 0 om,by rw[N];exact qd⟩
           . exact⟨by rw[<-H.out];exact HL.out 0 om,by rw[<-N];exact HL.out 1 om⟩)
          go_wp2_with fail;refine (@li 1 _ qd).mono ?_;rintro e w5 ⟨vd,td,Bd,rfl,k2,T5,b,x⟩;have S5:=Q.tr x;have r5:=U.aA x;have aa:=ao 0 (by rcases X.out with ⟨I,-⟩ | ⟨I,-⟩<;>omega);rw[<-u.cell] at aa;have aa:=(x.cell (a:=jj an 0) (aG _ _ aa)).trans aa;have bs:(0:Int)<j:=(by rcases X.out with ⟨I,-⟩ | ⟨I,-⟩<;>omega);rcases X.out with ⟨I,hb⟩ | ⟨I,hb⟩
          . have bm:((j:Int)==2)=false:=(by simp;omega);have au:Hid (bv Bd td=dv (iN (runs s)) (iN (runs s)).size):=eI (by rw[b,hb,apk]);have a3:=T5;have k5:td<=26065:=om;clear I hb U Q b x T P;obtain⟨a5,b5,o5,c5,rfl,bj,LB,tB⟩:=T5;by_cases h5:td=0
            . subst h5;have o:eP s=(false,0,1,3):=by
               have hd:dv (iN (runs s)) (iN (runs s)).size=0:=(by rw[<-au.out];rfl);unfold eP;simp only[z.out.1,z.out.2];simp[K.out.1,K.out.2,hd]
              have A:=eI o;clear o a3 LB tB;go_wp2_with fail;refine (@kv w5).mono ?_;rintro e t ⟨v,rfl,⟨x1,x2,D,E,rfl,g,f,y1,y2,G⟩,sZ⟩;have a:=r5.aA sZ;have B:=g;have y:=f;obtain⟨k,p,m,ae,rfl,-⟩:=g;obtain⟨l,r,b,af,rfl,-⟩:=f;have C:=S5.tr sZ;have z0:=S5.size;have rl:=r5.lt;obtain⟨u0,u1,u2⟩:=a.g;obtain⟨ag,ah,ai⟩:=a.k;go_wp2;have F:=((a.bE (.bool false)).bH (.l k p m)).bF (.l l r b);refine bO (mt rfl _ _ _ _ _ _ rfl F) rfl ?_;have M:eM t _ w.heap.size:=(((eM.refl t _).setCell 0 (.bool false)).setCell 1 (.l k p m)).setCell 2 (.l l r b);rw[A.out];exact⟨_,rfl,⟨_,_,D,E,rfl,B.marked M om,y.marked M om,om,om,G⟩,C.trans (M.since zR)⟩
            . have bi:((td:Int)==0)=false:=(by simp;omega);have al:=vu (nJ h5) (tB (nJ h5));have o:eP s=(vO s&&dv (jb (runs s)) (jb (runs s)).size != 0,dv (jb (runs s)) (jb (runs s)).size/Nat.gcd (dv (jb (runs s)) (jb (runs s)).size) (dv (iN (runs s)) (iN (runs s)).size),dv (iN (runs s)) (iN (runs s)).size/Nat.gcd (dv (jb (runs s)) (jb (runs s)).size) (dv (iN (runs s)) (iN (runs s)).size),0):=by
               have hd:¬dv (iN (runs s)) (iN (runs s)).size=0:=(by rw[<-au.out];omega);unfold eP;simp only[z.out.1,z.out.2];simp[K.out.1,K.out.2,hd]
              have A:=eI o;have ax:=eI al;clear o al LB tB;go_wp2_with fail;refine (@rY (q 0) _ (by rw[H.out];have:=K.out.1;omega) (by rw[H.out];exact sR z.out.1)).mono ?_;rintro e w7 ⟨v7,t7,B7,rfl,T7,k7,e7,s7⟩;have S7:=S5.tr s7;have r7:=r5.aA s7;rw[H.out] at e7;have Y:=fun ay:Bool=>@me ay _ _ t7 td B7 Bd w7 om om T7 (a3.aA s7) ax.out;rw[e7,au.out] at Y;go_wp2_with fail;refine (Y _).mono ?_;clear Y;rintro e t ⟨v,rfl,⟨x1,x2,D,E,rfl,g,f,y1,y2,G⟩,sZ⟩;have a:=r7.aA sZ;have B:=g;have y:=f;obtain⟨k,p,m,ae,rfl,-⟩:=g;obtain⟨l,r,b,af,rfl,-⟩:=f;have C:=S7.tr sZ;have z0:=S7.size;have rl:=r7.lt;obtain⟨u0,u1,u2⟩:=a.g;obtain⟨ag,ah,ai⟩:=a.k;obtain⟨S,R⟩:∃S,S=(vO s&&dv (jb (runs s)) (jb (runs s)).size != 0):=⟨_,rfl⟩;rw[HG.out] at R;rw[<-R];have aw:=eI R;clear R;go_wp2;have F:=((a.bE (.bool S)).bH (.l k p m)).bF (.l l r b);refine bO (mt rfl _ _ _ _ _ _ rfl F) rfl ?_;have M:eM t _ w.heap.size:=(((eM.refl t _).setCell 0 (.bool S)).setCell 1 (.l k p m)).setCell 2 (.l l r b);rw[A.out];exact⟨_,rfl,⟨_,_,D,E,by rw[aw.out,HG.out],B.marked M om,y.marked M om,om,om,G⟩,C.trans (M.since zR)⟩
          . have bm:((j:Int)==2)=true:=(by simp;omega);have bu:(1:Int)<j:=om;have ak:=ao 1 om;rw[<-u.cell] at ak;have ak:=(x.cell (a:=jj an 1) (aG _ _ ak)).trans ak;have HB:=eI hb;clear I hb U Q b x T P T5;go_wp2_with fail;refine (@rY (q 1) _ (by rw[HB.out];have:=K.out.2;omega) (by rw[HB.out];exact sR z.out.2)).mono ?_;rintro e w6 ⟨vf,tf,Bf,rfl,T6,k6,e6,s6⟩;have S6:=S5.tr s6;have r6:=r5.aA s6;have aa:=(s6.cell (a:=jj an 0) (aG _ _ aa)).trans aa;have av:Hid (bv Bf tf=dv (iN (runs s)) (iN (runs s)).size):=eI (by rw[e6,HB.out]);have a4:=T6;clear r5 S5 s6 e6 ak;obtain⟨a5,b5,o5,c5,rfl,bj,LB,tB⟩:=T6;by_cases h5:tf=0
            . subst h5;have o:eP s=(false,0,1,3):=by
               have hd:dv (iN (runs s)) (iN (runs s)).size=0:=(by rw[<-av.out];rfl);unfold eP;simp only[z.out.1,z.out.2];simp[K.out.1,K.out.2,hd]
              have A:=eI o;clear o a4 LB tB;go_wp2_with fail;refine (@kv w6).mono ?_;rintro e t ⟨v,rfl,⟨x1,x2,D,E,rfl,g,f,y1,y2,G⟩,sZ⟩;have a:=r6.aA sZ;have B:=g;have y:=f;obtain⟨k,p,m,ae,rfl,-⟩:=g;obtain⟨l,r,b,af,rfl,-⟩:=f;have C:=S6.tr sZ;have z0:=S6.size;have rl:=r6.lt;obtain⟨u0,u1,u2⟩:=a.g;obtain⟨ag,ah,ai⟩:=a.k;go_wp2;have F:=((a.bE (.bool false)).bH (.l k p m)).bF (.l l r b);refine bO (mt rfl _ _ _ _ _ _ rfl F) rfl ?_;have M:eM t _ w.heap.size:=(((eM.refl t _).setCell 0 (.bool false)).setCell 1 (.l k p m)).setCell 2 (.l l r b);rw[A.out];exact⟨_,rfl,⟨_,_,D,E,rfl,B.marked M om,y.marked M om,om,om,G⟩,C.trans (M.since zR)⟩
            . have bi:((tf:Int)==0)=false:=(by simp;omega);have al:=vu (nJ h5) (tB (nJ h5));have o:eP s=(vO s&&dv (jb (runs s)) (jb (runs s)).size != 0,dv (jb (runs s)) (jb (runs s)).size/Nat.gcd (dv (jb (runs s)) (jb (runs s)).size) (dv (iN (runs s)) (iN (runs s)).size),dv (iN (runs s)) (iN (runs s)).size/Nat.gcd (dv (jb (runs s)) (jb (runs s)).size) (dv (iN (runs s)) (iN (runs s)).size),0):=by
               have hd:¬dv (iN (runs s)) (iN (runs s)).size=0:=(by rw[<-av.out];omega);unfold eP;simp only[z.out.1,z.out.2];simp[K.out.1,K.out.2,hd]
              have A:=eI o;have ax:=eI al;clear o al LB tB;go_wp2_with fail;refine (@rY (q 0) _ (by rw[H.out];have:=K.out.1;omega) (by rw[H.out];exact sR z.out.1)).mono ?_;rintro e w7 ⟨v7,t7,B7,rfl,T7,k7,e7,s7⟩;have S7:=S6.tr s7;have r7:=r6.aA s7;rw[H.out] at e7;have Y:=fun ay:Bool=>@me ay _ _ t7 tf B7 Bf w7 om om T7 (a4.aA s7) ax.out;rw[e7,av.out] at Y;go_wp2_with fail;refine (Y _).mono ?_;clear Y;rintro e t ⟨v,rfl,⟨x1,x2,D,E,rfl,g,f,y1,y2,G⟩,sZ⟩;have a:=r7.aA sZ;have B:=g;have y:=f;obtain⟨k,p,m,ae,rfl,-⟩:=g;obtain⟨l,r,b,af,rfl,-⟩:=f;have C:=S7.tr sZ;have z0:=S7.size;have rl:=r7.lt;obtain⟨u0,u1,u2⟩:=a.g;obtain⟨ag,ah,ai⟩:=a.k;obtain⟨S,R⟩:∃S,S=(vO s&&dv (jb (runs s)) (jb (runs s)).size != 0):=⟨_,rfl⟩;rw[HG.out] at R;rw[<-R];have aw:=eI R;clear R;go_wp2;have F:=((a.bE (.bool S)).bH (.l k p m)).bF (.l l r b);refine bO (mt rfl _ _ _ _ _ _ rfl F) rfl ?_;have M:eM t _ w.heap.size:=(((eM.refl t _).setCell 0 (.bool S)).setCell 1 (.l k p m)).setCell 2 (.l l r b);rw[A.out];exact⟨_,rfl,⟨_,_,D,E,by rw[aw.out,HG.out],B.marked M om,y.marked M om,om,om,G⟩,C.trans (M.since zR)⟩
end Go.Proofs.YtinihjgnnlemmaaGreatDoor
