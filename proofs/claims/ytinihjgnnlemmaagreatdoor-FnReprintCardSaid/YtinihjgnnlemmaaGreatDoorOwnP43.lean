import Derived.Test.YtinihjgnnlemmaaGreatDoorOwnP56
import Derived.Lib.FrozenHead2
set_option maxHeartbeats 6400000
set_option maxRecDepth 100000
set_option linter.unusedVariables false
namespace Go.Proofs.YtinihjgnnlemmaaGreatDoor
open Tryz Go.RowKit
variable{w v W V:World}{n m c d k i j l o b p q t r s g h e:Nat}{a A B:Option Addr}{u U:Value}
theorem eS.of_heap{z:Value}{T:TypeId}(h:w.heap[n]?=some (.cells #[u,U,z] T (0,0))):eS w n u U z:=
 ⟨Lib.cell_of_heap h 0,Lib.cell_of_heap h 1,Lib.cell_of_heap h 2,fun k=>Lib.frozen_of_heap h k⟩
theorem ie.of_heap{z a:Value}{T:TypeId}(h:w.heap[n]?=some (.cells #[u,U,z,a] T (0,0))):ie w n u U z a:=
 ⟨Lib.cell_of_heap h 0,Lib.cell_of_heap h 1,Lib.cell_of_heap h 2,Lib.cell_of_heap h 3,fun k=>Lib.frozen_of_heap h k⟩
theorem lG{o:Obj}(h:w.heap[n]?=some o)(s:w.S v):v.heap[n]?=some o:=(s.block n (dM.1 h).1).trans h
theorem am3{o:Obj}(h:w.heap[n]?=some o):n<w.heap.size:=(dM.1 h).1
theorem agK(P:Program)(n:Nat)(e:TypeId)(d:Nat×Nat)(m:Nat)(b:List Value):∀(i:Nat) (a:Array Value) (w:World),w.heap[n]?=some (.cells a e d)->(∀p,m+i<=p->p<m+i+b.length->¬(d.1<=p/\p<d.2))->m+i+b.length<=a.size->(∀v∈b,v.oneCell'=true)->
 (storeCells (jj n m) b i).run P w=.ok () (w.setRow n (a.toList.take (m+i)++b++a.toList.drop (m+i+b.length)).toArray):=by
 induction b with
 | nil=>
   intro i a w c _ _ _;have j:=setRow_self w n a e d c;simp only[storeCells,iJ,mR,fV,tI,Array.toArray_toList,j];rfl
 | cons v b ih=>
   intro i a w c f hl h;simp only[fS] at hl f;have r:m+i<a.size:=om;have g:((jj n m):Addr).add i=(jj n (m+i)):=Go.WideShapes.add_plain ..;have o:w.cell? (jj n (m+i))=some a[m+i]:=(by simp[World.cell?,c,r]);have q:w.frozen? (jj n (m+i))=false:=(by have:=f (m+i) zR om;simp only[World.frozen?,c];simpa using this);have s:(store (((jj n m):Addr).add i) v).run P w=.ok () (w.setRow n (a.setIfInBounds (m+i) v)):=(by rw[g,run_store P w _ v _ (h v qz),o];simp[q,setCell_eq_setRow w n (m+i) a e d v c]);have l:=ih (i+1) (a.setIfInBounds (m+i) v) (w.setRow n (a.setIfInBounds (m+i) v)) (setRow_heap w n a _ e _ c) (fun p u y=>f p om om) (by simp;omega) (fun x t=>h x (by simp[t]));have k:=list_seg_step a.toList (m+i) v b (by simp;omega);simp only[storeCells,Sem.run_bind,s,tG,l,setRow_setRow];congr 3;simpa [Array.toList_setIfInBounds,fH] using k
def jm(w:World)(base:Nat)(v:Value)(l:List UInt8):Prop:=
 ∃g cap cur fz,v=.slice (some ⟨g,0,none⟩) l.length cap/\base<=g/\w.heap[g]?=some (.cells cur 5 fz)/\(∀p,l.length<=p->p<cap->¬(fz.1<=p/\p<fz.2))/\l.length<=cap/\cap<=maxLen/\cur.size=cap/\cur.toList.take l.length=Lib.byteCells l
theorem jm.aA{w w':World}{l:List UInt8}(h:jm w n u l)(s:w.S w'):jm w' n u l:=by
 obtain⟨g,b,c,d,e,hb,a,r⟩:=h;exact⟨g,b,c,d,e,hb,(s.block g (dM.1 a).1).trans a,r⟩
theorem jm.lt{l:List UInt8}(h:jm w n u l):∀g,u.ownBlock=some g->n<=g/\g<w.heap.size:=fun g a=>by
 obtain⟨f,c,d,e,rfl,hb,b,r⟩:=h
 simp[Value.ownBlock] at a
 subst a;exact⟨hb,(dM.1 b).1⟩
theorem jm.cells{base:Nat}{l:List UInt8}(h:jm w base u l):∃g b,u=.s g l.length b/\∀j i,(Lib.byteCells l)[j]?=some i->w.cell? (((jj g 0):Addr).add j)=some i:=by
 obtain⟨g,b,e,f,rfl,hb,c,-,-,-,-,d⟩:=h;refine⟨g,b,rfl,fun j i a=> ?_⟩;rw[Go.WideShapes.add_plain,aZ,Lib.cell_of_heap c j];rw[<-d,List.getElem?_take] at a;split at a
 . simpa using a
 . cases a
theorem jm.str{l:List UInt8}(h:jm w n u l):∃g a,u=.s g l.length a/\(convert 22 9 (.s g l.length a)).run Tryz.prog w=.ok (.string ⟨l.toArray⟩) w:=by
 obtain⟨g,a,rfl,b⟩:=h.cells;refine⟨g,a,rfl,run_convert_bytes_back w 22 9 5 (jj g 0) a l underlying22 underlying5 underlying9 (fun j c=> ?_)⟩;exact b j _ (by simp[Lib.byteCells,c])
theorem jm.conv(w:World)(l:List UInt8)(hl:l.length<=100000000000000):jm (Lib.bytesWorld w 5 ⟨l.toArray⟩) w.heap.size (.s w.heap.size l.length (grownCap w l.length 0 5)) l:=by
 have e:(⟨l.toArray⟩:ByteArray).size=l.length:=by simp[ByteArray.size]
 have a:=grownCap_ge w l.length 0 5;have c:=grownCap_le_maxLen w l.length 0 5 (by unfold maxLen;omega);have d:(Lib.bytesCells w 5 ⟨l.toArray⟩).size=grownCap w l.length 0 5:=by unfold Lib.bytesCells;rw[e];simp only[Array.size_append,Array.size_map,Array.size_replicate,List.size_toArray];omega
 refine⟨w.heap.size,_,_,_,rfl,aC _,Lib.bytesWorld_at_new w 5 ⟨l.toArray⟩,fun p _ f h=> ?_,a,c,d, ?_⟩
 . have:=h.1;simp only at this;omega
 . unfold Lib.bytesCells;simp only[Array.toList_append,Array.toList_map];rw[show l.length=(List.map (fun b:UInt8=>Value.int .u8 b.toNat) l).length by simp];rw[List.take_left];rfl
theorem su(w:World)(n:Nat)(u:Value)(l:List UInt8)(H:jm w n u l)(d:Addr)(c:List UInt8)(m:Nat)(D:TypeId)(z:∀j v,(Lib.byteCells c)[j]?=some v->w.cell? (d.add j)=some v)(W:l.length+c.length<=100000000000000)(G:n<=w.heap.size):
 ∃E s,(Builtin.append_ #[22,22] D #[u,.slice (some d) c.length m]).run Tryz.prog w=.ok E s/\jm s n E (l++c)/\w.grownBy s u.ownBlock:=by
 obtain⟨f,y,R,b,T⟩:=kT bN;obtain⟨g,a,i,X,rfl,hb,q,o,I,x,M,C⟩:=H;have K:∀j v,(Lib.byteCells l)[j]?=some v->w.cell? (((jj g 0):Addr).add j)=some v:=by obtain⟨V,U,e,h⟩:=jm.cells ⟨g,a,i,X,rfl,hb,q,o,I,x,M,C⟩;simp only[Value.slice.injEq,Option.some.injEq,Addr.mk.injEq,fI,fM] at e;obtain⟨rfl,rfl⟩:=e;exact h
 have A:(Lib.byteCells c).length=c.length*f.size:=by rw[Lib.byteCells_length,b,iF]
 by_cases Q:l.length+c.length<=a
 . have N:=run_firstCells_some (P:=Tryz.prog) w f.size c.length d c.length m (Lib.byteCells c) A z
   have B:=agK Tryz.prog g 5 X (l.length*f.size) (Lib.byteCells c) 0 i w q (by
    rw[b,Lib.byteCells_length];exact fun p F t=>o p om om) (by rw[b,Lib.byteCells_length];omega) (adQ c)
   simp only[fV] at B;refine⟨.s g (l.length+c.length) a,_,by simp[Builtin.append_,run_underlying underlying22,sizeOf,typeInfo,y,Builtin.lenOf,Q,N,mT,B];rfl,⟨g,a,_,X,by rw[aT],hb,setRow_heap w g i _ 5 _ q, ?_,by rw[aT];omega,x, ?_, ?_⟩,⟨rfl,rfl,rfl,qz,fun k _ r=>setRow_other w g k _ (fun e=>r (by simp[Value.ownBlock,e]))⟩⟩
   . rw[aT];exact fun p F t=>o p om t
   . simp only[List.size_toArray,aT,jR,List.length_drop,Array.length_toList,b,Lib.byteCells_length];omega
   . rw[b,iF,C,show (l++c).length=(Lib.byteCells l++Lib.byteCells c).length by simp[Lib.byteCells_length]];simp only[<-dZ];rw[List.take_left];simp[Lib.byteCells]
 . have P:=run_append_grow (P:=Tryz.prog) w 22 D 5 f (.int .u8 0) underlying22 y R (jj g 0) l.length a (Lib.byteCells l) (by rw[Lib.byteCells_length,b,iF]) K d c.length m (Lib.byteCells c) A z om om (by rw[T];exact growslice_fits om om);have O:=grownCap_ge w (l.length+c.length) a 5;have L:=grownCap_le_maxLen w (l.length+c.length) a 5 (by unfold maxLen;omega);refine⟨_,_,P,⟨w.heap.size,_,_,(0,0),by rw[aT],G,Go.heap_alloc_new w.drew _,fun p _ _ h=>by have:=h.2;simp at this,by rw[aT];exact O,L, ?_, ?_⟩,⟨rfl,rfl,rfl,qz,fun k r _=>Lib.alloc_old w.drew _ k r⟩⟩
   . have S:(Value.int IntKind.u8 0).cells.size=1:=rfl;simp only[Array.size_append,List.size_toArray,size_zeroCells,S,Lib.byteCells_length];omega
   . simp only[Array.toList_append,dZ];rw[<-dZ,show (l++c).length=(Lib.byteCells l++Lib.byteCells c).length by simp[Lib.byteCells_length],List.take_left];simp[Lib.byteCells]
theorem ww{f:Array Oper}{g:List Oper}{o:Oper}{a:Act}{Q:Exit->Act->World->Prop}(r:o.guard=none)(s x:Operand)
 (A:o.op=.call { callee:=.builtin .append,args:= #[s,x],argTypes:= #[22,22] })(n:Nat)(u:Value)(l:List UInt8)(C:a.eval s=u)(H:jm w n u l)(e:Addr)(v:List UInt8)(m c:Nat)(z:c=v.length)(D:a.eval x=.l (some e) c m)
 (y:∀j E,(Lib.byteCells v)[j]?=some E->w.cell? (e.add j)=some E)(t:l.length+v.length<=100000000000000)(q:n<=w.heap.size)
 (h:∀d b,jm b n d (l++v)->w.grownBy b u.ownBlock->wpList Tryz.prog f Q g (a.put o.dst d) b):wpList Tryz.prog f Q (o::g) a w:=by
 subst z;refine wpList_plain r fun K p=> ?_;obtain⟨d,b,B,i,k⟩:=su w n u l H e v m o.type y t q;unfold Oper.wp execOp;simp only[A,resolve,invoke,builtin,Sem.run_bind,Sem.run_pure,tG,tN,dG,kC,C,D,B];exact p _ _ (h d b i k)
theorem ye{f:Array Oper}{o:Oper}{a:Act}{K:Act->World->Prop}{Q:Exit->Act->World->Prop}{E:Prop}(p:o.guard=none)(s x:Operand)
 (y:o.op=.call { callee:=.builtin .append,args:= #[s,x],argTypes:= #[22,22] })(n:Nat)(u:Value)(l:List UInt8)(A:a.eval s=u)(H:jm w n u l)(e:Addr)(v:List UInt8)(m c:Nat)(t:c=v.length)(B:a.eval x=.l (some e) c m)
 (r:∀j C,(Lib.byteCells v)[j]?=some C->w.cell? (e.add j)=some C)(q:l.length+v.length<=100000000000000)(k:n<=w.heap.size)
 (h:∀d b,jm b n d (l++v)->w.grownBy b u.ownBlock->K (a.put o.dst d) b):if Region.wanted o (yielded f a.tmps)=true then Oper.wp Tryz.prog o a w K Q else E:=by
 subst t;rw[aY (show Region.wanted o (yielded f a.tmps)=true by simp[Region.wanted,p])];obtain⟨d,b,z,g,i⟩:=su w n u l H e v m o.type r q k;unfold Oper.wp execOp;simp only[y,resolve,invoke,builtin,Sem.run_bind,Sem.run_pure,tG,tN,dG,kC,A,B,z];exact h d b g i
theorem abG{A:Nat->ic}(o:d<=1048576)(f:∀h,h<d->(A h).few)(H:sc w n a m c d A)(g:¬pH d A):
 Cl 9 #[.agg #[.slice a d k]] w fun e l=>e=.returned (.string ⟨#[]⟩)/\w.S l:=by
 have b:=fA w (.o #[.l a d k] 25);have s:=ix.new w (.l a d k) 25;go_enter func9,ntmps9;go_wp2_with fail;generalize w.alloc _=q at*;refine (rO om f (H.aA b)).mono ?_;rintro e p ⟨r,rfl,i,j⟩;obtain rfl:r=false:=by
  cases r
  . rfl
  . exact absurd (i.1 rfl) g
 go_wp2;go_ret;exact⟨rfl,b.tr j⟩
theorem ph.sub{R:Nat->fZ}(h:ph w n a m c d R)(k i:Nat)(hF:k+i<=d):ph w n (Option.map (fun x=>x.add (k*3)) a) m (c+k*3) i (fun j=>R (k+j)):=fun j o=>by
 obtain⟨rfl,b,e,f,g,l⟩:=h (k+j) om;refine⟨by rw[kJ,Go.WideShapes.add_plain],b,e,f,g, ?_⟩;rw[show c+k*3+j*3=c+(k+j)*3 by omega];exact l
structure dC(n:Nat)(A:Nat->ic)(L:Nat):Prop where
 maps:∀k,k<=n->(oq A k).length<=L
 head:∀k,k<n->(aE (A k)).length<=200
 rows:∀k r,k<n->r<=(A k).rows.toNat->(l8 (A k) r).length<=L
 row:∀k r,k<n->r<(A k).rows.toNat->(bH (A k) r).length<=L
 net:(uZ n).length<=100
theorem dC.of{A:Nat->ic}{L:Nat}(P:pH c A)(z:c<=1048576)(B:vK A c<=d)(x:37*d+2000000<=L)(H:sc w n a b m c A):dC c A L:=by
 have g:∀k,k<c->(A k).size<=d:=fun k o=>by have:=xu (A:=A) o;omega
 have I:∀k r,k<c->r<=(A k).rows.toNat->(l8 (A k) r).length<=37*(A k).size:=fun k r o I=>by obtain⟨-,p,q,C,D,M⟩:=H k o;obtain⟨s,F,-,l⟩:=M.L.LW;obtain⟨t,G,-,i⟩:=M.L.LB;exact aiy (P.map o) l.lim i.lim I
 have f:∀k,k<c->(aE (A k)).length<=200:=fun k o=>by have mp:=P.map o;exact af2 (by have:=mp.r;have:=mp.r1;omega) (by have:=mp.c;have:=mp.c1;omega)
 have E:=P.n1;refine⟨fun k o=> ?_,f,fun k r o h=> ?_,fun k r o h=> ?_, ?_⟩
 . have e:=af1 (A:=A) (k:=k) (fun j y=>by
    have u:=I j _ (show j<c by omega) zR;have v:=f j om;rw[aT];omega)
   have K:=afc (A:=A) o;omega
 . have:=I k r o h;have:=g k o;omega
 . have e:=I k (r+1) o h;have K:=g k o;rw[l8,aT] at e;omega
 . have:=nI (show (c:Int)<=9223372036854775807 by omega);unfold uZ;simp only[aT,fS,mR];omega
theorem anL{T U L:List UInt8}{x:UInt8}(h:T++U++[10]=x::L):((⟨T.toArray⟩:ByteArray)++⟨U.toArray⟩++⟨#[10]⟩).extract 1 (T.length+U.length+1)=⟨L.toArray⟩:=by
 have a:(⟨T.toArray⟩:ByteArray)++⟨U.toArray⟩++⟨#[10]⟩=⟨(x::L).toArray⟩:=by rw[<-h];simp[tz]
 have b:T.length+U.length+1=L.length+1:=by have:=congrArg List.length h;simp only[aT,fS,mR] at this;omega
 rw[a,b];apply ByteArray.ext;simp[ByteArray.data_extract]
theorem jm.ne{l:List UInt8}{cs:Array Value}{b:Nat×Nat}(h:jm w n u l)(a:w.heap[m]?=some (.cells cs 52 b)):u.ownBlock≠some m:=fun e=>by
 obtain⟨g,f,i,j,rfl,hb,d,-⟩:=h
 simp[Value.ownBlock] at e
 subst e;rw[d] at a
 simp at a
theorem ac1(s:ByteArray)(l:List UInt8)(e:s=⟨l.toArray⟩)(w:World):∃a c,(convert 9 22 (.string s)).run Tryz.prog w=.ok (.s w.heap.size l.length c) a/\w.S a/\∀j u,(Lib.byteCells l)[j]?=some u->a.cell? (((jj w.heap.size 0):Addr).add j)=some u:=by
 subst e;have:=Lib.run_convert_string_bytes (P:=Tryz.prog) w 9 22 5 ⟨l.toArray⟩ underlying9 underlying22 underlying5;rw[bsz] at this;exact⟨_,_,this,vp w 5 ⟨l.toArray⟩,aaI w 5 l⟩
theorem aaN{A:Nat->ic}(hn:d<=1048576)(hs:vK A d<=68719476736)(hf:∀b,b<d->(A b).few)(ae:sc w n (jp m c) m c d A)(a1:pH d A):
 Cl 9 #[.agg #[.slice (jp m c) d k]] w fun e K=>e=.returned (.string ⟨(wG d A).toArray⟩)/\w.S K:=by
 have y:=eI (dC.of (L:=10000000000000) a1 hn hs om ae);have sA:=fA w (.cells #[.slice (jp m c) d k] 25);have bA:=ix.new w (.slice (jp m c) d k) 25;have NP:=eI a1;have y1:=nI (show (d:Int)<=9223372036854775807 by omega);have x0:4+(iz (d:Int)).length<=9223372036854775807:=om;have u0:¬9223372036854775807<4+(iz (d:Int)).length:=om;have x1:4+(iz (d:Int)).length+1<=9223372036854775807:=om;have u1:¬9223372036854775807<4+(iz (d:Int)).length+1:=om;go_enter func9,ntmps9;go_wp2_with fail;generalize w.alloc _=h at*;refine (@rO _ n m c d k A h om hf (ae.aA sA)).mono ?_;rintro e w1 ⟨r,rfl,i,s1⟩;obtain rfl:r=true:=i.2 a1;clear i a1;have B1:=bA.aA s1;have H:=B1.c0;go_wp2_with fail;refine mo (@pn d w1 om om) fun g s2=> ?_;have u2:=s1.tr s2;have es:(⟨#[110,101,116,32]⟩:ByteArray)++⟨(iz (d:Int)).toArray⟩++⟨#[10]⟩=⟨(uZ d).toArray⟩:=by simp[tz,uZ]
 have u:(convert 9 22 (.string ((⟨#[110,101,116,32]⟩:ByteArray)++⟨(iz (d:Int)).toArray⟩++⟨#[10]⟩))).run Tryz.prog g=.ok (.s g.heap.size (uZ d).length (grownCap g (uZ d).length 0 5)) (Lib.bytesWorld g 5 ⟨(uZ d).toArray⟩):=by rw[es];have:=Lib.run_convert_string_bytes (P:=Tryz.prog) g 9 22 5 ⟨(uZ d).toArray⟩ underlying9 underlying22 underlying5;rw[bsz] at this;exact this
 have R3:=jm.conv g (uZ d) (by have:=y.out.net;omega);have s3:=vp g 5 ⟨(uZ d).toArray⟩;have u3:h.S (Lib.bytesWorld g 5 ⟨(uZ d).toArray⟩):=u2.tr s3;obtain⟨p,ak⟩:∃p,uZ d=p:=⟨_,rfl⟩;rw[ak] at u R3 u3;have ay:=eI ak;clear H es s3 ak;generalize Lib.bytesWorld g 5 ⟨p.toArray⟩=w3 at*;generalize grownCap g p.length 0 5=c3 at*;go_wp2_with fail;clear u;go_loopw [3,4] (fun au i wr=>∃b:Nat,b<=d/\i=.i (b:Int)/\h.S wr/\Hid (jm wr h.heap.size au (p++oq A b))) (fun _ i _=>d-(intOf i).toNat)
 case atStart=>exact⟨0,aJ _,rfl,u3,eI (by rw[oq,iJ];obtain⟨bp,k,bm,fz,e,hb,r⟩:=R3;exact⟨bp,k,bm,fz,e,aU u2.size hb,r⟩)⟩
 case round=>
  obtain⟨b,hk,rfl,ar,P⟩:=hrel;have bf:=bA.aA ar;have SS:=sA.tr ar;have H:=bf.c0;by_cases x:b<d
  . have cn:(b:Int)<d:=om;obtain⟨-,f,t,z,E,M⟩:=ae b x;have mp:=NP.out.map x;obtain⟨R,aa⟩:∃R,(A b).rows.toNat=R:=⟨_,rfl⟩;obtain⟨C,ai⟩:∃C,(A b).cols.toNat=C:=⟨_,rfl⟩;rw[aa,ai] at mp;have N:=M.aA SS;have g0:=N.c0;have g1:=N.c1;have g2:=N.c2;have g3:=N.c3;rw[mp.r] at g0;rw[mp.c] at g1;obtain⟨a,D⟩:∃Z,(A b).nw=Z:=⟨_,rfl⟩;obtain⟨nb,B⟩:∃Z,(A b).nb=Z:=⟨_,rfl⟩;rw[D] at g2;rw[B] at g3;have sN:=fA wr (.cells #[.i (R:Int),.i (C:Int),.slice f a z,.slice t nb E] 52);have s:=ie.new wr (.i (R:Int)) (.i (C:Int)) (.slice f a z) (.slice t nb E) 52;have zN:(wr.alloc (.cells #[.i (R:Int),.i (C:Int),.slice f a z,.slice t nb E] 52)).heap.size=wr.heap.size+1:=(by simp);clear N;obtain⟨bW,ba,-,LW⟩:=M.L.LW;obtain⟨bB,oB,-,LB⟩:=M.L.LB;have b6:=M.L.nc;have b7:=M.L.mc;have hh:=y.out.head b x;have a9:=fun r=>y.out.rows b r x;have a8:=fun r=>y.out.row b r x;have a7:(A b).size<=68719476736:=(by have:=xu (A:=A) x;omega);have bw:=y.out.maps b hk;have bu:=y.out.net;rw[aa] at a9 a8;have ca:=mp.r1;have cC:=mp.c1;have vW:=mp.vW;have vB:=mp.vB;rw[D] at LW vW b6;rw[B] at LB vB b7;have HW:=eI (show a=R*C by rw[<-D];exact mp.nw);have ff:=hf b x;have a5:=eI ff.W;have fB:=eI ff.B;rw[D] at a5;rw[B] at fB;clear ff;have l:=eI (show nb=R by rw[<-B];exact mp.nb);have ax:Hid (a+nU (A b).W a+(nb+nU (A b).B nb)<=68719476736):=eI (by rw[<-D,<-B];exact a7);obtain⟨X,hX⟩:∃X,p++oq A b=X:=⟨_,rfl⟩;have cj:X.length<=10000000000200:=(by rw[<-hX,aT,<-ay.out];omega);rw[hX] at P;obtain⟨o,W⟩:∃af,aE (A b)=af:=⟨_,rfl⟩;have a4:(⟨#[109,97,112,32]⟩:ByteArray)++⟨(iz (R:Int)).toArray⟩++⟨#[32]⟩++⟨(iz (C:Int)).toArray⟩++⟨#[10]⟩=⟨o.toArray⟩:=(by rw[<-W,aE,mp.r,mp.c];simp[tz]);have cr:o.length<=200:=(by rw[<-W];exact hh);have HE:Hid (p++oq A (b+1)=X++o++l8 (A b) R):=eI (by rw[<-hX,oq,W,aa];simp);have HC:=eI ai;have E2:=eI a4;have yR:=nI (show (R:Int)<=9223372036854775807 by omega);have yC:=nI (show (C:Int)<=9223372036854775807 by omega);have b4:4+(iz (R:Int)).length<=9223372036854775807:=om;have b2:¬9223372036854775807<4+(iz (R:Int)).length:=om;have b5:4+(iz (R:Int)).length+1<=9223372036854775807:=om;have b3:¬9223372036854775807<4+(iz (R:Int)).length+1:=om;have cx:4+(iz (R:Int)).length+1+(iz (C:Int)).length<=9223372036854775807:=om;have ct:¬9223372036854775807<4+(iz (R:Int)).length+1+(iz (C:Int)).length:=om;have cy:4+(iz (R:Int)).length+1+(iz (C:Int)).length+1<=9223372036854775807:=om;have cu:¬9223372036854775807<4+(iz (R:Int)).length+1+(iz (C:Int)).length+1:=om;have br:Hid ((wr.alloc (.cells #[.i (R:Int),.i (C:Int),.slice f a z,.slice t nb E] 52)).heap[wr.heap.size]?=some (.cells #[.i (R:Int),.i (C:Int),.slice f a z,.slice t nb E] 52)):=eI (Go.heap_alloc_new wr _);clear hX W a4 D B bw bu mp aa ai a7 hh;go_wp2_with fail;clear g0 g1 g2 g3 H;generalize wr.alloc _=wC at*;have ce:=ar.tr sN;have H:=s.c0;have q1:=s.c1;have dr:=uB wC;have J1:=@pn (R:Int) wC.drew om om
    go_region_held_law (fun K=>K.cell? (jj wr.heap.size 0)=some (.i (R:Int))/\K.cell? (jj wr.heap.size 1)=some (.i (C:Int))) (go_keep)
     (first
       | (go_at_call 31;with_reducible refine mo J1 fun w4 s4=> ?_;have v4:=dr.tr s4;have p0:=(s.aA v4).c0;have p1:=(s.aA v4).c1;have J2:=@pn (C:Int) w4 om om)
       | (go_at_call 31;with_reducible refine mo J2 fun w5 s5=> ?_;have v5:=v4.tr s5;have t0:=(s.aA v5).c0;have t1:=(s.aA v5).c1;obtain⟨w6,c6,u,s6,a3⟩:=ac1 ((⟨#[109,97,112,32]⟩:ByteArray)++⟨(iz (R:Int)).toArray⟩++⟨#[32]⟩++⟨(iz (C:Int)).toArray⟩++⟨#[10]⟩) o E2.out w5;have I:=v5.tr s6;have m0:=(s.aA I).c0;have m1:=(s.aA I).c1;have R6:=(P.out.aA sN).aA I;have av:=ce.tr I)
       | (refine ye rfl _ _ rfl h.heap.size _ X rfl R6 (jj w5.heap.size 0) o _ _ rfl rfl a3 om av.size ?_
          intro v7 w7 R7 ac;have z6:=I.size;have cd:h.S w7:=av.grown ac av.size (fun aq hq=>(R6.lt aq hq).1);have an:some wr.heap.size≠u3.ownBlock:=fun e=>by have:=(P.out.lt _ e.symm).2;omega
          have h5:Hid (w7.heap[wr.heap.size]?=some (.cells #[.i (R:Int),.i (C:Int),.slice f a z,.slice t nb E] 52)):=eI ((ac.block wr.heap.size om an).trans (lG br.out I));have n0:=(ie.of_heap h5.out).c0;have n1:=(ie.of_heap h5.out).c1;have R7:=eI R7;have ac:=eI ac))
    all_goals clear H q1 p0 p1 t0 t1 m0 m1 n0 n1 J1 J2 u a3
    all_goals go_wp2_with fail
    generalize wr.heap.size=T at*;go_loopw [3,6] (fun au i wr=>∃r:Nat,r<=R/\i=.i (r:Int)/\h.S wr/\Hid (wr.heap[T]?=some (.cells #[.i (R:Int),.i (C:Int),.slice f a z,.slice t nb E] 52))/\Hid (jm wr h.heap.size au (X++o++l8 (A b) r))) (fun _ i _=>R-(intOf i).toNat)
    case atStart=>exact⟨0,om,rfl,cd,h5,eI (by rw[l8,iJ];exact R7.out)⟩
    case round=>
     obtain⟨r,hr,rfl,sx,O,ab⟩:=hrel;have SX:=sA.tr sx;have Q:=ie.of_heap O.out;have H:=Q.c0;by_cases ao:r<R
     . have cq:(r:Int)<R:=om;have q1:=Q.c1;have q2:=Q.c2;obtain⟨F,hF⟩:∃F,F=r*C:=⟨_,rfl⟩;obtain⟨G,hG⟩:∃G,G=F+C:=⟨_,rfl⟩;have ci:G<=a:=by
        rw[HW.out,hG,hF];have:=aP C (show r+1<=R from ao);rw[bI,dS] at this;exact this
       have co:a<=20000*20000:=(by rw[HW.out];exact dF ca cC);have e1:(r:Int)*(C:Int)=F:=(by rw[hF,dR]);have e2:(F:Int)+(C:Int)=G:=om;have f1:(F:Int)<=G:=om;have f2:(G:Int)<=z:=om;have f3:(G:Int)<=400000000:=om;have HF:=eI hF;have HG:=eI hG;have bn:=(LB r (by rw[l.out];exact ao)).1;subst bn;have bb:ke (fun j=>(A b).W (F+j)) (G-F):=fun j v=>vW _ om;have b8:ke (fun j=>(A b).B (r+j)) 1:=fun j v=>vB _ (by rw[l.out];omega);have a6:G-F+nU (fun j=>(A b).W (F+j)) (G-F)<=68719476736:=(by have e:=cD (A b).W F (G-F);have Z:=qm (R:=(A b).W) (show F+(G-F)<=a by omega);have:=ax.out;omega);have bq:1+nU (fun j=>(A b).B (r+j)) 1<=68719476736:=(by have e:=cD (A b).B r 1;have Z:=qm (R:=(A b).B) (show r+1<=nb by rw[l.out];omega);have:=ax.out;have:=l.out;omega);have L:z=F->Cl 32 #[.slice f (G-F) 0] wr fun e K=>e=.returned (.string ⟨(mO (fun j=>(A b).W (F+j)) (G-F)).toArray⟩)/\wr.S K:=fun ch=>@dX f n bW ba (G-F) 0 _ wr a6 (fun j v=>absurd v om) (fun j v=>absurd v om) bb;have JB:=@dX _ n bW (ba+F*3) (G-F) (z-F) _ wr a6 (fun j v=>a5.out _ om) ((LW.aA SX).sub F (G-F) om) bb;have cl:¬E=r:=(by have:=l.out;omega);have cp:(r:Int)+1<=(E:Int):=(by have:=l.out;omega);have q3:=Q.c3;obtain⟨q,al⟩:∃bj,mO (fun j=>(A b).W (F+j)) (G-F)=bj:=⟨_,rfl⟩;rw[al] at L JB;have cm:=a9 r om;have bz:=a8 r ao;obtain⟨U,hU⟩:∃U,mO (fun j=>(A b).B (r+j)) 1=U:=⟨_,rfl⟩;have V:q++U++[10]=32::bH (A b) r:=(by rw[<-adz,<-al,<-hU];unfold a2;rw[HC.out,<-hF,show G-F=C by omega];rfl);obtain⟨S,aj⟩:∃af,bH (A b) r=af:=⟨_,rfl⟩;rw[aj] at V bz;have cw:q.length+U.length<=10000000000000:=(by have:=congrArg List.length V;simp only[aT,fS,mR] at this;omega);have HU:=eI hU;have ER:=eI V;obtain⟨Y,hY⟩:∃Y,X++o++l8 (A b) r=Y:=⟨_,rfl⟩;have ck:Y.length<=30000000000400:=(by rw[<-hY,aT,aT];omega);rw[hY] at ab;have bh:Hid (X++o++l8 (A b) (r+1)=Y++S):=eI (by rw[l8,aj,<-hY];simp);clear hF hG al hU aj V hY;have b4:q.length+U.length<=9223372036854775807:=om;have b2:¬9223372036854775807<q.length+U.length:=om;have b5:q.length+U.length+1<=9223372036854775807:=om;have b3:¬9223372036854775807<q.length+U.length+1:=om;by_cases bs:z=F
       focus
        subst bs;replace L:=L rfl;go_wp2_with fail;refine L.mono ?_
       rotate_left
       focus
        go_wp2_with fail;refine JB.mono ?_
       all_goals
        rintro e w8 ⟨rfl,s8⟩;clear L JB;have bi:=SX.tr s8;have b9:=(ie.of_heap (lG O.out s8)).c3;have J8:=@dX (jp bB (oB+r*3)) n bB (oB+r*3) 1 (E-r) (fun j=>(A b).B (r+j)) w8 bq (fun j v=>fB.out _ (by have:=l.out;omega)) (by have h9:=(LB.aA bi).sub r 1 (by rw[l.out];omega);rw[kJ,Go.WideShapes.add_plain] at h9;exact h9) b8;rw[HU.out] at J8;go_wp2_with fail;with_reducible refine J8.mono ?_
        rintro e w9 ⟨rfl,s9⟩;clear J8;have v9:=s8.tr s9;obtain⟨c0,cg,u,cb,a0⟩:=ac1 (((⟨q.toArray⟩:ByteArray)++⟨U.toArray⟩++⟨#[10]⟩).extract 1 (q.length+U.length+1)) S (anL ER.out) w9;have ad:=v9.tr cb;have az:=ab.out.aA ad;have aw:=sx.tr ad;have b0:Y.length+S.length<=100000000000000:=om;have c1:=ad.size;go_wp2_with (at_builtin;refine ww rfl _ _ rfl h.heap.size _ _ rfl az (jj w9.heap.size 0) S _ _ rfl rfl a0 b0 aw.size ?_);intro cz bc ag am;have cf:h.S bc:=aw.grown am aw.size (fun aq hq=>(az.lt aq hq).1);have an:some T≠u3.ownBlock:=fun e=>ab.out.ne O.out e.symm;have bo:Hid (bc.heap[T]?=some (.cells #[.i (R:Int),.i (C:Int),.slice f a z,.slice (jp bB oB) nb E] 52)):=eI ((am.block T (by have:=am3 O.out;omega) an).trans (lG O.out ad));have ag:=eI ag;clear u a0 am q3 b9;go_wp2;go_roundw
        case measure=>exact yI
        case rel=>exact⟨r+1,om,by go_num,cf,bo,eI (by rw[bh.out];exact ag.out)⟩
     . have er:r=R:=om;subst er;have b1:¬((r:Int)<r):=om;go_wp2;go_roundw
       case rel=>exact⟨b+1,om,by go_num,sx,eI (by rw[HE.out];exact ab.out)⟩
       case measure=>exact yI
  . have ek:b=d:=om;subst ek;have b1:¬((b:Int)<b):=om;obtain⟨ah,hZ⟩:∃ah,p++oq A b=ah:=⟨_,rfl⟩;rw[hZ] at P;have HZ:Hid (wG b A=ah):=eI (by rw[wG,ay.out,hZ]);clear hZ;obtain⟨gg,cc,eg,u⟩:=P.out.str;subst eg;go_wp2;go_ret;rw[HZ.out];exact⟨rfl,SS⟩
end Go.Proofs.YtinihjgnnlemmaaGreatDoor
