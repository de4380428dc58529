import Derived.Test.YtinihjgnnlemmaaGreatDoorOwnP32
set_option maxHeartbeats 6400000
set_option maxRecDepth 100000
set_option linter.unusedVariables false
namespace Go.Proofs.YtinihjgnnlemmaaGreatDoor
open Tryz Go.RowKit
variable{w v W V:World}{n m c d k i j l o b p q t r s g h e:Nat}{a A B:Option Addr}{X Y Z:Nat->Nat}{u U:Value}{z y:Int}{G:eQ}{P:Nat->Prop}{Q:Rat}
theorem pack{P:Program}{d:Go.Code}{Q:Exit->Act->World->Prop}{K:Act->World->Prop}{a:Act}(G:Act->Act->World->Prop)(h:d.wp P (Exit.then (G a) Q) a w)(g:∀b c,G a b c->K b c):d.wp P (Exit.then K Q) a w:=
 Go.Code.wp_mono (fun e b c f=>by cases e<;>first | exact g _ _ f | exact f) h
structure bL(wB:World)(n:Nat)(z:Value)(bv bw bs:Nat)(w':World):Prop where
 s:wB.Since wB.heap.size w'
 v:w'.rowIs bv 50 n (fun _=>.slice none 0 0)
 w:w'.ownsRow wB.heap.size 50 1 (.slice (some ⟨bw,0,none⟩) 0 0) 0 []
 b:eS w' bs (.slice (some ⟨bv,0,none⟩) n n) (.slice (some ⟨bw,0,none⟩) 0 0) z
 lv:wB.heap.size<=bv
 lb:wB.heap.size<=bs
 n1:bv≠bw
 n2:bv≠bs
 n3:bw≠bs
theorem j9(f:w.heap.size=n)(b c a:Obj):w.S (((w.alloc b).alloc c).alloc a).drew/\(((w.alloc b).alloc c).alloc a).drew.heap[n]?=some b/\(((w.alloc b).alloc c).alloc a).drew.heap[n+1]?=some c/\(((w.alloc b).alloc c).alloc a).drew.heap[n+1+1]?=some a:=by
 subst f;have g:(w.alloc b).heap.size=w.heap.size+1:=by simp
 have h:((w.alloc b).alloc c).heap.size=w.heap.size+1+1:=by simp
 have e:=nS ((w.alloc b).alloc c) a;rw[h] at e;have d:=nS (w.alloc b) c;rw[g] at d;refine⟨(((fA _ _).alloc qz _).alloc (by simp;omega) _).drew, ?_, ?_,e⟩
 . exact (Deep.blk_alloc_lt _ _ _ om).trans ((Deep.blk_alloc_lt _ _ _ om).trans (nS _ _))
 . exact (Deep.blk_alloc_lt _ _ _ om).trans d
theorem bL.of{n bv m b:Nat}(s:w.S v)(h:v.heap[bv]?=some (.o (madeCells #[.n] n) 50))(i:v.heap[m]?=some (.o #[] 50))(f:v.heap[b]?=some (.o #[.s bv n n,.s m 0 0,u] 194))
 (lv:w.heap.size<=bv)(p:w.heap.size<=m)(a:w.heap.size<=b)(q:bv≠m)(r:bv≠b)(t:m≠b):bL w n u bv m b v:=by
 refine⟨s, ?_, ?_, ?_,lv,a,q,r,t⟩
 . obtain⟨g,j,l,d⟩:=iY v (.n) n 50;have c:(v.alloc (.o (madeCells #[.n] n) 50)).heap[v.heap.size]?=some (.o (madeCells #[.n] n) 50):=nS _ _;exact⟨g,by rw[h,<-c];exact j,l,d⟩
 . exact⟨rfl,.inr ⟨m,0, #[],rfl,p,i,aC _,aJ _,rfl,rfl⟩⟩
 . have e:∀k,v.cell? (jj b k)=(v.alloc (.o #[.s bv n n,.s m 0 0,u] 194)).cell? (jj v.heap.size k):=fun k=>by
    have c:(v.alloc (.o #[.s bv n n,.s m 0 0,u] 194)).heap[v.heap.size]?=some (.o #[.s bv n n,.s m 0 0,u] 194):=nS _ _;simp only[World.cell?,f,c]
   have o:∀k,v.frozen? (jj b k)=(v.alloc (.o #[.s bv n n,.s m 0 0,u] 194)).frozen? (jj v.heap.size k):=fun k=>by have c:(v.alloc (.o #[.s bv n n,.s m 0 0,u] 194)).heap[v.heap.size]?=some (.o #[.s bv n n,.s m 0 0,u] 194):=nS _ _;simp only[World.frozen?,f,c]
   have B:=eS.new v (.s bv n n) (.s m 0 0) u 194;exact⟨(e 0).trans B.c0,(e 1).trans B.c1,(e 2).trans B.c2,fun k=>(o k).trans (B.f k)⟩
theorem wH.cA{w w':World}(h:wH w n u U)(e:w'.heap[n]?=w.heap[n]?):wH w' n u U:=
 ⟨(aO (w:=w) (a:=jj n 0) e).trans h.c0,(aO (w:=w) (a:=jj n 1) e).trans h.c1⟩
theorem eS.off{z:Value}(h:eS w n u U z)(a:d≠n)(k:Nat)(q:Value):eS (w.setCell ⟨d,k,none⟩ q) n u U z:=
 h.cA (fN _ _ _ _ (fun e=>a (by simp at e;exact e.symm)))
theorem VS.off{bv n d k:Nat}{y:Nat->Prop}{V:Nat->Nat->Rat}{f:Nat->Value}{q:Value}(h:VS P w bv n X y V f)(t:d≠bv)(l:¬P d):VS P (w.setCell ⟨d,k,none⟩ q) bv n X y V f:=by
 have a:∀x,x≠d->(w.setCell (jj d k) q).heap[x]?=w.heap[x]?:=fun x g=>fN _ _ _ _ (fun e=>g (by simp at e;exact e));refine⟨h.R.of_block (a bv (fun e=>t e.symm)),h.nz,fun j u v=> ?_,h.no⟩;obtain⟨b,o,c,m,p,i,r,s⟩:=h.yes j u v;exact⟨b,o,c,m,p,i,by simpa [World.setCell] using r,s.blocks (fun _=>a b (fun e=>l (e▸i))) (fun x _ g=>a x (fun e=>l (e▸g)))⟩
def BehR(Ph:Nat->Prop)(g:eQ)(i c:Nat)(h:Nat->Rat)(w:World)(e:Ending)(w':World):Prop:=
 ∃Z bv bw kw f,w.heap.size<=bv/\w.Since w.heap.size w'/\(∀q,Z q->w.heap.size<=q∨Ph q)/\
  if (g.N (i-1)).op=5/\2<c then e=.returned (.agg #[.slice (some ⟨bv,0,none⟩) (g.nn+1) (g.nn+1),.slice (some ⟨bw,0,none⟩) (vD g i) kw,.int .i64 ((i-1:Nat):Int)])/\VS Z w' bv (g.nn+1) (vD g) (fun j=>j<i/\i<iM g j) (pf g i c h) f/\bw≠bv/\ML KW w' (fun q=>q≠bv) (some ⟨bw,0,none⟩) bw 0 ((List.range (vD g i)).map fun e=>(List.range (c/2+c % 2)).map (aN g i c h e))
  else e=.returned (.agg #[.slice (some ⟨bv,0,none⟩) (g.nn+1) (g.nn+1),.slice (some ⟨bw,0,none⟩) 0 kw,.int .i64 (i:Int)])/\bw≠bv/\VS Z w' bv (g.nn+1) (vD g) (fun j=>(j<i/\i<iM g j)∨j=i) (pf g i c h) f
theorem amx(a:c<m)(b:n<X c):((c:Nat):Int)∈jv X n m:=by
 unfold jv;rw[dT];exact⟨c,by rw[mP];exact⟨dU.2 a,by simpa using b⟩,rfl⟩
theorem ez(a:Q.num.natAbs<4294967296)(b:Q.den<4294967296):Qb Q 1048640:=
 have e:(4294967296:Nat)<=4294967296^1048640:=by
  have:=dP (n:=4294967296) qd (show 1<=1048640 by decide);rwa[Nat.pow_one] at this
 ⟨aS a e,aS b e⟩
theorem ch(h:Q=0∨Q=1):Qb Q 1048640:=by
 rcases h with rfl | rfl<;>exact ez qd qd
theorem ajx{f d:Nat->Nat}(h:n<=m):aB f d i n<=aB f d i m:=by
 induction h with
 | refl=>exact aC _
 | step _ ih=>rw[aB];omega
theorem oM{v:Value}(h:w.cell? (jj n m)=some u)(c:n≠d):(w.setCell ⟨d,k,none⟩ v).cell? (jj n m)=some u:=
 (aO (w:=w) (a:=jj n m) (fN _ _ _ _ (fun e=>c (by simp at e;exact e)))).trans h
theorem GL.cap{α:Type}{K:LK α}{L:List α}{b:List Value}(h:GL K P w n (.s m c d) L b):c<=d:=by
 obtain⟨-,⟨e,-⟩ | ⟨j,a,g,e,-,-,k,-⟩⟩:=h.own
 . cases e
 . simp only[Value.slice.injEq] at e;obtain⟨-,f,i⟩:=e;omega
theorem VS.iff{bv n:Nat}{c d:Nat->Prop}{V:Nat->Nat->Rat}{f:Nat->Value}(h:VS P w bv n X c V f)(e:∀j,d j↔c j):VS P w bv n X d V f:=
 ⟨h.R,h.nz,fun j a b=>h.yes j a ((e j).1 b),fun j a b=>h.no j a (fun k=>b ((e j).2 k))⟩
theorem VS.put{bv n j b m c:Nat}{D:Nat->Prop}{V:Nat->Nat->Rat}{f:Nat->Value}(h:VS P w bv n X D V f)(s:w.S v)(C:j<n)(hb:P b)(hl:b<v.heap.size)(A:X j<=c)(Q:ij v P (jp b m) b m (X j) (V j)):
 VS P (v.setCell ⟨bv,j,none⟩ (.slice (jp b m) (X j) c)) bv n X (fun x=>D x∨x=j) V (fun x=>if x=j then .slice (jp b m) (X j) c else f x):=by
 have p:=h.aA s;have g:∀q,P q->(v.setCell (jj bv j) (.l (jp b m) (X j) c)).heap[q]?=v.heap[q]?:=fun q d=>fN _ _ _ _ (fun e=>h.nz (by simp at e;exact e▸d));have r:(v.setCell (jj bv j) (.l (jp b m) (X j) c)).heap.size=v.heap.size:=by simp[World.setCell]
 refine⟨p.R.set j _,h.nz,fun x k i=> ?_,fun x k i=> ?_⟩
 . by_cases e:x=j
   . subst e;exact⟨b,m,c,qz,A,hb,by rw[r];exact hl,Q.blocks (fun _=>g b hb) (fun q _ d=>g q d)⟩
   . obtain⟨l,B,t,u,o,a,y,z⟩:=p.yes x k (by rcases i with h | h;exact h;exact absurd h e);exact⟨l,B,t,by rw[aM e];exact u,o,a,by rw[r];exact y,z.blocks (fun _=>g l a) (fun q _ d=>g q d)⟩
 . rw[aM (fun e=>i (.inr e))];exact h.no x k (fun e=>i (.inl e))
structure Gr(T:Nat->Prop)(w w':World):Prop where
 os:w'.os=w.os
 tape:w'.tape=w.tape
 output:w'.output=w.output
 size:w.heap.size<=w'.heap.size
 block:∀q,q<w.heap.size->¬T q->w'.heap[q]?=w.heap[q]?
section
variable{T T':Nat->Prop}{w w1 w2 w':World}{b c k B:Nat}{v:Value}
theorem Gr.refl(P:Nat->Prop)(w:World):Gr P w w:=⟨rfl,rfl,rfl,aC _,fun _ _ _=>rfl⟩
theorem Gr.trans(h:Gr T w w1)(k:Gr T' w1 w2)(c:∀q,q<w.heap.size->T' q->T q):Gr T w w2:=
 ⟨k.os.trans h.os,k.tape.trans h.tape,k.output.trans h.output,aU h.size k.size,fun q a b=>(k.block q (aS a h.size) (fun e=>b (c q a e))).trans (h.block q a b)⟩
theorem Gr.of(s:w.S w'):Gr T w w':=⟨s.os,s.tape,s.output,s.size,fun q a _=>s.block q a⟩
theorem Gr.gb(g:w.grownBy w' (some c)):Gr (fun q=>q=c) w w':=⟨g.os,g.tape,g.output,g.size,fun _ b a=>ig g b a⟩
theorem Gr.put(h:Gr T w w')(hb:T b∨w.heap.size<=b)(n:Nat)(u:Value):Gr T w (w'.setCell ⟨b,n,none⟩ u):=
 ⟨h.os,h.tape,h.output,by simpa [World.setCell] using h.size,fun q c a=>(fN _ _ _ _ (fun e=>by simp at e;subst e;rcases hb with h | h;exact a h;omega)).trans (h.block q c a)⟩
theorem Gr.since(s:w.Since B w1)(h:Gr T w1 w2)(a:∀q,T q->B<=q)(c:B<=w1.heap.size):w.Since B w2:=
 ⟨h.os.trans s.os,h.tape.trans s.tape,h.output.trans s.output,aU s.size h.size,fun q b=>(h.block q om (fun e=>by have:=a q e;omega)).trans (s.block q b)⟩
theorem Gr.cell(h:Gr T w w')(c:w.cell? (jj b k)=some v)(d:¬T b):w'.cell? (jj b k)=some v:=
 (aO (w:=w) (a:=jj b k) (h.block b (aG _ _ c) d)).trans c
end
section
variable{α:Type}{K:LK α}{P P' T:Nat->Prop}{w w':World}{base:Nat}{v:Value}{L:List α}{xs:List Value}
theorem GL.gr(d:K.Ok)(h:GL K P w base v L xs)(g:Gr T w w')(n:∀b,v.ownBlock=some b->¬T b)(m:∀q,q<w.heap.size->P q->¬T q):GL K P w' base v L xs:=by
 refine⟨?_,fun i x o=>d.imp (d.move (d.imp (p':=fun q=>(P q/\v.ownBlock≠some q)/\q<w.heap.size) (h.at_ i x o) (fun q c a=>⟨a,c⟩)) g.size (fun q c a=>g.block q c (m q c a.1.1))) (fun q _ a=>a.1)⟩;obtain⟨e,⟨k,l⟩ | ⟨b,f,j,rfl,p,hb,r⟩⟩:=h.own
 . exact⟨e,.inl ⟨k,l⟩⟩
 . exact⟨e,.inr ⟨b,f,j,rfl,p,(g.block b (dM.1 hb).1 (n b rfl)).trans hb,r⟩⟩
theorem GL.imp(e:K.Ok)(h:GL K P w base v L xs)(b:∀q,q<w.heap.size->P q->P' q):GL K P' w base v L xs:=
 ⟨h.own,fun i x d=>e.imp (h.at_ i x d) (fun q c a=>⟨b q c a.1,a.2⟩)⟩
end
theorem VS.gr{T:Nat->Prop}{bv n:Nat}{t:Nat->Prop}{V:Nat->Nat->Rat}{f:Nat->Value}(h:VS P w bv n X t V f)(g:Gr T w v)(hb:¬T bv)(c:∀q,q<w.heap.size->P q->¬T q):VS P v bv n X t V f:=
 ⟨h.R.of_block (g.block _ h.R.lt hb),h.nz,fun j o p=>by
   obtain⟨e,s,i,k,l,b,a,m⟩:=h.yes j o p;exact⟨e,s,i,k,l,b,aS a g.size,m.blocks (fun _=>g.block _ a (c _ a b)) (fun q d r=>g.block q d (c q d r))⟩,h.no⟩
theorem uM(h:Q=0∨Q=1):∃a:Int,Q=(a:Rat)/\0<=a/\a<=1:=by
 rcases h with rfl | rfl
 . exact⟨0,rfl,om,om⟩
 . exact⟨1,rfl,om,om⟩
theorem aoM{r:Rat}(h:Q=0∨Q=1)(c:r=0∨r=1):Qb (Q+r) 1048640:=by
 obtain⟨a,rfl,d,e⟩:=uM h;obtain⟨b,rfl,f,g⟩:=uM c;rw[<-Rat.intCast_add];exact ez (by rw[Rat.num_intCast];omega) (by rw[Rat.den_intCast];decide)
theorem ahx{G:eQ}(gp:pg G){a A B:Option Addr}{m c d k i j bl l o b p q t r s:Nat}{P:Nat->Prop}{h:Nat->Rat}{w:World}(go:LwM w G m a A B c d k i j bl l)(hs:(p,q)∈gR G)(gn:ij w P (jp t r) t r (pZ G (p,q)) h)(hu:∀H,h H=0∨h H=1)(qw:∀z,z<G.nn->∀x,x<(G.N z).nv->Qb ((G.N z).w x) 1048640)(fo:pZ G (p,q)<=s):
 Cl 160 #[.agg (gV G a A B c d k),.s i (G.nn+1) o,.s bl (G.nn+1) b,.agg #[.i (p:Int),.i (q:Int)],.slice (jp t r) (pZ G (p,q)) s] w fun e O=>BehR P G p q h w e O:=by
 have fs:=gp.head.n;obtain⟨i1,i2,-,ag⟩:=pC hs;simp only at i1 i2 ag;obtain⟨z,b7⟩:∃z,p=z+1:=⟨p-1,om⟩;have ND:=gp.nd (i:=z) om;have cd:=run_make_row' (P:=Tryz.prog) 157 50 (.n) 24 underlying157 kr rfl .i64 .i64 (G.nn+1) om om;rw[show ((G.nn+1:Nat):Int)=(G.nn:Int)+1 from rfl] at cd;have HE:=eI gp;have HK:=eI b7;have ez:(p:Int)-1=(z:Int):=om;clear b7;have sA:=fA w (.o (gV G a A B c d k) 115);have bA:=fO.new w (.i G.inn) (.i G.rounds) (.l a G.nl c) (.l A G.nh d) (.l B G.nn k) (.i G.out) 115;have zA:(w.alloc (.o (gV G a A B c d k) 115)).heap.size=w.heap.size+1:=by simp
 have bB:=wH.new (w.alloc (.o (gV G a A B c d k) 115)) (.i (p:Int)) (.i (q:Int)) 191;have sB:=sA.alloc sA.size (.o #[.i (p:Int),.i (q:Int)] 191);have s2:=(aF (w.alloc (.o (gV G a A B c d k) 115)).heap.size (w.alloc (.o (gV G a A B c d k) 115))).alloc zR (.o #[.i (p:Int),.i (q:Int)] 191);have s3:=yD.alloc (aC ((w.alloc (.o (gV G a A B c d k) 115)).alloc (.o #[.i (p:Int),.i (q:Int)] 191)).heap.size) (.o #[.n,.n,.i 0] 194);have rB:=eS.new ((w.alloc (.o (gV G a A B c d k) 115)).alloc (.o #[.i (p:Int),.i (q:Int)] 191)) (.n) (.n) (.i 0) 194;have zB:((w.alloc (.o (gV G a A B c d k) 115)).alloc (.o #[.i (p:Int),.i (q:Int)] 191)).heap.size=w.heap.size+2:=by simp
 have A0:=(bA.aA s2).aA s3;have B0:=bB.aA s3;have S0:=sB.tr s3;rw[zA] at B0;rw[zB] at rB;have V:(((w.alloc (.o (gV G a A B c d k) 115)).alloc (.o #[.i (p:Int),.i (q:Int)] 191)).alloc (.o #[.n,.n,.i 0] 194)).heap.size=w.heap.size+3:=by simp
 clear sA bA bB sB s2 s3 zA zB;go_enter func160,ntmps160;go_wp2_with fail;generalize ((w.alloc (.o (gV G a A B c d k) 115)).alloc (.o #[.i (p:Int),.i (q:Int)] 191)).alloc (.o #[.n,.n,.i 0] 194)=wB at*;have b4:=A0.c4;have b0:=B0.c0;refine pack (fun dd a' O=>∃bv bw u,a'=((((((((((dd.put (some 22) (.p w.heap.size 4)).put (some 23) (.l B G.nn k)).put (some 24) (.i (G.nn:Int))).put (some 25) (.i ((G.nn:Int)+1))).put (some 26) (.s bv (G.nn+1) (G.nn+1))).put (some 27) (.s bw 0 0)).put (some 28) (.p (w.heap.size+1) 0)).put (some 29) (.i (p:Int))).put (some 30) (.agg #[.s bv (G.nn+1) (G.nn+1),.s bw 0 0,.i (p:Int)])).put (some 11) (.p u 0))/\bL wB (G.nn+1) (.i (p:Int)) bv bw u O) ?_ ?_
 . go_region
   all_goals first
    | (refine⟨w.heap.size+3,w.heap.size+3+1,w.heap.size+3+1+1,by simp only[ap,la,lz,ls],bL.of (j9 V _ _ _).1 (j9 V _ _ _).2.1 (j9 V _ _ _).2.2.1 (j9 V _ _ _).2.2.2 ?_ ?_ ?_ ?_ ?_ ?_⟩<;>omega)
    | (refine⟨w.heap.size+3,w.heap.size+3+1+1,w.heap.size+3+1,by simp only[ap,la,lz,ls],bL.of (j9 V _ _ _).1 (j9 V _ _ _).2.1 (j9 V _ _ _).2.2.2 (j9 V _ _ _).2.2.1 ?_ ?_ ?_ ?_ ?_ ?_⟩<;>omega)
    | (refine⟨w.heap.size+3+1,w.heap.size+3,w.heap.size+3+1+1,by simp only[ap,la,lz,ls],bL.of (j9 V _ _ _).1 (j9 V _ _ _).2.2.1 (j9 V _ _ _).2.1 (j9 V _ _ _).2.2.2 ?_ ?_ ?_ ?_ ?_ ?_⟩<;>omega)
    | (refine⟨w.heap.size+3+1+1,w.heap.size+3,w.heap.size+3+1,by simp only[ap,la,lz,ls],bL.of (j9 V _ _ _).1 (j9 V _ _ _).2.2.2 (j9 V _ _ _).2.1 (j9 V _ _ _).2.2.1 ?_ ?_ ?_ ?_ ?_ ?_⟩<;>omega)
    | (refine⟨w.heap.size+3+1,w.heap.size+3+1+1,w.heap.size+3,by simp only[ap,la,lz,ls],bL.of (j9 V _ _ _).1 (j9 V _ _ _).2.2.1 (j9 V _ _ _).2.2.2 (j9 V _ _ _).2.1 ?_ ?_ ?_ ?_ ?_ ?_⟩<;>omega)
    | (refine⟨w.heap.size+3+1+1,w.heap.size+3+1,w.heap.size+3,by simp only[ap,la,lz,ls],bL.of (j9 V _ _ _).1 (j9 V _ _ _).2.2.2 (j9 V _ _ _).2.2.1 (j9 V _ _ _).2.1 ?_ ?_ ?_ ?_ ?_ ?_⟩<;>omega)
 rintro a' w1 ⟨bv,bw,u,rfl,NS⟩;simp only[ap,la,lz,ls];have s1:=NS.s;have A1:=A0.aA s1;have B1:=B0.aA s1;have R1:=rB.aA s1;have S1:=S0.tr s1;have M1:=go.aA S1;have d0:=B1.c0;have lv:=NS.lv;have lb:=NS.lb;have cp:=NS.b.lt;have cq:=NS.v.lt;have n2:=NS.n2;have n1:=NS.n1;have n3:=NS.n3;have lw:=(NS.w.lt bw rfl).1;have gW:=eI (show GL KW (fun _=>False) w1 wB.heap.size (.s bw 0 0) [] [] from⟨NS.w,fun p x bs=>by simp at bs⟩);clear cd b4 b0;go_wp2_with fail;refine (vi om om (fun H _=>by have:=dN G H;omega) M1.L).mono ?_;rintro e R ⟨cc,kc,xc,rfl,GC,s2⟩;have S2:=S1.tr s2;have B2:=B1.aA s2;have A2:=A1.aA s2;have R2:=R1.aA s2;have T2:=NS.b.aA s2;have MC:=GC.ml KI.ok;have cr:=GC.lt;have dz:=yW (iM G) p p;have c9:=s2.size;have z1:=S1.size;have hZ:=eI (show ∀g,(R.heap.size<=g∨P g/\g<w.heap.size)->w.heap.size<=g∨P g from fun g h=>by rcases h with h | h;exact .inl om;exact .inr h.1);have v2:VS (fun g=>R.heap.size<=g∨P g/\g<w.heap.size) R bv (G.nn+1) (vD G) (fun _=>False) (pf G p q h) (fun _=>.n):=⟨NS.v.of_block (s2.block _ NS.v.lt),om,fun H _ hp=>hp.elim,fun _ _ _=>rfl⟩;generalize hn:(jv (iM G) p p).length=n at dz⊢;have HN:=eI hn;have cf:∀H,H<p->p<iM G H->ku G p H+2*vD G H<=pZ G (p,q):=fun H hj hl=>by have h1:=ajx (f:=iM G) (d:=vD G) (i:=p) (show H+1<=p from hj);rw[aB,aY hl] at h1;show aB _ _ _ _+_<=ku G p p+_;unfold ku;omega
 have cg:=(vU HE.out hs).1;have qh:∀H,Qb (h H) 1048640:=fun H=>ch (hu H);generalize hm:pZ G (p,q)=Y at*;have HM:=eI hm;clear hn GC hm;go_wp2;go_loopw [12,14] (fun aw g wr=>∃I:Nat,I<=n/\g=.i (I:Int)/\aw=.i (qq (vD G) ((jv (iM G) p p).take I):Int)/\R.grownBy wr (some bv)/\∃aq,VS (fun g=>R.heap.size<=g∨P g/\g<w.heap.size) wr bv (G.nn+1) (vD G) (fun H=>∃gj,gj<I/\(jv (iM G) p p)[gj]?=some (H:Int)) (pf G p q h) aq) (fun _ g _=>n-(intOf g).toNat)
 case atStart=>exact⟨0,aJ _,rfl,rfl,vZ _ _,_,v2.R,v2.nz,fun H hj hp=>(by obtain⟨gj,hs,-⟩:=hp;omega),fun _ _ _=>rfl⟩
 case round=>
  obtain⟨I,ht,rfl,rfl,gt,aq,HV⟩:=hrel;have zt:=gt.size;have gj:=iw S2 gt om S2.size;have az:=T2.cA (ig gt T2.lt om);have da:=A2.cA (ig gt A2.lt om);by_cases d2:I<n
  . obtain⟨c3,hz⟩:∃c3,(jv (iM G) p p)[I]?=some c3:=⟨_,aK (by rw[HN.out];exact d2)⟩;obtain⟨H,rfl,hj,d1,b9⟩:=wh hz;have st:=dL (d:=vD G) hz;have ep:qq (vD G) ((jv (iM G) p p).take I)=ku G p H:=(by rw[b9,uQ];rfl);have fv:=cf H hj d1;have v:=(MC.int hz).2;rw[aZ] at v;have v:=lj gt v om;have dj:=(HE.out.bZ (j:=H) om).2;have fu:=cG HE.out (i:=p) (j:=H) om;have dm:=(go.aA gj).d (j:=H) om;have ec:(I:Int)<n:=om;have ed:(H:Int)<((G.nn+1:Nat):Int):=om;have fw:(H:Int)<(G.nn:Int)+1:=om;have Z:=uB wr;have gm:=gj.tr Z;have t0:=(az.aA Z).c0;have b2:=(go.aA gm).d (j:=H) om;have J:=@ajO (jp t r) t r Y s (ku G p H) (vD G H) P h wr.drew (gn.aA gm) om om (fun x _=>qh x);have a3:=HV.aA Z;have fz:=a3.R.frozen H;have zd:wr.drew.heap.size=wr.heap.size:=rfl;have dw:i≠bv:=(by have:=aG _ _ (go.d (j:=H) om);simp only at this;omega);have eV:=eI (show (fun e=>h (ku G p H+2*e)-h (ku G p H+2*e+1))=pf G p q h H by funext e;unfold pf;rw[aM om]);rw[iL,ep] at st;rw[ep];have ST:=eI st;have HZ:=eI hz;clear st ep hz b9;generalize hD:vD G H=D at*;have bq:=eI hD;clear hD;generalize ku G p H=c2 at*;go_wp2_with fail
    go_region_held3 (fun O=>O.cell? (jj u 0)=some (.s bv (G.nn+1) (G.nn+1))/\O.cell? (jj i H)=some (.i (D:Int))) (go_keep)
     (first
       | (go_at_call 198;(with_reducible refine J.mono ?_);rintro e w5 ⟨cb,kb,xb,rfl,GB,U⟩;have k0:=(U.cell (a:=jj u 0) (aG _ _ t0)).trans t0;have K:=(U.cell (a:=jj i H) (aG _ _ b2)).trans b2;have bz:=a3.aA U;have k2:=bz.R.cell (i:=H) om;have k3:=bz.R.frozen H;have z5:=U.size;have k4:(w5.setCell (jj bv H) (.s cb D kb)).cell? (jj i H)=some (.i (D:Int)):=oM K dw))
    all_goals go_wp2
    all_goals go_roundw
    case rel=>
     have QB:ij w5 (fun g=>R.heap.size<=g∨P g/\g<w.heap.size) (jp cb 0) cb 0 D (pf G p q h H):=(by have q0:=(GB.ml KQ.ok).fn;rw[eV.out] at q0;exact q0.imp (fun g _ E=>.inl (by have:=E.1;omega)));have em:=GB.lt;have cm:=GB.cap;rw[<-bq.out] at QB cm;have VP:=a3.put U (j:=H) om (.inl om) em.2 cm QB;rw[bq.out] at VP;refine⟨I+1,om,by go_num,by rw[ST.out];go_num,alT (iv (iv gt (kA Z)) (kA U)) _ _,_,VP.iff (fun x=>⟨?_, ?_⟩)⟩
     . rintro⟨g,E,bs⟩;by_cases e:g=I
       . subst e;rw[HZ.out] at bs;simp at bs;exact .inr om
       . exact .inl ⟨g,om,bs⟩
     . rintro (⟨g,E,bs⟩ | rfl)
       . exact⟨g,om,bs⟩
       . exact⟨I,om,HZ.out⟩
    case measure=>exact yI
  . have e:I=n:=om;subst e;have b3:qq (vD G) ((jv (iM G) p p).take I)=ku G p p:=by rw[dV (by rw[HN.out];exact aC _),uQ];rfl
    have VC:VS (fun g=>R.heap.size<=g∨P g/\g<w.heap.size) wr bv (G.nn+1) (vD G) (fun H=>H<p/\p<iM G H) (pf G p q h) aq:=HV.iff (fun x=>⟨fun bs=>(by
     have hm:=amx bs.1 bs.2;obtain⟨g,E,e⟩:=List.getElem_of_mem hm;exact⟨g,by rw[HN.out] at E;exact E,by rw[aK E,e]⟩),fun⟨g,E,bs⟩=>(by
     obtain⟨eu,e1,e2,e3,-⟩:=wh bs;have:x=eu:=om;subst this;exact⟨e2,e3⟩)⟩)
    rw[b3];clear HV v2 MC b3 cf;have f3:¬(I:Int)<I:=om;obtain⟨bN,oN,-,LN⟩:=go.G.LN;obtain⟨dl,a1,K,MN⟩:=LN z (by have:=HK.out;omega);subst dl;obtain⟨aa,gh⟩:∃aa,(G.N z).op=aa:=⟨_,rfl⟩;have ab:p-1=z:=(by have:=HK.out;omega);have sh:=ND.sh;rw[show z+1=p by have:=HK.out;omega] at sh;rw[ab,gh] at ag;have ak:=MN.aA gj;have g0:=ak.c0;have g1:=ak.c1;have g2:=ak.c2;have g3:=ak.c3;have g4:=ak.c4;have g5:=ak.c5;rw[gh] at g0;have b4:=da.c4;have ah:=B2.cA (ig gt B2.lt om);have ay:=R2.cA (ig gt R2.lt om);have d0:=ah.c0;have ec:(z:Int)<(G.nn:Int):=(by have:=HK.out;omega);have sN:=fA wr (.o #[.i aa,.i (G.N z).a,.i (G.N z).b,.i (G.N z).k,.i (G.N z).s,.l a1 (G.N z).nv K] 144);have nB:=fO.new wr (.i aa) (.i (G.N z).a) (.i (G.N z).b) (.i (G.N z).k) (.i (G.N z).s) (.l a1 (G.N z).nv K) 144;have zN:(wr.alloc (.o #[.i aa,.i (G.N z).a,.i (G.N z).b,.i (G.N z).k,.i (G.N z).s,.l a1 (G.N z).nv K] 144)).heap.size=wr.heap.size+1:=(by simp);have gO:=GL.new KQ (fun g=>R.heap.size<=g∨P g/\g<w.heap.size) (wr.alloc (.o #[.i aa,.i (G.N z).a,.i (G.N z).b,.i (G.N z).k,.i (G.N z).s,.l a1 (G.N z).nv K] 144));have sO:=(aF (wr.alloc (.o #[.i aa,.i (G.N z).a,.i (G.N z).b,.i (G.N z).k,.i (G.N z).s,.l a1 (G.N z).nv K] 144)).heap.size (wr.alloc (.o #[.i aa,.i (G.N z).a,.i (G.N z).b,.i (G.N z).k,.i (G.N z).s,.l a1 (G.N z).nv K] 144))).alloc zR (.o #[] 70);have gO:GL KQ (fun g=>R.heap.size<=g∨P g/\g<w.heap.size) ((wr.alloc (.o #[.i aa,.i (G.N z).a,.i (G.N z).b,.i (G.N z).k,.i (G.N z).s,.l a1 (G.N z).nv K] 144)).alloc (.o #[] 70)) wr.heap.size (.s (wr.heap.size+1) 0 0) [] []:=(by rw[zN] at gO;exact⟨gO.own.mono om,gO.at_⟩);have nO:=nB.aA sO;have dr:=sN.tr sO;have zO:wr.heap.size+1<((wr.alloc (.o #[.i aa,.i (G.N z).a,.i (G.N z).b,.i (G.N z).k,.i (G.N z).s,.l a1 (G.N z).nv K] 144)).alloc (.o #[] 70)).heap.size:=(by simp);have n0:=nO.c0;have bj:=eI (show Y=ku G p p+yz G p q from HM.out.symm);have di:=HE.out.bZ (j:=p) i2;obtain⟨D,hD⟩:∃D,vD G p=D:=⟨_,rfl⟩;rw[hD] at di sh;have HD:=eI hD;clear hD;by_cases h2:aa=2
    focus
     subst h2;have c0:q=0:=(by rcases ag with h | h;exact h.2;exact absurd h.1 qd);subst c0;have own:yz G p 0=D:=(by unfold yz;rw[ab,gh,aY rfl,<-sh.c2 gh]);have af:Y=ku G p p+D:=(by rw[bj.out,own]);have eB:=eI (show (fun e=>h (ku G p p+e))=bn G p 0 h by funext e;unfold bn;rw[ab,gh,aY rfl]);generalize ku G p p=c2 at*;have ed:(c2:Int)<=Y:=om;have fr:Y-c2=D:=om;have MH:=(((gn.imp (p':=fun g=>P g/\g<w.heap.size) (fun g E hp=>⟨hp,E⟩)).part (F:=c2) (k:=D) om).ml.aA KQ.ok (sM (gj.tr dr) zR)).imp KQ.ok (p':=fun g=>(fun g=>R.heap.size<=g∨P g/\g<w.heap.size) g/\g≠wr.heap.size+1) (fun g _ E=>⟨.inr E,by have:=gj.size;omega⟩);rw[eB.out] at MH;clear af own gh ag;go_wp2_with (at_builtin;refine qD ?_);intro _;refine nK KQ.ok gO rfl MH qz rfl _ _ rfl rfl rfl om ?_;rintro co ko bh ⟨⟨xo,GO⟩,S,dp,a0⟩;have SQ:wr.S bh:=iw dr S om om;have nQ:=nO.cA (ig S nO.lt om);rw[aZ] at GO⊢;rw[pT] at GO;obtain⟨FO,ac,ad⟩:∃F:Nat->Rat,bn G p 0 h=F/\pf G p 0 h p=F:=⟨_,rfl,by funext e;unfold pf;rw[aY rfl]⟩;rw[ac] at GO;have a2:=eI ad;clear ac ad;have nr:=eI (show ¬((G.N (p-1)).op=5/\2<0) from fun h=>absurd h.2 om);have TQ:=az.aA SQ;have RQ:=ay.aA SQ;have BQ:=ah.aA SQ;have VQ:=VC.aA SQ;have S9:=gj.tr SQ;have zq:=SQ.size;clear gO S dp nO n0 MH dr sO nB sN
    rotate_left;by_cases h3:aa=3
    focus
     subst h3;have c0:q=0:=(by rcases ag with h | h;exact h.2;exact absurd h.1 qd);subst c0;have own:yz G p 0=2*D:=(by unfold yz;rw[ab,gh,aM qd,aY rfl,<-sh.c3 gh]);have af:Y=ku G p p+2*D:=(by rw[bj.out,own]);have eB:=eI (show (fun e=>h (ku G p p+2*e)-(G.N z).w 0*h (ku G p p+2*e+1))=bn G p 0 h by funext e;unfold bn;rw[ab,gh,aM qd,aY rfl]);have cs:=sh.f.v3 gh;obtain⟨bV,oV,-,LV⟩:=MN.L.LV;have QV:=LV.qs sh.f.ok;obtain⟨dn,xv,yv,CV⟩:=QV 0 om;subst dn;rw[iT,fV] at CV;have CV:bU w (fun g=>m<=g) bV oV ((G.N z).w 0) xv yv:=CV;have ct:=qw z (by have:=HK.out;omega) 0 om;have dm:=go.d (j:=p) i2;rw[HD.out] at dm;have nr:=eI (show ¬((G.N (p-1)).op=5/\2<0) from fun h=>absurd h.2 om);generalize ku G p p=c2 at*;generalize (G.N z).w 0=v0 at*;have bc:=eI af;have d6:Y<=2100000:=cg;have NV:=eI cs;clear af own gh ag cs;go_wp2;generalize (wr.alloc (.o #[.i 3,.i (G.N z).a,.i (G.N z).b,.i (G.N z).k,.i (G.N z).s,.l (jp bV oV) (G.N z).nv K] 144)).alloc (.o #[] 70)=wo at*;generalize wr=w9 at*;go_loopw [17,18] (fun aw g f=>∃e:Nat,e<=D/\g=.i (e:Int)/\wo.grownBy f (some (w9.heap.size+1))/\∃v K x1,aw=.s v e K/\(v=w9.heap.size+1∨wo.heap.size<=v)/\GL KQ (fun g=>R.heap.size<=g∨P g/\g<w.heap.size) f w9.heap.size (.s v e K) ((List.range e).map fun e=>h (c2+2*e)-v0*h (c2+2*e+1)) x1) (fun _ g _=>D-(intOf g).toNat)
     case atStart=>exact⟨0,aJ _,rfl,vZ _ _,w9.heap.size+1,0,[],rfl,.inl rfl,gO⟩
     obtain⟨e,he,rfl,g3,v,bg,x1,rfl,b6,G1⟩:=hrel;have zo:=g3.size;have so:=dr.size;have s9:=gj.size;have s3:=iw dr g3 om dr.size;have S3:=gj.tr s3;have bi:=G1.lt;have dg:=(S3.cell (a:=jj i p) (aG _ _ dm)).trans dm;have bm:=ah.aA s3;have n3:=nO.cA (ig g3 nO.lt om);have ck:(p:Int)<((G.nn+1:Nat):Int):=om;have cl:(p:Int)<(G.nn:Int)+1:=om;by_cases ca:e<D
     focus
      obtain⟨M,ae⟩:∃x,x=c2+2*e:=⟨_,rfl⟩;obtain⟨y,au⟩:∃x,x=M+1:=⟨_,rfl⟩;have d7:=bc.out;obtain⟨-,y1,v1,C1⟩:=gn M om;obtain⟨-,y2,v2,C2⟩:=gn y om;have Z:=uB wr;have gm:=S3.tr Z;have Q:=C1.aA gm;have D2:=C2.aA gm;have DV:=CV.aA gm;have a4:=n3.aA Z;have e0:=Q.c0;have e1:=Q.c1;have e2:=Q.c2;have e3:=D2.c0;have e4:=D2.c1;have e5:=D2.c2;have e6:=DV.c0;have e7:=DV.c1;have e8:=DV.c2;have e9:=a4.c5;have d3:=bm.c0;have qp:Qb (v0*h y) 1048640:=by
       rcases hu y with e | e
       . rw[e,mS];exact ch (.inl rfl)
       . rw[e,oG];exact ct
      have JM:=tZ ct (qh y) om DV.R.read D2.R.read;have q1:IntKind.i64.wrap ((c2:Int)+2*(e:Int))=(M:Int):=(by rw[show (c2:Int)+2*(e:Int)=M by omega];exact gU om om);have q2:IntKind.i64.wrap ((M:Int)+1)=(y:Int):=(by rw[show (M:Int)+1=(y:Int) by omega];exact gU om om);have q3:IntKind.i64.wrap (2*(e:Int))=2*(e:Int):=gU om om;have cj:(M:Int)<Y:=om;have ef:(y:Int)<Y:=om;have fx:(0:Int)<((G.N z).nv:Int):=(by have:=NV.out;omega);have fy:0<(G.N z).nv:=(by have:=NV.out;omega);have eh:(e:Int)<D:=om;have G3:=G1.aA KQ.ok Z;have zd:wr.drew.heap.size=wr.heap.size:=rfl;have eq:=eI (show (fun e=>h (c2+2*e)-v0*h (c2+2*e+1)) e=h M-v0*h y by rw[au,ae]);have b1:=C1.lt;have fe:=CV.lt;clear ae au d7;go_wp2_with fail
      go_region_held3 (fun O=>O.cell? (jj t (r+M*3))=some (.bool (qn (h M)))/\O.cell? (jj t (r+M*3+1))=some y1/\O.cell? (jj t (r+M*3+2))=some v1/\O.cell? (jj t (r+y*3))=some (.bool (qn (h y)))/\O.cell? (jj t (r+y*3+1))=some y2/\O.cell? (jj t (r+y*3+2))=some v2/\O.cell? (jj bV oV)=some (.bool (qn v0))/\O.cell? (jj bV (oV+1))=some xv/\O.cell? (jj bV (oV+2))=some yv/\O.cell? (jj w9.heap.size 5)=some (.l (jp bV oV) (G.N z).nv K)) (go_keep)
       (first
         | (go_at_call 199;(with_reducible refine JM.mono ?_);rintro e w5 ⟨u5,rfl,RM,U⟩;have W:=Q.aA U;have L:=D2.aA U;have FV:=DV.aA U;have k0:=W.c0;have aj:=W.c1;have k2:=W.c2;have k3:=L.c0;have k4:=L.c1;have k5:=L.c2;have k6:=FV.c0;have k7:=FV.c1;have k8:=FV.c2;have k9:=(a4.aA U).c5;have JS:=ro (qh M) qp om W.R.read RM.read)
         | (go_at_call 163;(with_reducible refine JS.mono ?_);rintro e w6 ⟨u6,rfl,RP,X⟩;have RQ:=RP;obtain⟨a8,n8,c8,b8,m8,d8,-,-,-,-,-,-,e8,-⟩:=RQ;subst e8;have W:=W.aA X;have L:=L.aA X;have FV:=FV.aA X;have k0:=W.c0;have aj:=W.c1;have k2:=W.c2;have k3:=L.c0;have k4:=L.c1;have k5:=L.c2;have k6:=FV.c0;have k7:=FV.c1;have k8:=FV.c2;have k9:=((a4.aA U).aA X).c5;have G6:=(G3.aA KQ.ok U).aA KQ.ok X;have z5:=U.size;have z6:=X.size;have sV:=fA w6 (.o #[.bool (qn (h M-v0*h y)),.l a8 n8 c8,.l b8 m8 d8] 70))
         | (refine oH (m:=1) KQ.ok (G6.aA KQ.ok sV) qz (ML.one (p:=fun g=>(fun g=>R.heap.size<=g∨P g/\g<w.heap.size) g/\g≠v) KQ.ok (c:=[.bool (qn (h M-v0*h y)),.l a8 n8 c8,.l b8 m8 d8]) (x:=h M-v0*h y) ⟨_,_,rfl,RP.imp (fun G _ hg=>⟨.inl om,om⟩)⟩ 70) rfl rfl _ _ rfl rfl rfl om ?_
            rintro c' k' O ⟨⟨an,G'⟩,S,ba,a0⟩;have C:t≠v:=om;have bf:bV≠v:=om;have cu:=fF S k0 C;have cv:=fF S aj C;have cw:=fF S k2 C;have cx:=fF S k3 C;have cy:=fF S k4 C;have cz:=fF S k5 C;have ev:=fF S k6 bf;have ew:=fF S k7 bf;have ex:=fF S k8 bf;have gf:=fF S k9 om))
      all_goals go_wp2
      all_goals go_roundw
      case rel=>exact⟨e+1,om,by go_num,ue (iv (iv g3 (kA Z)) (iv (kA U) (iv (kA X) (kA sV)))) S b6,c',k',an,rfl,by have:=sV.size;omega,by rw[je,eq.out];exact G'⟩
      case measure=>exact yI
     have ee:D=e:=om;subst ee;have eg:¬(D:Int)<D:=om;have SQ:=s3;have nQ:=n3;have GO:=G1;rw[eB.out] at GO;obtain⟨FO,ac,ad⟩:∃F:Nat->Rat,bn G p 0 h=F/\pf G p 0 h p=F:=⟨_,rfl,by funext e;unfold pf;rw[aY rfl]⟩;rw[ac] at GO;have a2:=eI ad;clear ac ad;have TQ:=az.aA SQ;have RQ:=ay.aA SQ;have BQ:=ah.aA SQ;have VQ:=VC.aA SQ;have S9:=gj.tr SQ;have zq:=SQ.size;clear G1 gO dr sO nB sN nO n0 zo so s9 bi b6 n3 bm g3 S3;generalize wr=bh at*;generalize v=co at*;generalize bg=ko at*
    rotate_left
    focus
     obtain⟨o5,fk,fp⟩:aa=5/\1<q/\q<=(G.N z).k.toNat:=by
      rcases ag with h | h
      . exact absurd h.1 om
      . exact h
     subst o5;have fm:q<=1000:=(vU HE.out hs).2;have own:yz G p q=D*(3*(q/2)+2*(q % 2)):=(by unfold yz;rw[ab,gh,aM qd,aM qd,HD.out]);obtain⟨c1,hW⟩:∃c1,aN G p q h=c1:=⟨_,rfl⟩;have eB:=eI (show (fun e=>c1 e 0)=bn G p q h by funext e;unfold bn;rw[ab,gh,aM qd,aM qd,hW]);have af:Y=ku G p p+D*(3*(q/2)+2*(q % 2)):=(by rw[bj.out,own]);obtain⟨gl,hS⟩:∃gl,gl=3*(q/2)+2*(q % 2):=⟨_,rfl⟩;have dh:=eI (show ∀e I,I<q/2->c1 e I=h (ku G p p+e*gl+3*I)+h (ku G p p+e*gl+3*I+1)-h (ku G p p+e*gl+3*I+2) from fun e I ht=>by rw[<-hW,hS];unfold aN;rw[aY ht]);have dk:=eI (show ∀e,c1 e (q/2)=h (ku G p p+e*gl+3*(q/2))-h (ku G p p+e*gl+3*(q/2)+1) from fun e=>by rw[<-hW,hS];unfold aN;rw[aM om]);rw[<-hS] at af;have dm:=go.d (j:=p) i2;rw[HD.out] at dm;generalize ku G p p=c2 at*;have bc:=eI af;have HS:=eI hS;have HO:=eI gh;have HW:=eI hW;have d6:Y<=2100000:=cg;have a7:=(gW.out.aA KW.ok s2).gr KW.ok (Gr.gb gt) (fun ai hb=>by simp[Value.ownBlock] at hb;omega) (fun _ _ h=>h.elim);have f4:=a7.lt.2;have f5:=gW.out.lt.2;have b5:=a7.aA KW.ok dr;have T9:=az.aA dr;have gg:=dr.size;clear af own gh ag hS hW;go_wp2;generalize (wr.alloc (.o #[.i 5,.i (G.N z).a,.i (G.N z).b,.i (G.N z).k,.i (G.N z).s,.l a1 (G.N z).nv K] 144)).alloc (.o #[] 70)=wo at*;generalize wr=w9 at*;go_loopw [12,17,19] (fun up aw g f=>∃e F:Nat,e<=D/\F=c2+e*gl/\up=.i (F:Int)/\g=.i (e:Int)/\Gr (fun g=>g=u∨g=bw∨g=w9.heap.size+1) wo f/\∃v K x1 N k2 x2,aw=.s v e K/\eS f u (.s bv (G.nn+1) (G.nn+1)) (.s N e k2) (.i (p:Int))/\v≠N/\(N=bw∨wo.heap.size<=N)/\(v=w9.heap.size+1∨wo.heap.size<=v)/\GL KQ (fun g=>wo.heap.size<=g/\g≠N) f w9.heap.size (.s v e K) ((List.range e).map fun e=>c1 e 0) x1/\GL KW (fun g=>wo.heap.size<=g/\g≠v) f wB.heap.size (.s N e k2) ((List.range e).map fun e=>(List.range (q/2+q % 2)).map (c1 e)) x2) (fun _ _ g _=>D-(intOf g).toNat)
     case atStart=>exact⟨0,c2,aJ _,by rw[iT,fV],rfl,rfl,Gr.refl _ _,w9.heap.size+1,0,[],bw,0,[],rfl,T9,om,.inl rfl,.inl rfl,⟨gO.own,fun p x bs=>by simp at bs⟩,⟨b5.own,fun p x bs=>by simp at bs⟩⟩
     obtain⟨e,F,he,hF,rfl,rfl,g3,v,bg,x1,N,av,x2,rfl,T3,f9,fn,fl,G1,G2⟩:=hrel;generalize wr=f at*;have z3:=g3.size;have s9:=gj.size;have S3:w.S f:=Gr.since (gj.tr dr) g3 (fun g E=>by omega) om;have bi:=G1.lt;have er:=G2.lt;have dg:=(S3.cell (a:=jj i p) (aG _ _ dm)).trans dm;have B3:=(ah.aA dr).cA (g3.block _ (by have:=ah.lt;omega) om);have ey:=B3.c0;have fa:=B3.c1;have ck:(p:Int)<((G.nn+1:Nat):Int):=om;have cl:(p:Int)<(G.nn:Int)+1:=om;have HF:=eI hF;clear hF;by_cases ca:e<D
     focus
      have fj:F+gl<=Y:=(by have h1:=aP gl (show e+1<=D from ca);rw[bI,dS] at h1;have:=bc.out;have:=HF.out;omega);have am:gl=3*(q/2)+2*(q % 2):=HS.out;have fg:F+3*(q/2)<=Y:=om;have bu:=eI am;clear am;have eh:(e:Int)<D:=om;have sa:=fA f (.o #[] 70);have za:f.heap.size<(f.alloc (.o #[] 70)).heap.size:=(by simp);have gN:GL KQ (fun g=>f.heap.size<=g) (f.alloc (.o #[] 70)) f.heap.size (.s f.heap.size 0 0) [] []:=GL.new KQ _ f;have B4:=(B3.aA sa).c1;go_wp2;generalize f.alloc (.o #[] 70)=wa at*;go_loopw [12,20,21] (fun up uw uc w4=>∃I T:Nat,I<=q/2/\T=F+3*I/\up=.i (T:Int)/\uc=.i (I:Int)/\wa.grownBy w4 (some f.heap.size)/\∃c4 k4 x4,uw=.s c4 I k4/\(c4=f.heap.size∨wa.heap.size<=c4)/\GL KQ (fun g=>f.heap.size<=g) w4 f.heap.size (.s c4 I k4) ((List.range I).map (c1 e)) x4) (fun _ _ g _=>q/2-(intOf g).toNat)
      case atStart=>exact⟨0,F,aJ _,rfl,rfl,rfl,vZ _ _,f.heap.size,0,[],rfl,.inl rfl,gN⟩
      obtain⟨I,T,ht,al,rfl,rfl,g4,c4,el,x4,rfl,bb,G4⟩:=hrel;have z4:=g4.size;have s4:f.S wr:=iw sa g4 zR sa.size;have S4:=S3.tr s4;have f6:=G4.lt;have fb:=(B3.aA s4).c1;by_cases d4:I<q/2
      focus
       obtain⟨M,ae⟩:∃x,x=T+1:=⟨_,rfl⟩;obtain⟨y,au⟩:∃x,x=T+2:=⟨_,rfl⟩;obtain⟨-,y0,v0,C0⟩:=gn T om;obtain⟨-,y1,v1,C1⟩:=gn M om;obtain⟨-,y2,v2,C2⟩:=gn y om;have Z:=uB wr;have gm:=S4.tr Z;have D0:=C0.aA gm;have Q:=C1.aA gm;have D2:=C2.aA gm;have e0:=D0.c0;have e1:=D0.c1;have e2:=D0.c2;have e3:=Q.c0;have e4:=Q.c1;have e5:=Q.c2;have e6:=D2.c0;have e7:=D2.c1;have e8:=D2.c2;have qs:=aoM (hu T) (hu M);have JA:=sI (qh T) (qh M) om D0.R.read Q.R.read;have q1:IntKind.i64.wrap ((T:Int)+1)=(M:Int):=(by rw[show (T:Int)+1=(M:Int) by omega];exact gU om om);have q2:IntKind.i64.wrap ((T:Int)+2)=(y:Int):=(by rw[show (T:Int)+2=(y:Int) by omega];exact gU om om);have ci:(T:Int)<Y:=om;have cj:(M:Int)<Y:=om;have ef:(y:Int)<Y:=om;have ej:(I:Int)<q/2:=om;have G5:=G4.aA KQ.ok Z;have zd:wr.drew.heap.size=wr.heap.size:=rfl;have eq:=eI (show c1 e I=h T+h M-h y by rw[dh.out e I d4,ae,au,al,HF.out]);have b1:=C0.lt;have ax:=eI al;have ea:=hu y;have dc:=S3.size;clear ae au al;generalize h T+h M=vs at*;generalize h T=u0 at*;generalize h M=u1 at*;generalize h y=u2 at*;go_wp2_with fail
       go_region_held3 (fun O=>O.cell? (jj t (r+T*3))=some (.bool (qn u0))/\O.cell? (jj t (r+T*3+1))=some y0/\O.cell? (jj t (r+T*3+2))=some v0/\O.cell? (jj t (r+M*3))=some (.bool (qn u1))/\O.cell? (jj t (r+M*3+1))=some y1/\O.cell? (jj t (r+M*3+2))=some v1/\O.cell? (jj t (r+y*3))=some (.bool (qn u2))/\O.cell? (jj t (r+y*3+1))=some y2/\O.cell? (jj t (r+y*3+2))=some v2) (go_keep)
        (first
          | (go_at_call 153;(with_reducible refine JA.mono ?_);rintro e w5 ⟨u5,rfl,RM,U⟩;have F0:=D0.aA U;have W:=Q.aA U;have L:=D2.aA U;have k0:=F0.c0;have aj:=F0.c1;have k2:=F0.c2;have k3:=W.c0;have k4:=W.c1;have k5:=W.c2;have k6:=L.c0;have k7:=L.c1;have k8:=L.c2;have JS:=ro qs (ch ea) om RM.read L.R.read)
          | (go_at_call 163;(with_reducible refine JS.mono ?_);rintro e w6 ⟨u6,rfl,RP,X⟩;have RQ:=RP;obtain⟨a8,n8,c8,b8,m8,d8,-,-,-,-,-,-,e8,-⟩:=RQ;subst e8;have F0:=F0.aA X;have W:=W.aA X;have L:=L.aA X;have k0:=F0.c0;have aj:=F0.c1;have k2:=F0.c2;have k3:=W.c0;have k4:=W.c1;have k5:=W.c2;have k6:=L.c0;have k7:=L.c1;have k8:=L.c2;have G6:=(G5.aA KQ.ok U).aA KQ.ok X;have z5:=U.size;have z6:=X.size;have sV:=fA w6 (.o #[.bool (qn (vs-u2)),.l a8 n8 c8,.l b8 m8 d8] 70))
          | (refine oH (m:=1) KQ.ok (G6.aA KQ.ok sV) qz (ML.one (p:=fun g=>(fun g=>f.heap.size<=g) g/\g≠c4) KQ.ok (c:=[.bool (qn (vs-u2)),.l a8 n8 c8,.l b8 m8 d8]) (x:=vs-u2) ⟨_,_,rfl,RP.imp (fun G _ hg=>⟨om,om⟩)⟩ 70) rfl rfl _ _ rfl rfl rfl om ?_
             rintro c' k' O ⟨⟨an,G'⟩,S,ba,a0⟩;have C:t≠c4:=om;have cu:=fF S k0 C;have cv:=fF S aj C;have cw:=fF S k2 C;have cx:=fF S k3 C;have cy:=fF S k4 C;have cz:=fF S k5 C;have ev:=fF S k6 C;have ew:=fF S k7 C;have ex:=fF S k8 C))
       all_goals go_wp2
       all_goals go_roundw
       case rel=>have:=ax.out;exact⟨I+1,T+3,om,om,by go_num,by go_num,ue (iv (iv g4 (kA Z)) (iv (kA U) (iv (kA X) (kA sV)))) S bb,c',k',an,rfl,by have:=sV.size;omega,by rw[je,eq.out];exact G'⟩
       case measure=>exact yI
      have ej:¬(I:Int)<q/2:=om;have et:I=q/2:=om;by_cases ce:q % 2=1
      focus
       obtain⟨M,ae⟩:∃x,x=T+1:=⟨_,rfl⟩;have am:=bu.out;obtain⟨-,y0,v0,C0⟩:=gn T om;obtain⟨-,y1,v1,C1⟩:=gn M om;have Z:=uB wr;have gm:=S4.tr Z;have D0:=C0.aA gm;have Q:=C1.aA gm;have e0:=D0.c0;have e1:=D0.c1;have e2:=D0.c2;have e3:=Q.c0;have e4:=Q.c1;have e5:=Q.c2;have JS:=ro (qh T) (qh M) om D0.R.read Q.R.read;have q1:IntKind.i64.wrap ((T:Int)+1)=(M:Int):=(by rw[show (T:Int)+1=(M:Int) by omega];exact gU om om);have ci:(T:Int)<Y:=om;have cj:(M:Int)<Y:=om;have ei:(q:Int) % 2=1:=om;have G5:=G4.aA KQ.ok Z;have zd:wr.drew.heap.size=wr.heap.size:=rfl;have eq:=eI (show c1 e I=h T-h M by rw[et,dk.out e,ae,al,et,HF.out]);have b1:=C0.lt;have ax:=eI (show T+2=F+gl by omega);have HT:=eI (show I+1=q/2+q % 2 by omega);have dc:=S3.size;clear ae al et am ce;generalize h T=u0 at*;generalize h M=u1 at*;go_wp2_with fail
       go_region_held3 (fun O=>O.cell? (jj t (r+T*3))=some (.bool (qn u0))/\O.cell? (jj t (r+T*3+1))=some y0/\O.cell? (jj t (r+T*3+2))=some v0/\O.cell? (jj t (r+M*3))=some (.bool (qn u1))/\O.cell? (jj t (r+M*3+1))=some y1/\O.cell? (jj t (r+M*3+2))=some v1) (go_keep)
        (first
          | (go_at_call 163;(with_reducible refine JS.mono ?_);rintro e w6 ⟨u6,rfl,RP,X⟩;have RQ:=RP;obtain⟨a8,n8,c8,b8,m8,d8,-,-,-,-,-,-,e8,-⟩:=RQ;subst e8;have F0:=D0.aA X;have W:=Q.aA X;have k0:=F0.c0;have aj:=F0.c1;have k2:=F0.c2;have k3:=W.c0;have k4:=W.c1;have k5:=W.c2;have G6:=G5.aA KQ.ok X;have z6:=X.size;have sV:=fA w6 (.o #[.bool (qn (u0-u1)),.l a8 n8 c8,.l b8 m8 d8] 70))
          | (refine oH (m:=1) KQ.ok (G6.aA KQ.ok sV) qz (ML.one (p:=fun g=>(fun g=>f.heap.size<=g) g/\g≠c4) KQ.ok (c:=[.bool (qn (u0-u1)),.l a8 n8 c8,.l b8 m8 d8]) (x:=u0-u1) ⟨_,_,rfl,RP.imp (fun G _ hg=>⟨om,om⟩)⟩ 70) rfl rfl _ _ rfl rfl rfl om ?_
             rintro c' k' O ⟨⟨an,G'⟩,S,ba,a0⟩;have C:t≠c4:=om;have cu:=fF S k0 C;have cv:=fF S aj C;have cw:=fF S k2 C;have cx:=fF S k3 C;have cy:=fF S k4 C;have cz:=fF S k5 C))
       have g5:=ue (iv (iv g4 (kA Z)) (iv (kA X) (kA sV))) S bb;have dy:c'=f.heap.size∨wa.heap.size<=c':=(by have:=sV.size;omega);have G5:GL KQ (fun g=>f.heap.size<=g) O f.heap.size (.s c' (I+1) k') ((List.range (I+1)).map (c1 e)) an:=(by rw[je,eq.out];exact G');have br:=ax;clear G' S ba a0 G6 sV ax G4 RP X eq D0 Q F0 W Z gm;generalize I+1=nw at*;generalize O=w5 at*;generalize c'=c5 at*;generalize k'=k5 at*;generalize an=x5 at*
      rotate_left
      focus
       have am:=bu.out;have g5:=g4;have dy:=bb;have G5:=G4;have br:=eI (show T=F+gl by omega);have HT:=eI (show I=q/2+q % 2 by omega);have ei:¬(q:Int) % 2=1:=om;have ci:(T:Int)<=Y:=om;clear G4 et al am ce;generalize I=nw at*;generalize wr=w5 at*;generalize c4=c5 at*;generalize el=k5 at*;generalize x4=x5 at*
      all_goals
       have ft:1<=nw:=(by have:=HT.out;omega);have U:f.S w5:=iw sa g5 zR sa.size;have z5:=U.size;have T5:=T3.aA U;have f7:=G5.lt;have de:=G5.cap;have ga:=T5.c1;have gi:=fA w5 (.o #[.s c5 nw k5] 50);have zW:w5.heap.size<(w5.alloc (.o #[.s c5 nw k5] 50)).heap.size:=(by simp);have fc:=(B3.aA U).c1;have GQ:=G5.imp (P':=fun g=>f.heap.size<=g/\g<w5.heap.size) KQ.ok (fun g h1 h2=>⟨h2,h1⟩);have MQ:=GQ.ml KQ.ok;go_wp2_with (at_builtin;refine qD ?_);intro _;refine nK (m:=1) KW.ok ((G2.aA KW.ok U).aA KW.ok gi) qz (ML.one (p:=fun g=>(wo.heap.size<=g/\g≠v)/\g≠N) KW.ok (c:=[.s c5 nw k5]) (x:=(List.range nw).map (c1 e)) ⟨_,c5,0,k5,qz,by simpa using de,fun _=>⟨⟨om,om⟩,om⟩,MQ.imp KQ.ok (fun g _ E=>by have:=E.1.1;exact⟨⟨om,om⟩,om⟩)⟩ 50) rfl rfl _ _ rfl rfl rfl om ?_;rintro c6 k6 w6 ⟨⟨x6,G6⟩,ar,dq,d5⟩;have fh:c6=N∨w5.heap.size<c6:=by
        rcases dq with h | h
        . exact .inl h
        . exact .inr (by rw[h];exact zW)
       have du:u≠N:=om;have T6:=(T5.aA gi).cA (ig ar (T5.aA gi).lt du);have ff:=T6.f 1;have gb:=T6.c1;have T7:=T6.bH (.s c6 (e+1) k6);have pB:Gr (fun g=>g=u) w6 (w6.setCell (jj u 1) (.s c6 (e+1) k6)):=Gr.put (T:=fun g=>g=u) (Gr.refl _ _) (.inl rfl) 1 _;have db:=(((((G1.imp (P':=fun g=>wo.heap.size<=g/\g≠N/\g<f.heap.size) KQ.ok (fun g h1 h2=>⟨h2.1,h2.2,h1⟩)).aA KQ.ok U).aA KQ.ok gi).gr KQ.ok (Gr.gb ar) (fun ai hb=>by simp[Value.ownBlock] at hb;omega) (fun g _ E=>E.2.1)).gr KQ.ok pB (fun ai hb=>by simp[Value.ownBlock] at hb;omega) (fun g _ E=>by have:=E.1;omega)).imp KQ.ok (P':=fun g=>wo.heap.size<=g/\g≠c6) (fun g _ E=>⟨E.1,by have:=E.2.1;have:=E.2.2;omega⟩);have Q6:=((GQ.aA KQ.ok gi).gr KQ.ok (Gr.gb ar) (fun ai hb=>by simp[Value.ownBlock] at hb;omega) (fun g _ E=>by have:=E.1;omega)).gr KQ.ok pB (fun ai hb=>by simp[Value.ownBlock] at hb;omega) (fun g _ E=>by have:=E.1;omega);have bp:=(G6.gr KW.ok pB (fun ai hb=>by simp[Value.ownBlock] at hb;omega) (fun g _ E=>by have:=E.1;omega));obtain⟨-,xw,yw,CW⟩:=(Q6.ml KQ.ok).fn 0 om;rw[iT,fV] at CW;have RW:=CW.R;obtain⟨a8,n8,c8,b8,m8,d8,-,-,-,-,-,-,e8,-⟩:=CW.R;simp only[ag3,fM] at e8;obtain⟨rfl,rfl⟩:=e8;have gc:=CW.c0;have gd:=CW.c1;have ge:=CW.c2;have f0:(0:Int)<nw:=om;have g7:=(((g3.trans (Gr.of U) (T':=fun _=>False) (fun _ _ h=>h.elim)).trans (Gr.of gi) (T':=fun _=>False) (fun _ _ h=>h.elim)).trans (Gr.gb ar) (fun g E e=>by omega)).put (b:=u) (.inl (.inl rfl)) 1 (.s c6 (e+1) k6);clear pB Q6 GQ MQ T5 T6 G6 ar gi G5 g5 CW;go_wp2_with (at_builtin;refine qD ?_);intro _;rw[show w6.heap.size=(w6.setCell (jj u 1) (.s c6 (e+1) k6)).heap.size by simp[World.setCell]] at d5⊢;generalize w6.setCell (jj u 1) (.s c6 (e+1) k6)=w7 at*;have z7:=g7.size;have f8:=bp.lt;have sX:=fA w7 (.o #[.bool (qn (c1 e 0)),.l a8 n8 c8,.l b8 m8 d8] 70);have zX:w7.heap.size<(w7.alloc (.o #[.bool (qn (c1 e 0)),.l a8 n8 c8,.l b8 m8 d8] 70)).heap.size:=(by simp);refine nK (m:=1) KQ.ok (db.aA KQ.ok sX) qz (ML.one (p:=fun g=>(wo.heap.size<=g/\g≠c6)/\g≠v) KQ.ok (c:=[.bool (qn (c1 e 0)),.l a8 n8 c8,.l b8 m8 d8]) (x:=c1 e 0) ⟨_,_,rfl,RW.imp (fun g _ E=>by have:=E.1.1;have:=E.1.2;exact⟨⟨om,om⟩,om⟩)⟩ 70) rfl rfl _ _ rfl rfl rfl om ?_;rintro c7 k7 w8 ⟨⟨x7,G7⟩,a9,ds,fq⟩;have fi:c7=v∨w7.heap.size<c7:=by
        rcases ds with h | h
        . exact .inl h
        . exact .inr (by rw[h];exact zX)
       have dt:u≠v:=om;have T8:=(T7.aA sX).cA (ig a9 (T7.aA sX).lt dt);have bo:=(((bp.imp (P':=fun g=>wo.heap.size<=g/\g≠v/\g≠c7) KW.ok (fun g h1 h2=>⟨h2.1,h2.2,by have:=h2.2;omega⟩)).aA KW.ok sX).gr KW.ok (Gr.gb a9) (fun ai hb=>by simp[Value.ownBlock] at hb;omega) (fun g _ E=>E.2.1)).imp KW.ok (P':=fun g=>wo.heap.size<=g/\g≠c7) (fun g _ E=>⟨E.1,E.2.2⟩);have g8:=(g7.trans (Gr.of sX) (T':=fun _=>False) (fun _ _ h=>h.elim)).trans (Gr.gb a9) (fun g E e=>by omega);have fd:w8.cell? (jj (w.heap.size+1) 0)=some (.i (p:Int)):=g8.cell (ah.aA dr).c0 om;go_wp2;go_roundw
       case rel=>
        refine⟨e+1,F+gl,om,by rw[HF.out,bI,dS,fH],by have:=br.out;go_num,by go_num,g8,c7,k7,x7,c6,k6,x6,rfl,T8,om,om,om, ?_, ?_⟩
        . rw[je];exact G7
        . rw[HT.out] at bo;rw[je];exact bo
       case measure=>exact yI
     have ee:D=e:=om;subst ee;have eg:¬(D:Int)<D:=om;have g9:Gr (fun g=>g=u∨g=bw) w9 f:=Gr.trans (Gr.of dr) g3 (fun g E h=>by omega);have nQ:=nO.cA (g3.block _ nO.lt om);have RQ:=ay.cA (g9.block _ ay.lt om);have BQ:=B3;have VQ:=VC.gr g9 om (fun g _ E=>by omega);have S9:=S3;have zq:=g9.size;by_cases dx:2<q
     focus
      have ek:(2:Int)<q:=om;have f2:=T3.f 2;have t2:=T3.c2;have T4:=T3.bF (.i (z:Int));have R4:=RQ.off (d:=u) om 2 (.i (z:Int));have t3:=T4.c0;have t4:=T4.c1;have t5:=T4.c2;have r0:=R4.c0;have r1:=R4.c1;have r2:=R4.c2;have rf:=R4.f;have a5:=eI (((R4.bE (.s bv (G.nn+1) (G.nn+1))).bH (.s N D av)).bF (.i (z:Int)));have VF:=eI ((((VQ.off (d:=u) (k:=2) (q:=.i (z:Int)) om om).off (d:=w.heap.size+2) (k:=0) (q:=.s bv (G.nn+1) (G.nn+1)) om om).off (d:=w.heap.size+2) (k:=1) (q:=.s N D av) om om).off (d:=w.heap.size+2) (k:=2) (q:=.i (z:Int)) om om);have SF:=eI ((((S9.setCell (a:=jj u 2) (show w.heap.size<=u by omega) (.i (z:Int))).setCell (a:=jj (w.heap.size+2) 0) (show w.heap.size<=w.heap.size+2 by omega) (.s bv (G.nn+1) (G.nn+1))).setCell (a:=jj (w.heap.size+2) 1) (show w.heap.size<=w.heap.size+2 by omega) (.s N D av)).setCell (a:=jj (w.heap.size+2) 2) (show w.heap.size<=w.heap.size+2 by omega) (.i (z:Int)));have GF:Gr (fun g=>g=u∨g=w.heap.size+2) f _:=((((Gr.refl _ f).put (.inl (.inl rfl)) 2 (.i (z:Int))).put (.inl (.inr rfl)) 0 (.s bv (G.nn+1) (G.nn+1))).put (.inl (.inr rfl)) 1 (.s N D av)).put (.inl (.inr rfl)) 2 (.i (z:Int));have MF:=eI (((G2.gr KW.ok GF (fun ai hb=>by simp[Value.ownBlock] at hb;omega) (fun g _ E=>by have:=E.1;omega)).ml KW.ok).imp KW.ok (p':=fun g=>g≠bv) (fun g _ E=>by have:=E.1.1;omega));have nE:=eI (show N≠bv by omega);have LV:=eI (show w.heap.size<=bv by omega);have df:=eI (show (G.N (p-1)).op=5/\2<q from⟨by rw[ab];exact HO.out,dx⟩);clear cp cq lv lb c9 z1 zt cr zq GF G1 G2 bi er;go_wp2;refine bO (fB rfl underlying194 rfl kr _ _ (w.heap.size+2) _ _ _ rfl a5.out) rfl ?_;refine⟨(fun g=>R.heap.size<=g∨P g/\g<w.heap.size),bv,N,av,aq,LV.out,SF.out,hZ.out, ?_⟩;rw[aY df.out,ab,HD.out,<-HW.out] at*;exact⟨rfl,VF.out,nE.out,MF.out⟩
     have ek:¬(2:Int)<q:=om;have TQ:=T3;have GO:=G1.imp (P':=fun g=>R.heap.size<=g∨P g/\g<w.heap.size) KQ.ok (fun g _ E=>.inl (by have:=E.1;omega));rw[eB.out] at GO;obtain⟨FO,ac,ad⟩:∃F:Nat->Rat,bn G p q h=F/\pf G p q h p=F:=⟨_,rfl,by funext e;unfold pf;rw[aY rfl]⟩;rw[ac] at GO;have a2:=eI ad;have nr:=eI (show ¬((G.N (p-1)).op=5/\2<q) from fun h=>absurd h.2 om);clear ac ad G1 G2 gO a7 b5 T9 g3 g9 dr sO nB sN nO n0;generalize f=bh at*;generalize v=co at*;generalize bg=ko at*
    all_goals
     have d9:=BQ.c0;have q0:=nQ.c0;have en:=GO.lt;have cn:=GO.cap;have gi:=fA bh (.o #[] 50);have TW:=TQ.aA gi;have f1:=TW.f 1;have t0:=TW.c1;have T1:=TW.bH (.s bh.heap.size 0 0);have VW:=(VQ.aA gi).off (d:=u) (k:=1) (q:=.s bh.heap.size 0 0) (fun e=>n2 e.symm) om;have BW:wH _ _ _ _:=(BQ.aA gi).cA (w':=(bh.alloc (.o #[] 50)).setCell (jj u 1) (.s bh.heap.size 0 0)) (fN _ _ _ _ (fun e=>by simp at e;omega));have RW:=(RQ.aA gi).off (d:=u) om 1 (.s bh.heap.size 0 0);have t1:=T1.c0;have w0:=BW.c0;have N:=VW.R.cell (i:=p) om;have f2:=VW.R.frozen p;have a6:=T1.off (d:=bv) n2 p (.s co D ko);have ao:=RW.off (d:=bv) om p (.s co D ko);have t2:=a6.c0;have t3:=a6.c1;have t4:=a6.c2;have r0:=ao.c0;have r1:=ao.c1;have r2:=ao.c2;have rf:=ao.f;have ck:(p:Int)<((G.nn+1:Nat):Int):=om;have cl:(p:Int)<(G.nn:Int)+1:=om;have RR:=((ao.bE (.s bv (G.nn+1) (G.nn+1))).bH (.s bh.heap.size 0 0)).bF (.i (p:Int));have QO:ij ((bh.alloc (.o #[] 50)).setCell (jj u 1) (.s bh.heap.size 0 0)) (fun g=>R.heap.size<=g∨P g/\g<w.heap.size) (jp co 0) co 0 D FO:=(by have q0:=((GO.ml KQ.ok).fn.imp (p':=(fun g=>R.heap.size<=g∨P g/\g<w.heap.size)) (fun g _ E=>E.1)).aA gi;exact q0.blocks (fun _=>fN _ _ _ _ (fun e=>by simp at e;omega)) (fun g _ E=>fN _ _ _ _ (fun e=>by simp at e;omega)));rw[<-a2.out] at QO;rw[<-HD.out] at QO cn;have VP:=VW.put yD (j:=p) om (.inl om) (by have:=gi.size;simp only[World.setCell,Array.size_modify];omega) cn QO;rw[HD.out] at VP;have VF:=eI (((VP.off (d:=w.heap.size+2) (k:=0) (q:=.s bv (G.nn+1) (G.nn+1)) om om).off (d:=w.heap.size+2) (k:=1) (q:=.s bh.heap.size 0 0) om om).off (d:=w.heap.size+2) (k:=2) (q:=.i (p:Int)) om om);have SF:=eI ((((((S9.tr gi).setCell (a:=jj u 1) (show w.heap.size<=u by omega) (.s bh.heap.size 0 0)).setCell (a:=jj bv p) (show w.heap.size<=bv by omega) (.s co D ko)).setCell (a:=jj (w.heap.size+2) 0) (show w.heap.size<=w.heap.size+2 by omega) (.s bv (G.nn+1) (G.nn+1))).setCell (a:=jj (w.heap.size+2) 1) (show w.heap.size<=w.heap.size+2 by omega) (.s bh.heap.size 0 0)).setCell (a:=jj (w.heap.size+2) 2) (show w.heap.size<=w.heap.size+2 by omega) (.i (p:Int)));have LV:=eI (show w.heap.size<=bv by omega);have a5:=eI RR;have es:=eI (show bh.heap.size≠bv by omega);clear cp cq lv lb c9 z1 zt cr zq en VP QO RR;go_wp2;refine bO (fB rfl underlying194 rfl kr _ _ (w.heap.size+2) _ _ _ rfl a5.out) rfl ?_;refine⟨(fun g=>R.heap.size<=g∨P g/\g<w.heap.size),bv,bh.heap.size,0,(fun x=>if x=p then .s co D ko else aq x),LV.out,SF.out,hZ.out, ?_⟩;rw[aM nr.out];exact⟨rfl,es.out,VF.out⟩
structure OnV(g:eQ)(cw:Nat)(P:Nat->Prop)(V:Nat->Nat->Rat)(i:Nat):Prop where
 src:∀j,j<i->i<=iM g j->(cw≠0->i<iM g j)->P j
 out:g.out.toNat<i->P g.out.toNat
 low:∀j,P j->j<i
 rep:∀j,P j->∀e,e<vD g j->kg (V j e) (bT g (i-1)) (bD g (i-1))
theorem VS.wide{a:Nat->Prop}{bv n:Nat}{r:Nat->Prop}{V:Nat->Nat->Rat}{f:Nat->Value}(h:VS P w bv n X r V f)(d:∀q,P q->a q)(nz:¬a bv):VS a w bv n X r V f:=
 ⟨h.R,nz,fun j m p=>by
   obtain⟨b,o,c,e,g,i,k,l⟩:=h.yes j m p;exact⟨b,o,c,e,g,d _ i,k,l.imp (fun q _=>d q)⟩,h.no⟩
theorem VS.cong{bv n:Nat}{c:Nat->Prop}{V V':Nat->Nat->Rat}{f:Nat->Value}(h:VS P w bv n X c V f)(e:∀j,c j->V j=V' j):VS P w bv n X c V' f:=
 ⟨h.R,h.nz,fun j b a=>by rw[<-e j a];exact h.yes j b a,h.no⟩
theorem OnV.skip(E:pg G){V:Nat->Nat->Rat}(h:OnV G 0 P V n)(c:1<=n)(g:n<=G.nn)(b:lD G n=false):OnV G 0 P V (n+1):=by
 refine⟨fun j o hl _=> ?_,fun p=> ?_,fun j a=>by have:=h.low j a;omega,fun j a e m=> ?_⟩
 . by_cases e:j=n
   . subst e;exfalso;obtain⟨k,c,d,f,l⟩:=alC (g:=G) (i:=G.nn) (j:=j) (by show iM G j≠0;omega);have:=ajH E d f l;rw[b] at this;cases this
   . exact h.src j om om (fun h=>absurd rfl h)
 . by_cases e:G.out.toNat=n
   . have:=ajI G;rw[e,b] at this;cases this
   . exact h.out om
 . have r:=h.rep j a e m;obtain⟨k,rfl⟩:∃k,n=k+1:=⟨n-1,om⟩;exact ee E om r
theorem OnV.step{G:eQ}(E:pg G){P:Nat->Prop}{V:Nat->Nat->Rat}{n:Nat}(h:OnV G 0 P V n)(q:1<=n)(r:n<=G.nn)(g:lD G n=true):P (G.N (n-1)).a.toNat/\((G.N (n-1)).op=4->P (G.N (n-1)).b.toNat)/\OnV G 0 (fun j=>P j∨j=n) (yf G V n) (n+1):=by
 obtain⟨k,rfl⟩:∃k,n=k+1:=⟨n-1,om⟩;rw[cF] at*;have d:=E.nd (i:=k) om;have o:P (G.N k).a.toNat:=h.src _ (by have:=d.ai;omega) (afB om g (by simp[tC])) (fun h=>absurd rfl h);have p:(G.N k).op=4->P (G.N k).b.toNat:=fun b=>h.src _ (by have:=d.bi;omega) (afB om g (by simp[tC,b])) (fun h=>absurd rfl h);refine⟨o,p,fun j s hl _=> ?_,fun t=> ?_,fun j a=> ?_,fun j a e m=> ?_⟩
 . by_cases e:j=k+1
   . exact .inr e
   . exact .inl (h.src j om om (fun h=>absurd rfl h))
 . by_cases e:G.out.toNat=k+1
   . exact .inr e
   . exact .inl (h.out om)
 . rcases a with a | a
   . have:=h.low j a;omega
   . omega
 . show kg (yf G V (k+1) j e) (bT G (k+1)) (bD G (k+1));unfold yf;by_cases f:j=k+1
   . subst f;rw[aY rfl];exact afp E om (fun c l=>h.rep _ o c l) (fun b c l=>h.rep _ (p b) c (by rw[d.b4 b];exact l)) m
   . rw[aM f];exact ee E om (h.rep j (by rcases a with a | a;exact a;exact absurd a f) e m)
theorem xM{G:eQ}(df:pg G){a A B:Option Addr}{n m c d k i bl j l o b bv p q t r s:Nat}{P dd:Nat->Prop}{V W:Nat->Nat->Rat}{de:Nat->Value}{pw:Nat->Prop}{w v:World}(dc:LwM w G n a A B m c d k i bl j)(s0:w.S v)(hb:w.heap.size<=bv)(hz:G.size<=1048576)(i1:1<=r)(i2:r<=G.nn+1)
 (HV:VS P v bv (G.nn+1) (vD G) dd V de)(OV:OnV G s dd V r)(ao:s≠0->r<=G.nn/\lD G r=true/\isStep (G.N (r-1))=true/\(G.N (r-1)).op=5)(cc:s<=1000)
 (HW:ML KW v pw (jp q 0) q 0 (if s=0 then [] else (List.range (vD G r)).map fun e=>(List.range s).map (W e)))(cd:∀C,pw C->C≠bv)(cb:q≠bv)(qW:∀e X,e<vD G r->X<s->Qb (W e X) 1048640):
 Cl 159 #[.agg (gV G a A B m c d),.s k (G.nn+1) l,.s i (G.nn+1) o,.s bl (G.nn+1) b,.agg #[.s bv (G.nn+1) p,.s q (if s=0 then 0 else vD G r) t,.i ((r-1:Nat):Int)]] v fun e u=>∃Z M bf ai,ai=oU G s W (G.nn+1-r) r V/\e=.returned (.slice (jp Z M) ai.length bf)/\ai.length<=bf/\(P Z∨v.heap.size<=Z)/\ij u (fun C=>P C∨v.heap.size<=C) (jp Z M) Z M ai.length (fun x=>ai.getD x 0)/\v.grownBy u (some bv):=by
 have cq:=df.head.n;have S:=eI df;generalize b8:(if s=0 then 0 else vD G r)=NW;have sA:=fA v (.o (gV G a A B m c d) 115);have bA:=fO.new v (.i G.inn) (.i G.rounds) (.l a G.nl m) (.l A G.nh c) (.l B G.nn d) (.i G.out) 115;have zA:(v.alloc (.o (gV G a A B m c d) 115)).heap.size=v.heap.size+1:=by simp
 have bB:=eS.new (v.alloc (.o (gV G a A B m c d) 115)) (.s bv (G.nn+1) p) (.s q NW t) (.i ((r-1:Nat):Int)) 194;have s2:=(aF (v.alloc (.o (gV G a A B m c d) 115)).heap.size (v.alloc (.o (gV G a A B m c d) 115))).alloc zR (.o #[.s bv (G.nn+1) p,.s q NW t,.i ((r-1:Nat):Int)] 194);have sB:=sA.tr s2;have bc:=bA.aA s2;have zB:((v.alloc (.o (gV G a A B m c d) 115)).alloc (.o #[.s bv (G.nn+1) p,.s q NW t,.i ((r-1:Nat):Int)] 194)).heap.size=v.heap.size+2:=by simp
 rw[zA] at bB;have b2:=bB.c2;have ei:((r-1:Nat):Int)+1=(r:Int):=om;clear sA bA s2 zA;go_enter func159,ntmps159;go_wp2;generalize ((v.alloc _).alloc _)=wA at*;have c5:=HV.R.lt;have ce:VS (fun C=>P C∨v.heap.size<=C) wA bv (G.nn+1) (vD G) dd V de:=(HV.aA sB).wide (fun C h=>.inl h) (fun h=>by rcases h with h | h;exact HV.nz h;omega);go_loopw [11] (fun C wr=>∃(f:Nat) (N:Nat->Prop) (H:Nat->Nat->Rat) (f':Nat->Value),r<=f/\f<=G.nn+1/\C=.i (f:Int)/\wA.grownBy wr (some bv)/\VS (fun C=>P C∨v.heap.size<=C) wr bv (G.nn+1) (vD G) N H f'/\OnV G s N H f/\oU G s W (G.nn+1-f) f H=oU G s W (G.nn+1-r) r V/\(s≠0->f=r)) (fun C _=>G.nn+1-(intOf C).toNat)
 case atStart=>exact⟨r,dd,V,de,aC _,i2,rfl,vZ _ _,ce,OV,rfl,fun _=>rfl⟩
 case round=>
  obtain⟨f,N,H,f',cp,hi,rfl,gt,an,K,hL,c7⟩:=hrel;have zt:=gt.size;have S0:=s0.tr sB;have bb:=iw S0 gt hb S0.size;have ar:=bc.cA (ig gt bc.lt om);have a8:=bB.cA (ig gt bB.lt om);have b4:=ar.c4;by_cases c9:f<=G.nn
  . obtain⟨g,bm⟩:∃g,f=g+1:=⟨f-1,om⟩;have au:f-1=g:=om;have bw:=S.out.nd (i:=g) om;obtain⟨bN,oN,-,LN⟩:=dc.G.LN;obtain⟨b7,a1,k1,MN⟩:=LN g om;subst b7;obtain⟨E,av⟩:∃R:Nat,(G.N g).a=R:=⟨(G.N g).a.toNat,by have:=bw.a0;omega⟩;obtain⟨F,aw⟩:∃R:Nat,(G.N g).b=R:=⟨(G.N g).b.toNat,by have:=bw.b0;omega⟩;have c4:E<=g:=(by have:=bw.ai;omega);have lb:F<=g:=(by have:=bw.bi;omega);obtain⟨M,ho⟩:∃M,(G.N g).op=M:=⟨_,rfl⟩;obtain⟨aa,aq⟩:∃aa,(G.N g).k=aa:=⟨_,rfl⟩;have b1:=MN.aA bb;obtain⟨g0,g1,g2,g3,g4,g5⟩:=b1.g;rw[ho] at g0;rw[av] at g1;rw[aw] at g2;rw[aq] at g3;have cg:(f:Int)<=(G.nn:Int):=om;have ch:(g:Int)<(G.nn:Int):=om;have cs:(f:Int)<((G.nn+1:Nat):Int):=om;have ct:(f:Int)<(G.nn:Int)+1:=om;have ez:(f:Int)-1=(g:Int):=om;have sN:=fA wr (.o #[.i M,.i (E:Int),.i (F:Int),.i aa,.i (G.N g).s,.l a1 (G.N g).nv k1] 144);have nB:=fO.new wr (.i M) (.i (E:Int)) (.i (F:Int)) (.i aa) (.i (G.N g).s) (.l a1 (G.N g).nv k1) 144;have SN:=bb.tr sN;have MM:=dc.aA SN;have AN:=ar.aA sN;have BN:=a8.aA sN;have VN:=an.aA sN;have r0:=MM.N.cell (i:=f) om;have gN:=iv gt (kA sN);have bg:=eI (show isStep (G.N (f-1))=(M==2 ||M==3 ||(M==5&&decide (1<aa))) by rw[au];unfold isStep;rw[ho,aq]);have fu:=eI (show G.nn+1-f=(G.nn+1-(f+1))+1 by omega);have ag:=eI bm;have ab:=eI au;have HO:=eI ho;have ah:=eI av;have am:=eI aw;have bu:=eI aq;clear bm au ho av aw aq;cases hy:lD G f
    . have br:=eI hy;rw[hy] at r0;clear hy;go_wp2;go_roundw
      case rel=>
       have aj:s=0:=kK fun L=>by have:=(ao L).2.1;rw[<-c7 L,br.out] at this;cases this
       refine⟨f+1,N,H,f',om,om,by go_num,gN,VN,by rw[aj] at K⊢;exact K.skip S.out om c9 br.out, ?_,fun L=>absurd aj L⟩;rw[<-hL,fu.out,oU,aY br.out]
      case measure=>exact yI
    have br:=eI hy;rw[hy] at r0;clear hy;go_wp2_with fail;generalize wr.alloc _=wN at*;refine mo (wR) fun I db=> ?_;have S5:=SN.tr db;have M5:=dc.aA S5;have A5:=AN.aA db;have B5:=BN.aA db;have V5:=VN.aA db;have N5:=nB.aA db;have al:=iv gN (kA db);have z5:=db.size;have zN:=sN.size;have a6:∀g,g<G.nn->∀X,X<(G.N g).nv->((G.N g).V X).lim:=fun g hk=>by obtain⟨-,a1,k1,Mk⟩:=LN g hk;obtain⟨ba,oa,-,LV⟩:=Mk.L.LV;exact LV.lim
    have ck:szN G.N (f-1)<=1048576:=(by have:=sg (A:=G.N) (show f-1<=G.nn by omega);unfold eQ.size at hz;omega);have qV:∀R,R<=G.nn->N R->∀e,e<vD G R->Qb (H R e) 1048640:=fun R _ D e c8=>cC (S.out.cK (i:=f-1) om) om (fun g hk=>a6 g om) ck (K.rep R D e c8);have a9:=eI (fun c0:s=0=>OnV.step S.out (show OnV G 0 N H f by rw[c0] at K;exact K) om c9 br.out);obtain⟨a0,cm,a2,a3,a4,a5⟩:=A5.g;obtain⟨c0,c1,c2⟩:=B5.g;have mw:wA.heap.size<=I.heap.size:=om;cases hst:(M==2 ||M==3 ||(M==5&&decide (1<aa)))
    rotate_left
    . have ac:=eI (bg.out.trans hst);have b9:=eI (show NW=if s=0 then 0 else vD G f by rw[<-b8];split;rfl;rename_i h;rw[c7 h]);have bs:ML KW I pw (jp q 0) q 0 (if s=0 then [] else (List.range (vD G f)).map fun e=>(List.range s).map (W e)):=by
       by_cases L:s=0
       . rw[aY L];exact ML.nil _ _ _ _ _
       . rw[aM L] at HW⊢;rw[c7 L];have h1:=HW.aA KW.ok sB;exact h1.move KW.ok al.size (fun hl=>ig al (h1.lt KW.ok hl) cb) (fun C hq D=>ig al hq (cd C D))
      have J:=@afQ G S.out a A (jp bN oN) n m c d k i bl j b bv p q t f s ((r-1:Nat):Int) (fun C=>P C∨v.heap.size<=C) N H W f' pw I M5 om c9 V5 (fun R hj hl=>K.src R hj om (fun _=>hl)) ac.out (fun h=>(a9.out h).1) (fun h=>by rw[c7 h];exact (ao h).2.2.2) cc bs qV (fun e X c8 L=>qW e X (by rw[<-c7 om];exact c8) L);rw[<-b9.out] at J;go_wp2_with fail;refine J.mono ?_;rintro e w6 ⟨cr,T,nr,xr,rfl,bp,GR,z⟩;have MR:=(GR.ml KQ.ok).qs;rw[bp] at MR;have b6:bQ G H s W f=oU G s W (G.nn+1-r) r V:=(by rw[<-hL,fu.out,oU,aM (by rw[br.out];decide),aY ac.out]);have ci:=GR.cap;go_wp2;go_ret;subst bp;exact⟨cr,0,T,_,b6,rfl,ci,.inr (by have:=GR.lt;omega),MR.imp (fun C _ hq=>.inr (by have:=hq.1;omega)),iv (iv (kA sB) al) (kA z)⟩
    . have ac:=eI (bg.out.trans hst);have aj:=eI (show s=0 from kK fun L=>by
       have:=(ao L).2.2.1;rw[<-c7 L,ac.out] at this;cases this)
      obtain⟨pa,pb,b3⟩:=a9.out aj.out;have dr:=uB I;have Sd:=S5.tr dr;have cw:=V5.aA dr;have Nd:=N5.aA dr;have Bd:=B5.aA dr;obtain⟨n0,n1,n2,n3,n4,n5⟩:=Nd.g;have cn:=Bd.c0;have dm:=(dc.aA Sd).d (j:=f) c9;obtain⟨bj,oj,cj,ej,f1,f2,f3,QJ⟩:=cw.yes E om (by have:=pa;rw[ab.out,ah.out] at this;exact this);have va:=cw.R.cell (i:=E) om;rw[ej] at va;have vb:=cw.R.cell (i:=F) om;have sh:=bw.sh;rw[show g+1=f from ag.out.symm,show (G.N g).a.toNat=E by rw[ah.out];rfl] at sh;obtain⟨az,O,cz,bz,oz,bh,HZ⟩:∃az O cz bz oz,f' F=.l az O cz/\((G.N g).op=4->ij I.drew (fun _=>True) az bz oz O (H F)/\vD G f<=O/\∀x,x<O->Qb (H F x) 1048640):=by
       by_cases D:N F
       . obtain⟨bz,oz,cz,e1,e2,-,-,b5⟩:=cw.yes F om D;refine⟨_,_,_,bz,oz,e1,fun o4=>⟨b5.imp (fun _ _ _=>trivial), ?_,fun x y=>qV F om D x y⟩⟩;have:=bw.b4 o4;rw[show g+1=f from ag.out.symm,show (G.N g).b.toNat=F by rw[am.out];rfl] at this;omega
       . exact⟨none,0,0,0,0,cw.no F om D,fun o4=>absurd (by have:=pb (by rw[ab.out];exact o4);rw[ab.out,am.out] at this;exact this) D⟩
      rw[bh] at vb;obtain⟨bV,oV,-,LV⟩:=MN.L.LV;have QV:=((LV.qs sh.f.ok).imp (p':=fun _=>True) (fun _ _ _=>trivial)).aA Sd;have di:=(S.out.bZ (j:=f) c9).2;have da:=(S.out.bZ (j:=E) om).2;have a7:∀X,X<vD G E->kg (H E X) (bT G g) (bD G g):=fun X L=>by have:=K.rep E (by have:=pa;rw[ab.out,ah.out] at this;exact this) X L;rwa[ab.out] at this
      have ay:∀C,kg C (bT G (g+1)) (bD G (g+1))->Qb C 1048640:=fun C hq=>cC (S.out.cK (i:=g+1) om) om (fun g hk=>a6 g om) (by
       have:=sg (A:=G.N) (show g+1<=G.nn by omega);unfold eQ.size at hz;omega) hq
      have ak:(G.N g).a.toNat=E:=by rw[ah.out];rfl
      have J:=@ahy (G.N g) (vD G E) (vD G f) sh om da bw.nv a1 bV oV k1 (jp bj oj) az bj oj cj O cz bz oz (H E) (H F) I.drew QV (fun x y=>by
       have zi:=ey (A:=G.N) (show g<G.nn by omega);unfold fQ.size at zi;unfold eQ.size at hz;exact dt (sh.f.ok x y) (a6 g om x y) (by have:=qo (R:=(G.N g).V) y;omega)) (QJ.imp (fun _ _ _=>trivial)) (fun x y=>ay _ (ee S.out om (a7 x y))) HZ
       (fun o1 e c8 x y=>ay _ (by have:=ajn S.out (i:=g) om o1 (x:=H E) (by rw[ak];exact a7) (e:=e) (k:=x) (by rw[<-ag.out];exact c8) (by rw[ak];exact y);rw[ak] at this;exact this))
       (fun o6 e c8 x y=>ay _ (akL S.out (i:=g) om o6 (x:=H E) (by rw[ak];exact a7) (by rw[<-ag.out];exact c8) y))
      rw[HO.out,ah.out,am.out,bu.out] at J;have eV:=eI (show yf G H f f=ov (G.N g) (H E) (H F) (vD G E) by unfold yf;rw[aY rfl,ab.out,ak,show (G.N g).b.toNat=F by rw[am.out];rfl]);have cu:(E:Int)<((G.nn+1:Nat):Int):=om;have cv:(F:Int)<((G.nn+1:Nat):Int):=om;have cx:(E:Int)<(G.nn:Int)+1:=om;have cy:(F:Int)<(G.nn:Int)+1:=om;have c6:∀ {Z:Nat} {M:Nat} {cl:Value},I.drew.cell? (jj Z M)=some cl->Z≠bv->Z<I.heap.size:=fun h _=>aG _ _ h;have ca:k≠bv:=(by have:=aG _ _ (dc.d (j:=f) c9);simp only at this;omega);have ae:wr.heap.size≠bv:=(by have:=an.R.lt;omega);have cf:v.heap.size+1≠bv:=om;have Vc:=cw.cong (V':=yf G H f) (fun R D=>by unfold yf;rw[aM (by have:=K.low R D;omega)]);have zd:I.drew.heap.size=I.heap.size:=rfl;generalize bi:vD G f=U at*;have af:=eI bi;clear bi;generalize vD G E=DA at*;clear hst;go_wp2_with fail
      go_region_held3 (fun u=>u.cell? (jj wr.heap.size 0)=some (.i M)/\u.cell? (jj wr.heap.size 1)=some (.i (E:Int))/\u.cell? (jj wr.heap.size 2)=some (.i (F:Int))/\u.cell? (jj wr.heap.size 3)=some (.i aa)/\u.cell? (jj wr.heap.size 4)=some (.i (G.N g).s)/\u.cell? (jj wr.heap.size 5)=some (.l a1 (G.N g).nv k1)/\u.cell? (jj (v.heap.size+1) 0)=some (.s bv (G.nn+1) p)/\u.cell? (jj k f)=some (.i (U:Int))/\u.cell? (jj bv E)=some (.l (jp bj oj) DA cj)/\u.cell? (jj bv F)=some (.l az O cz)) (go_keep)
       (first
         | (go_at_call 197;(with_reducible refine J.mono ?_);rintro e w6 ⟨Y,T,rfl,bo,co,QR,z⟩;have N6:=Nd.aA z;obtain⟨m0,m1,m2,m3,m4,m5⟩:=N6.g;have m6:=(Bd.aA z).c0;have m7:=(z.cell (a:=jj k f) (aG _ _ dm)).trans dm;have V6:=cw.aA z;have m8:=(z.cell (a:=jj bv E) (aG _ _ va)).trans va;have m9:=(z.cell (a:=jj bv F) (aG _ _ vb)).trans vb;have mA:=V6.R.cell (i:=f) om;have mB:=V6.R.frozen f;have z6:=z.size;have x0:=oM (d:=bv) (k:=f) (v:=.s Y U T) m0 ae;have x1:=oM (d:=bv) (k:=f) (v:=.s Y U T) m1 ae;have x2:=oM (d:=bv) (k:=f) (v:=.s Y U T) m2 ae;have x3:=oM (d:=bv) (k:=f) (v:=.s Y U T) m3 ae;have x4:=oM (d:=bv) (k:=f) (v:=.s Y U T) m4 ae;have x5:=oM (d:=bv) (k:=f) (v:=.s Y U T) m5 ae;have x6:=oM (d:=bv) (k:=f) (v:=.s Y U T) m6 cf;have x7:=oM (d:=bv) (k:=f) (v:=.s Y U T) m7 ca;have x8:(w6.setCell (jj bv f) (.s Y U T)).cell? (jj bv E)=some (.l (jp bj oj) DA cj):=by rw[(V6.R.set f (.s Y U T)).cell (i:=E) om,aM om,ej]
            have x9:(w6.setCell (jj bv f) (.s Y U T)).cell? (jj bv F)=some (.l az O cz):=by
             rw[(V6.R.set f (.s Y U T)).cell (i:=F) om,aM om,bh]))
      all_goals go_wp2
      all_goals go_roundw
      case rel=>
       have c3:=ag.out;rw[<-eV.out,<-af.out] at QR;rw[<-af.out] at bo;have VP:=Vc.put z (j:=f) om (.inr om) (by have:=QR.lt (by rw[af.out];have:=(S.out.bZ (j:=f) c9).1;rw[af.out] at this;omega);exact this) bo (QR.imp (fun C _ hq=>.inr om));rw[af.out] at VP;refine⟨f+1,_,_,_,om,om,by go_num,alT (iv (iv al (kA dr)) (kA z)) _ _,VP,by rw[aj.out];exact b3, ?_,fun L=> ?_⟩
       . rw[<-hL,fu.out,oU,aM (by rw[br.out];decide),aM (by rw[ac.out];decide)]
       . have:=(ao L).2.2.1;rw[<-c7 L,ac.out] at this;cases this
      case measure=>exact yI
  . have o0:=S.out.o0;have o1:=S.out.o1;obtain⟨Q,ax⟩:∃Q:Nat,G.out=Q:=⟨G.out.toNat,om⟩;have eo:G.out.toNat=Q:=om;have po:=K.out om;rw[eo] at po;obtain⟨bj,oj,cj,ej,f1,f2,f3,QJ⟩:=an.yes Q om po;have va:=an.R.cell (i:=Q) om;rw[ej] at va;have b0:=a8.c0;have a5:=ar.c5;rw[ax] at a5;have cg:(Q:Int)<((G.nn+1:Nat):Int):=om;have ch:¬(f:Int)<=(G.nn:Int):=om
    have eL:=eI (show (List.range (vD G Q)).map (H Q)=oU G s W (G.nn+1-r) r V by
     rw[<-hL,show G.nn+1-f=0 by omega,oU,eo])
    have HO:=eI ax;clear ax eo;go_wp2;go_ret;rw[<-eL.out];refine⟨bj,oj,cj, ?_, ?_,f2, ?_,iv (kA sB) gt⟩
    . simp
    . simpa using f1
    . exact (QJ.ml).qs
theorem jy(z:Int)(n:Nat):i9 z n=0∨i9 z n=1:=by
 unfold i9;split
 . exact .inr rfl
 . exact .inl rfl
theorem ak2{a:Nat}(h:a≠b):i9 z a=0∨i9 z b=0:=by
 unfold i9;by_cases e:(a:Int)=z
 . exact .inr (aM om)
 . exact .inl (aM e)
theorem aig{r s:Rat}(h:Q=0∨Q=1)(d:r=0∨r=1)(e:s=0∨s=1):kg (Q+r-s) 4 1:=by
 obtain⟨a,rfl,f,g⟩:=uM h;obtain⟨b,rfl,i,j⟩:=uM d;obtain⟨c,rfl,k,l⟩:=uM e;exact vR (z:=a+b-c) (by rw[<-Rat.intCast_add,<-Rat.intCast_sub]) om
theorem vP{s:Rat}(h:Q=0∨Q=1)(b:s=0∨s=1):kg (Q-s) 4 1:=by
 obtain⟨a,rfl,d,e⟩:=uM h;obtain⟨c,rfl,f,g⟩:=uM b;exact vR (z:=a-c) (by rw[<-Rat.intCast_sub]) om
theorem ed(h:Q=0∨Q=1):kg Q 4 1:=by
 obtain⟨a,rfl,b,c⟩:=uM h;exact vR (z:=a) rfl om
theorem aV.lims(h:aV w n G a A B m c d):∀k,k<G.nn->∀f,f<(G.N k).nv->((G.N k).V f).lim:=fun k l=>by
 obtain⟨b,o,-,g⟩:=h.LN;obtain⟨-,q,s,e⟩:=g k l;obtain⟨r,t,-,i⟩:=e.L.LV;exact i.lim
theorem pg.qw(E:pg G)(d:G.size<=1048576)(e:∀k,k<G.nn->∀c,c<(G.N k).nv->((G.N k).V c).lim):∀k,k<G.nn->∀x,x<(G.N k).nv->Qb ((G.N k).w x) 1048640:=fun i a c b=>by
 have f:=(E.nd a).sh.f;have j:=sg (A:=G.N) (show i+1<=G.nn from a);have h:=ey (A:=G.N) a;unfold fQ.size at h;unfold eQ.size at d;exact dt (f.ok c b) (e i a c b) (by have:=qo (R:=(G.N i).V) b;omega)
theorem akK(E:pg G)(a:n<G.nn)(b:(G.N n).op=3):kg (-(G.N n).w 0) (bT G (n+1)) (bD G (n+1)):=by
 have f:=(E.bZ (j:=n+1) om).1;have r:=afp E a (x:=fun _=>-1) (z:=fun _=>0) (e:=0) (fun c _=>oe (E.cK (cZ a)) (vR (z:=-1) rfl qd)) (fun d=>absurd (b.symm.trans d) qd) om;have e:ov (G.N n) (fun _=>-1) (fun _=>0) (vD G (G.N n).a.toNat) 0=-(G.N n).w 0:=by unfold ov;rw[aM om,aM om,aY b,aY (by rfl),Rat.mul_neg,oG]
 rw[e] at r;exact r
theorem OnV.behind(E:pg G)(z:Int)(r:(n,m)∈gR G):OnV G 0 (fun j=>(j<n/\n<iM G j)∨j=n) (pf G n m (i9 z)) (n+1):=by
 obtain⟨s,b,o,a⟩:=pC r;simp only at s b o a;obtain⟨k,rfl⟩:∃k,n=k+1:=⟨n-1,om⟩;have u:=af9 E o;have d:=E.cK (i:=k+1) b;refine⟨fun j t hl _=> ?_,fun h=>.inr om,fun j q=>by omega,fun j q e _=> ?_⟩
 . by_cases e:j=k+1
   . exact .inr e
   . exact .inl ⟨om,om⟩
 . show kg (pf G (k+1) m (i9 z) j e) (bT G (k+1)) (bD G (k+1));unfold pf;by_cases l:j=k+1
   . rw[aY l];unfold bn;rw[cF] at a⊢;by_cases p:(G.N k).op=2
     . rw[aY p];exact oe d (ed (jy z _))
     . rw[aM p];by_cases f:(G.N k).op=3
       . rw[aY f];rcases ak2 (z:=z) (a:=ku G (k+1) (k+1)+2*e) (b:=ku G (k+1) (k+1)+2*e+1) om with h | h
         . rw[h];rcases jy z (ku G (k+1) (k+1)+2*e+1) with h | h
           . rw[h,mS];exact oe d (vP (.inl rfl) (.inl rfl))
           . rw[h,oG,gQ,Rat.zero_add];exact akK E om f
         . rw[h,mS];exact oe d (vP (jy z _) (.inl rfl))
       . rw[aM f];unfold aN;split
         . exact oe d (aig (jy z _) (jy z _) (jy z _))
         . exact oe d (vP (jy z _) (jy z _))
   . rw[aM l];exact oe d (vP (jy z _) (jy z _))
theorem OnV.midst(E:pg G)(z:Int)(a:(n,m)∈gR G)(f:c≠0):OnV G c (fun j=>j<n/\n<iM G j) (pf G n m (i9 z)) n:=by
 obtain⟨g,o,d,l⟩:=pC a;simp only at g o d l;have p:=af9 E d;refine⟨fun j k _ hl=>⟨k,hl f⟩,fun h=>by omega,fun j b=>b.1,fun j b e _=> ?_⟩;unfold pf;rw[aM om];exact oe (E.cK (i:=n-1) om) (vP (jy z _) (jy z _))
theorem aik(G:eQ)(n m:Nat)(z:Int)(c d:Nat):Qb (aN G n m (i9 z) c d) 1048640:=by
 have q:∀ {x:Rat},kg x 4 1->Qb x 1048640:=fun h=>ez (dD (h.bound qd).1 qd) (dD (h.bound qd).2 qd);unfold aN;split
 . exact q (aig (jy z _) (jy z _) (jy z _))
 . exact q (vP (jy z _) (jy z _))
theorem cz(d:w.heap.size=n)(a b c:Obj):w.S (((w.alloc a).alloc b).alloc c)/\(((w.alloc a).alloc b).alloc c).heap[n]?=some a/\(((w.alloc a).alloc b).alloc c).heap[n+1]?=some b/\(((w.alloc a).alloc b).alloc c).heap[n+1+1]?=some c:=
 have h:=j9 d a b c
 ⟨((fA _ _).alloc qz _).alloc (by simp;omega) _,h.2.1,h.2.2.1,h.2.2.2⟩
theorem aoe(h:((G.N (n-1)).op=2∨(G.N (n-1)).op=3)/\m=0∨(G.N (n-1)).op=5/\1<m/\m<=(G.N (n-1)).k.toNat)(a:(G.N (n-1)).op=5/\2<m):isStep (G.N (n-1))=true:=by
 unfold isStep;have:1<(G.N (n-1)).k:=om;simp[a.1,this]
def NxR(Y:Nat->Prop)(g:eQ)(t:Nat)(z:Int)(w:World)(e:Ending)(w':World):Prop:=
 ∃b o cap L,L=kF g t (i9 z)/\e=.returned (.slice (some ⟨b,o,none⟩) L.length cap)/\L.length<=cap/\Y b/\ij w' Y (some ⟨b,o,none⟩) b o L.length (fun x=>L.getD x 0)/\w.Since w.heap.size w'
theorem alF(E:pg G){n m c d k i bl j l o b p q t:Nat}{Y:Nat->Prop}(hY:∀f,w.heap.size<=f∨f=p∨P f->Y f)(M:LwM w G n a A B m c d k i bl j)(hz:G.size<=1048576)(H:ij w P (jp p q) p q (vD G 0) (i9 z))(ag:vD G 0<=t):
 Cl 116 #[.agg (gV G a A B m c d),.s k (G.nn+1) l,.s i (G.nn+1) o,.s bl (G.nn+1) b,u,.i 0,.slice (jp p q) (vD G 0) t] w fun e w'=>NxR Y G 0 z w e w':=by
 have aj:=E.head.n;have d0:=E.bZ (j:=0) om;have N:=run_make_row' (P:=Tryz.prog) 157 50 (.n) 24 underlying157 kr rfl .i64 .i64 (G.nn+1) om om;rw[show ((G.nn+1:Nat):Int)=(G.nn:Int)+1 from rfl] at N;have S:=eI E;obtain⟨-,_,_,D⟩:=H 0 om;have ae:=D.lt;clear D;have bA:=fO.new w (.i G.inn) (.i G.rounds) (.l a G.nl m) (.l A G.nh c) (.l B G.nn d) (.i G.out) 115;have T:=fA w (.o (gV G a A B m c d) 115);have y:(w.alloc (.o (gV G a A B m c d) 115)).heap.size=w.heap.size+1:=by simp
 go_enter func116,ntmps116;go_upto_region 3 with fail;have g:bL (w.alloc (.o (gV G a A B m c d) 115)) (G.nn+1) (.i 0) (w.heap.size+1) (w.heap.size+1+1) (w.heap.size+1+1+1) ((((w.alloc (.o (gV G a A B m c d) 115)).alloc (.o (madeCells #[.n] (G.nn+1)) 50)).alloc (.o #[] 50)).alloc (.o #[.s (w.heap.size+1) (G.nn+1) (G.nn+1),.s (w.heap.size+1+1) 0 0,.i 0] 194)):=
  bL.of (cz y _ _ _).1 (cz y _ _ _).2.1 (cz y _ _ _).2.2.1 (cz y _ _ _).2.2.2 om om om om om om
 generalize (((w.alloc _).alloc _).alloc _).alloc _=V at*;have s:=T.trans (sM g.s T.size);have W:=bA.aA g.s;have am:=g.v.lt;have ai:w.heap.size<w.heap.size+1:=om;have n1:=g.n1;have n2:=g.n2;generalize w.heap.size+1+1+1=bs at*;generalize w.heap.size+1+1=bw at*;generalize w.heap.size+1=bv at*;have U:VS (fun f=>(f=p∨P f)/\f<w.heap.size) V bv (G.nn+1) (vD G) (fun _=>False) (fun _=>i9 z) (fun _=>.n):=⟨g.v,om,fun O _ r=>r.elim,fun _ _ _=>rfl⟩;have I:=U.put yD (j:=0) om ⟨.inl rfl,ae⟩ (by have:=s.size;omega) ag ((H.imp (p':=fun f=>(f=p∨P f)/\f<w.heap.size) (fun f C r=>⟨.inr r,C⟩)).aA s);have Q:OnV G 0 (fun x=>False∨x=0) (fun _=>i9 z) 1:=⟨fun O hj _ _=>.inr om,fun h=>.inr om,fun O r=>by rcases r with h | h;exact h.elim;omega,fun O _ e _=>by
  show kg _ (bT G 0) (bD G 0);rw[(wt G).1,(wt G).2];exact ed (jy z e)⟩
 have v:=s.setCell (a:=jj bv 0) (show w.heap.size<=bv by omega) (.l (jp p q) (vD G 0) t);have X:=W.off (d:=bv) om 0 (.l (jp p q) (vD G 0) t);have an:=g.b.off (d:=bv) n2 0 (.l (jp p q) (vD G 0) t);have t0:=g.b.c0;have u0:=g.v.cell (i:=0) om;have uf:=g.v.frozen 0;obtain⟨a0,a1,a2,a3,a4,a5⟩:=X.g;obtain⟨b0,b1,b2⟩:=an.g;have ak:(0:Int)<((G.nn+1:Nat):Int):=om;have al:(0:Int)<(G.nn:Int)+1:=om;have J:=@xM G S.out a A B n m c d k i bl j l o b bv (G.nn+1) bw 0 1 0 (fun f=>(f=p∨P f)/\f<w.heap.size) (fun x=>False∨x=0) (fun _=>i9 z) (fun _ _=>0) _ (fun _=>False) w _ M v om hz zR om I Q (fun h=>absurd rfl h) om (ML.nil _ _ _ _ _) (fun _ h=>h.elim) (fun e=>n1 e.symm) (fun _ _ _ h=>absurd h om);rw[aY rfl,show ((1-1:Nat):Int)=0 from rfl] at J;have hJ:=eI J;clear J I U Q s N;go_wp2_with fail;refine hJ.out.mono ?_;rintro e w3 ⟨ab,ah,ac,aa,K,rfl,af,ad,Z,g3⟩;have L:∀f,((f=p∨P f)/\f<w.heap.size)∨(V.setCell (jj bv 0) (.l (jp p q) (vD G 0) t)).heap.size<=f->Y f:=fun f h=>hY f (by rcases h with h | h;exact .inr h.1;exact .inl (by have:=v.size;omega));have F:=eI L;clear L;have R:=eI K;clear K;go_wp2;go_ret;exact⟨ab,ah,ac,aa,by rw[R.out];unfold kF;rw[aY rfl];rfl,rfl,af,F.out _ ad,Z.imp (fun f _ C=>F.out f C),iw v g3 om (by have:=v.size;omega)⟩
theorem alE(a8:pg G){n m c d k i bl j l o b p q t r s g h e oh ch:Nat}(ak:s=r+1){P ba:Nat->Prop}(hY:∀u,w.heap.size<=u∨u=e∨P u->ba u)(bb:LwM w G n a A B m c d k i bl j)(hz:G.size<=1048576)(ht:r<q)(c0:w.cell? (jj p (r*2))=some (.i (g:Int)))(c1:w.cell? (jj p (r*2+1))=some (.i (h:Int)))(aa:(gR G)[r]?=some (g,h))(au:q<=1000000)(bc:ij w P (jp e oh) e oh (pZ G (g,h)) (i9 z))(am:pZ G (g,h)<=ch):
 Cl 116 #[.agg (gV G a A B m c d),.s k (G.nn+1) l,.s i (G.nn+1) o,.s bl (G.nn+1) b,.s p q t,.i (s:Int),.slice (jp e oh) (pZ G (g,h)) ch] w fun R E=>NxR ba G s z w R E:=by
 have ar:=a8.head.n;have N:=eI a8;have a6:(g,h)∈gR G:=cO aa;obtain⟨i1,i2,nd,ai⟩:=pC a6;simp only at i1 i2 nd ai;have aq:h<=1000:=(vU a8 a6).2;have F:=fA w (.o (gV G a A B m c d) 115);have bA:=fO.new w (.i G.inn) (.i G.rounds) (.l a G.nl m) (.l A G.nh c) (.l B G.nn d) (.i G.out) 115
 have eN:=eI (show kF G s (i9 z)=(if (G.N (g-1)).op=5/\2<h then oU G (h/2+h % 2) (aN G g h (i9 z)) (G.nn-(g-1)) g (pf G g h (i9 z)) else oU G 0 (fun _ _=>0) (G.nn-g) (g+1) (pf G g h (i9 z))) by
  rw[ak];unfold kF;rw[aM om,cF];simp only[List.getD,aa,gI])
 have HS:=eI aa;have an:(s:Int)-1=(r:Int):=om;have av:¬(s:Int)=0:=om;have aw:s<=1000000:=om;have al:=eI ai;clear aa ai ak;have qw:=eI (a8.qw hz bb.G.lims);generalize hm:pZ G (g,h)=ay at*;have HM:=eI hm;clear hm;go_enter func116,ntmps116;go_wp2_with fail;generalize w.alloc _=x at*;have dr:=uB x;have X:=F.tr dr;have Md:=bb.aA X;have L:=bA.aA dr;obtain⟨a0,a1,a2,a3,a4,a5⟩:=L.g;have I:=(X.cell (a:=jj p (r*2)) (aG _ _ c0)).trans c0;have a9:=(X.cell (a:=jj p (r*2+1)) (aG _ _ c1)).trans c1;have ax:(r:Int)<q:=om;have JB:=@ahx G N.out a A B n m c d k i bl j l b g h e oh ch P (i9 z) x.drew Md a6 (by rw[HM.out];exact bc.aA X) (jy z) qw.out (by rw[HM.out];exact am);rw[HM.out] at JB;have q1:IntKind.i64.wrap ((s:Int)-1)=(r:Int):=by rw[show (s:Int)-1=(r:Int) by omega];exact gU om om
 clear an;by_cases K:(G.N (g-1)).op=5/\2<h
 . have W:=fun (Z:Nat->Prop) (bv Q C:Nat) (f:Nat->Value) (H:World) (y:x.drew.Since x.drew.heap.size H) (lv:x.drew.heap.size<=bv) (V:VS Z H bv (G.nn+1) (vD G) (fun M=>M<g/\g<iM G M) (pf G g h (i9 z)) f) (D:Q≠bv) (HW:ML KW H (fun u=>u≠bv) (jp Q 0) Q 0 ((List.range (vD G g)).map fun R=>(List.range (h/2+h % 2)).map (aN G g h (i9 z) R)))=>@xM G N.out a A B n m c d k i bl j l o b bv (G.nn+1) Q C g (h/2+h % 2) Z (fun M=>M<g/\g<iM G M) (pf G g h (i9 z)) (aN G g h (i9 z)) f (fun u=>u≠bv) x.drew H Md y lv hz i1 om V (OnV.midst N.out z a6 om) (fun _=>⟨i2,nd,aoe al.out K,K.1⟩) om (by rw[aM om];exact HW) (fun _ v=>v) D (fun R c' _ _=>aik G g h z R c');rw[aM (show h/2+h % 2≠0 by omega)] at W;have HJ:=eI W;clear W
   go_region_held3 (fun E=>E.cell? (jj w.heap.size 0)=some (.i G.inn)/\E.cell? (jj w.heap.size 1)=some (.i G.rounds)/\E.cell? (jj w.heap.size 2)=some (.l a G.nl m)/\E.cell? (jj w.heap.size 3)=some (.l A G.nh c)/\E.cell? (jj w.heap.size 4)=some (.l B G.nn d)/\E.cell? (jj w.heap.size 5)=some (.i G.out)/\E.cell? (jj p (r*2))=some (.i (g:Int))/\E.cell? (jj p (r*2+1))=some (.i (h:Int))) (go_keep)
    (first
      | (go_at_call 160
         (with_reducible refine JB.mono ?_)
         rintro R H ⟨Z,bv,Q,C,f,lv,y,hZ,az⟩;rw[aY K] at az;obtain⟨rfl,V,D,HW⟩:=az;have Y:=HJ.out Z bv Q C f H y lv V D HW;have S:=L.aA y;obtain⟨k0,k1,k2,k3,k4,k5⟩:=S.g;have k6:=(y.cell (a:=jj p (r*2)) (aG _ _ I)).trans I;have k7:=(y.cell (a:=jj p (r*2+1)) (aG _ _ a9)).trans a9;have af:=eI Y;clear Y)
      | (go_at_call 159
         (with_reducible refine af.out.mono ?_)
         rintro R w6 ⟨ad,aj,ae,ac,T,rfl,ah,ag,QL,U⟩;have EL:=eI T;clear T;have A6:=S.cA (ig U S.lt (by have:=S.lt;have:=L.lt;omega));obtain⟨j0,j1,j2,j3,j4,j5⟩:=A6.g;have a7:=aG _ _ I;have j6:=lj U k6 (by simp only at a7;omega);have j7:=lj U k7 (by simp only at a7;omega)))
   all_goals go_wp2
   all_goals go_ret
   have O:∀u,Z u∨H.heap.size<=u->ba u:=fun u v=>hY u (by
    have z1:=F.size;have z2:=y.size;have z3:x.drew.heap.size=x.heap.size:=rfl;rcases v with v | v
    . rcases hZ u v with v | v
      . exact .inl om
      . exact .inr (.inr v)
    . exact .inl om)
   exact⟨ad,aj,ae,ac,by rw[EL.out,eN.out,aY K,show G.nn-(g-1)=G.nn+1-g by omega],rfl,ah,O _ ag,QL.imp (fun u _ hq=>O u hq),iw (X.tr y) U (by have:=F.size;have:x.drew.heap.size=x.heap.size:=rfl;omega) (by have:=F.size;have:=y.size;have:x.drew.heap.size=x.heap.size:=rfl;omega)⟩
 . have W:=fun (Z:Nat->Prop) (bv Q C:Nat) (f:Nat->Value) (H:World) (y:x.drew.Since x.drew.heap.size H) (lv:x.drew.heap.size<=bv) (V:VS Z H bv (G.nn+1) (vD G) (fun M=>(M<g/\g<iM G M)∨M=g) (pf G g h (i9 z)) f) (D:Q≠bv)=>@xM G N.out a A B n m c d k i bl j l o b bv (G.nn+1) Q C (g+1) 0 Z (fun M=>(M<g/\g<iM G M)∨M=g) (pf G g h (i9 z)) (fun _ _=>0) f (fun _=>False) x.drew H Md y lv hz om om V (OnV.behind N.out z a6) (fun v=>absurd rfl v) om (ML.nil _ _ _ _ _) (fun _ v=>v.elim) D (fun _ _ _ v=>absurd v om);rw[aY rfl,cF] at W;have HJ:=eI W;clear W
   go_region_held3 (fun E=>E.cell? (jj w.heap.size 0)=some (.i G.inn)/\E.cell? (jj w.heap.size 1)=some (.i G.rounds)/\E.cell? (jj w.heap.size 2)=some (.l a G.nl m)/\E.cell? (jj w.heap.size 3)=some (.l A G.nh c)/\E.cell? (jj w.heap.size 4)=some (.l B G.nn d)/\E.cell? (jj w.heap.size 5)=some (.i G.out)/\E.cell? (jj p (r*2))=some (.i (g:Int))/\E.cell? (jj p (r*2+1))=some (.i (h:Int))) (go_keep)
    (first
      | (go_at_call 160
         (with_reducible refine JB.mono ?_)
         rintro R H ⟨Z,bv,Q,C,f,lv,y,hZ,az⟩;rw[aM K] at az;obtain⟨rfl,D,V⟩:=az;have Y:=HJ.out Z bv Q C f H y lv V D;have S:=L.aA y;obtain⟨k0,k1,k2,k3,k4,k5⟩:=S.g;have k6:=(y.cell (a:=jj p (r*2)) (aG _ _ I)).trans I;have k7:=(y.cell (a:=jj p (r*2+1)) (aG _ _ a9)).trans a9;have af:=eI Y;clear Y)
      | (go_at_call 159
         (with_reducible refine af.out.mono ?_)
         rintro R w6 ⟨ad,aj,ae,ac,T,rfl,ah,ag,QL,U⟩;have EL:=eI T;clear T;have A6:=S.cA (ig U S.lt (by have:=S.lt;have:=L.lt;omega));obtain⟨j0,j1,j2,j3,j4,j5⟩:=A6.g;have a7:=aG _ _ I;have j6:=lj U k6 (by simp only at a7;omega);have j7:=lj U k7 (by simp only at a7;omega)))
   all_goals go_wp2
   all_goals go_ret
   have O:∀u,Z u∨H.heap.size<=u->ba u:=fun u v=>hY u (by
    have z1:=F.size;have z2:=y.size;have z3:x.drew.heap.size=x.heap.size:=rfl;rcases v with v | v
    . rcases hZ u v with v | v
      . exact .inl om
      . exact .inr (.inr v)
    . exact .inl om)
   exact⟨ad,aj,ae,ac,by rw[EL.out,eN.out,aM K,show G.nn-g=G.nn+1-(g+1) by omega],rfl,ah,O _ ag,QL.imp (fun u _ hq=>O u hq),iw (X.tr y) U (by have:=F.size;have:x.drew.heap.size=x.heap.size:=rfl;omega) (by have:=F.size;have:=y.size;have:x.drew.heap.size=x.heap.size:=rfl;omega)⟩
theorem ie.cA{w w':World}{z a:Value}(h:ie w n u U z a)(e:w'.heap[n]?=w.heap[n]?):ie w' n u U z a:=
 have m:∀k,w'.cell? (jj n k)=w.cell? (jj n k):=fun k=>aO (w:=w) (a:=jj n k) e
 ⟨(m 0).trans h.c0,(m 1).trans h.c1,(m 2).trans h.c2,(m 3).trans h.c3,fun k=>(dK (w:=w) (a:=jj n k) e).trans (h.f k)⟩
theorem ie.off{z b:Value}(h:ie w n u U z b)(a:d≠n)(k:Nat)(q:Value):ie (w.setCell ⟨d,k,none⟩ q) n u U z b:=
 h.cA (fN _ _ _ _ (fun e=>a (by simp at e;exact e.symm)))
def wF(nC:Nat)(B:Nat->Rat)(X:Nat->List Rat)(x:Nat):Rat:=(X (x % nC)).getD (x/nC) 0-B (x/nC)
theorem apB{B:Nat->Rat}{X:Nat->List Rat}(h:c<n):wF n B X (m*n+c)=(X c).getD m 0-B m:=by
 have b:(m*n+c)/n=m:=by rw[cJ,dQ om,iI h,fV]
 have d:(m*n+c) % n=c:=by rw[cJ,Nat.mul_add_mod,iC h]
 unfold wF;rw[b,d]
def MpR(nR nC:Nat)(B:Nat->Rat)(X:Nat->List Rat)(w:World)(e:Ending)(w':World):Prop:=
 ∃cw kw cb kb,e=.returned (.agg #[.int .i64 (nR:Int),.int .i64 (nC:Int),.slice (some ⟨cw,0,none⟩) (nR*nC) kw,.slice (some ⟨cb,0,none⟩) nR kb])/\nR*nC<=kw/\nR<=kb/\w.heap.size<=cw/\w.heap.size<=cb/\cw<w'.heap.size/\cb<w'.heap.size/\
  ML KQ w' (fun q=>w.heap.size<=q) (some ⟨cw,0,none⟩) cw 0 ((List.range (nR*nC)).map (wF nC B X))/\ML KQ w' (fun q=>w.heap.size<=q) (some ⟨cb,0,none⟩) cb 0 ((List.range nR).map B)/\w.Since w.heap.size w'
theorem ajP{n m c d k i j:Nat}{B:Nat->Rat}(X:Nat->List Rat){P Pa:Nat->Prop}{w:World}(HB:ij w P (jp n m) n m i B)(HA:ML KW w Pa (jp d 0) d 0 ((List.range j).map X))(hX:∀a,a<j->(X a).length=i)(hR:i<=6000000)(hC:j<=30000)(hb:0<i->n<w.heap.size)(qB:∀r,r<i->Qb (B r) 2097281)(qX:∀a r,a<j->r<i->Qb ((X a).getD r 0) 2097281):
 Cl 118 #[.slice (jp n m) i c,.s d j k] w fun e t=>MpR i j B X w e t:=by
 have bj:i*j<=180000000000:=dF hR hC;have sA:=fA w (.o #[.i 0,.i 0,.n,.n] 52);have bA:=ie.new w (.i 0) (.i 0) (.n) (.n) 52;go_enter func118,ntmps118;go_wp2_with fail;have an:(w.alloc (.o #[.i 0,.i 0,.n,.n] 52)).heap.size=w.heap.size+1:=by simp
 generalize w.alloc _=D at*;have U:=fA D (.o #[] 70);have gW:GL KQ (fun _=>False) (D.alloc (.o #[] 70)) D.heap.size (.s D.heap.size 0 0) [] []:=GL.new KQ _ D;have zB:D.heap.size<(D.alloc (.o #[] 70)).heap.size:=by simp
 have zA:=sA.size;rw[an] at gW zB;have bg:w.heap.size+1<=D.heap.size:=om;have ay:w.heap.size<w.heap.size+1:=om;clear an;generalize w.heap.size+1=p at*;generalize D.alloc _=wB at*;refine (aa9 (jp n m) n m i c P B wB ((HB.aA sA).aA U) om qB).mono ?_;rintro e g ⟨s,A,x2,rfl,GB,s2⟩;have s3:=fA g (.o #[.i (i:Int),.i (j:Int),.s p 0 0,.s s i A] 52);have bM:=ie.new g (.i (i:Int)) (.i (j:Int)) (.s p 0 0) (.s s i A) 52;have a9:=GB.lt;have av:=GB.cap;have z2:=s2.size;have z3:g.heap.size<(g.alloc (.o #[.i (i:Int),.i (j:Int),.s p 0 0,.s s i A] 52)).heap.size:=by simp
 have aj:=(GB.imp (P':=fun q=>wB.heap.size<=q/\q<g.heap.size) KQ.ok (fun q h1 h2=>⟨h2,h1⟩)).aA KQ.ok s3;have ak:=(gW.aA KQ.ok s2).aA KQ.ok s3;have S3:=(((sA.tr U).trans (sM s2 (by have:=U.size;omega))).trans (sM s3 (by have:=U.size;omega)));have A3:=((bA.aA U).aA s2).aA s3;have lA:=bA.lt;go_wp2;generalize g.alloc _=C at*;have bf:=S3.size;clear gW GB s2 s3 U bA sA;go_loopw [6] (fun q wr=>∃r N:Nat,r<=i/\N=r*j/\q=.i (r:Int)/\Gr (fun q=>q=g.heap.size∨q=p) C wr/\∃b f Q,ie wr g.heap.size (.i (i:Int)) (.i (j:Int)) (.s b N f) (.s s i A)/\(b=p∨C.heap.size<=b)/\GL KQ (fun q=>C.heap.size<=q) wr p (.s b N f) ((List.range N).map (wF j B X)) Q) (fun q _=>i-(intOf q).toNat)
 case atStart=>exact⟨0,0,aJ _,by rw[iT],rfl,Gr.refl _ _,p,0,[],bM,.inl rfl,⟨ak.own,fun bu bw hx=>by simp at hx⟩⟩
 case round=>
  obtain⟨r,N,hr,hN,rfl,M,b,E,Q,u,ab,v⟩:=hrel;have HN:=eI hN;clear hN;have m0:=u.c0;have m1:=u.c1;by_cases Y:r<i
  . have hz:(r:Int)<i:=om;have bq:N+j<=i*j:=by
     have:=aP j (show r+1<=i from Y);rw[bI,dS,<-HN.out] at this;exact this
    generalize wr=w4 at*;go_wp2;go_loopw [7] (fun q wr=>∃a o:Nat,a<=j/\o=N+a/\q=.i (a:Int)/\Gr (fun q=>q=g.heap.size∨q=p) C wr/\∃b f Q,ie wr g.heap.size (.i (i:Int)) (.i (j:Int)) (.s b o f) (.s s i A)/\(b=p∨C.heap.size<=b)/\GL KQ (fun q=>C.heap.size<=q) wr p (.s b o f) ((List.range o).map (wF j B X)) Q) (fun q _=>j-(intOf q).toNat)
    case atStart=>exact⟨0,N,aJ _,rfl,rfl,M,b,E,Q,u,ab,v⟩
    clear u v M ab m0 m1;obtain⟨a,o,hc,aa,rfl,T,b,E,Q,u,ab,v⟩:=hrel;have m1:=u.c1;by_cases Z:a<j
    . have br:(a:Int)<j:=om;have Sr:w.S wr:=Gr.since S3 T (fun q x=>by omega) om;obtain⟨-,_,⟨aX,L,oX,kX,rfl,bn,bp,MX⟩,az⟩:=HA a (X a) (by rw[cY,fK Z];rfl);have cX:=az 0 _ rfl;rw[show 0+a*KW.sz+0=a by show 0+a*1+0=a;omega,hX a Z] at cX;have QX:=MX.qs;rw[hX a Z] at QX;obtain⟨rfl,y1,v1,C1⟩:=QX r Y;have C1:bU w Pa L (oX+r*3) ((X a).getD r 0) y1 v1:=C1;obtain⟨-,y2,v2,C2⟩:=HB r Y;have dr:=uB wr;have Sd:=Sr.tr dr;have V:=C1.aA Sd;have W:=C2.aA Sd;have lX:=aG _ _ cX;have ag:=(Sd.cell (a:=jj d a) lX).trans cX;have Md:=u.aA dr;have JS:=ro (qX a r Z Y) (qB r Y) om V.R.read W.R.read;have eq:=eI (show wF j B X o=(X a).getD r 0-B r by rw[aa,HN.out];exact apB Z);have l1:=C1.lt;have l2:=C2.lt;have am:=v.lt;have bi:o<=180000000000:=om;have ar:=eI aa;have G2:=v.aA KQ.ok dr;clear aa QX MX;generalize (X a).getD r 0=q1 at*;generalize B r=q2 at*;have al:d≠b:=(by simp only at lX;omega);have a5:L≠b:=om;have a6:n≠b:=om;have a7:g.heap.size≠b:=om;go_wp2_with fail;have zd:wr.drew.heap.size=wr.heap.size:=rfl;refine jZ 17 (fun t=>t.cell? (jj g.heap.size 2)=some (.s b o E)/\t.cell? (jj d a)=some (.l (jp L oX) i kX)/\t.cell? (jj L (oX+r*3))=some (.bool (qn q1))/\t.cell? (jj L (oX+r*3+1))=some y1/\t.cell? (jj L (oX+r*3+2))=some v1/\t.cell? (jj n (m+r*3))=some (.bool (qn q2))/\t.cell? (jj n (m+r*3+1))=some y2/\t.cell? (jj n (m+r*3+2))=some v2) kr ⟨Md.c2,ag,V.c0,V.c1,V.c2,W.c0,W.c1,W.c2⟩ (fun ax=> ?_);refine tX 0 28 ?_;refine tX 1 29 ?_;refine tX 2 30 ?_;refine tX 3 31 ?_;refine tX 4 32 ?_;refine tX 5 33 ?_;refine tX 6 34 ?_;refine tX 7 35 ?_;refine tX 8 36 ?_;refine tX 9 37 ?_;refine tX 10 38 ?_;refine tX 11 39 ?_;refine tX 12 40 ?_;refine uX 13 fun K l=> ?_;go_simp;go_wp2_with (go_at_call 163;with_reducible refine JS.mono ?_;rintro e w5 ⟨u5,rfl,RP,F⟩);have RQ:=RP;obtain⟨a8,n8,c8,b8,m8,d8,-,-,-,-,-,-,e8,-⟩:=RQ;subst e8;have z5:=F.size;have G:=fA w5 (.o #[.bool (qn (q1-q2)),.l a8 n8 c8,.l b8 m8 d8] 70);have D5:=V.aA F;have E5:=W.aA F;have M5:=Md.aA F;have ad:=(F.cell (a:=jj d a) (aG _ _ ag)).trans ag;have G5:=G2.aA KQ.ok F;refine l.out _ _ (fun _=>⟨M5.c2,ad,D5.c0,D5.c1,D5.c2,E5.c0,E5.c1,E5.c2⟩) ?_;clear l K ax;refine uX 14 fun K l=> ?_;go_simp;have y:=D5.aA G;have z:=E5.aA G;have M6:=M5.aA G;have ae:=(G.cell (a:=jj d a) (aG _ _ ad)).trans ad;refine l.out _ _ (fun _=>⟨M6.c2,ae,y.c0,y.c1,y.c2,z.c0,z.c1,z.c2⟩) ?_;clear l K;refine uX 15 fun K l=> ?_;refine oH (m:=1) KQ.ok (G5.aA KQ.ok G) qz (ML.one (p:=fun q=>(fun q=>C.heap.size<=q) q/\q≠b) KQ.ok (c:=[.bool (qn (q1-q2)),.l a8 n8 c8,.l b8 m8 d8]) (x:=q1-q2) ⟨_,_,rfl,RP.imp (fun bh _ hg=>⟨by have:=T.size;omega,om⟩)⟩ 70) rfl rfl _ _ rfl rfl rfl om ?_;rintro S k' t ⟨⟨bd,G'⟩,O,bm,bo⟩;have H:=fun ah ai h=>lj (b:=L) (k:=ah) (v:=ai) O h a5;have I:=fun ah ai h=>lj (b:=n) (k:=ah) (v:=ai) O h a6;have R:=M6.cA (ig O M6.lt a7);refine l.out _ _ (fun _=>⟨R.c2,lj O ae al,H _ _ y.c0,H _ _ y.c1,H _ _ y.c2,I _ _ z.c0,I _ _ z.c1,I _ _ z.c2⟩) ?_;clear l K;refine uX 16 fun K l=> ?_;go_simp;refine l.out _ _ (fun _=>⟨R.c2,lj O ae al,H _ _ y.c0,H _ _ y.c1,H _ _ y.c2,I _ _ z.c0,I _ _ z.c1,I _ _ z.c2⟩) ?_;clear l K;refine uX 17 fun K l=> ?_;have bc:=R.c2;have aw:=R.f 2;go_simp;refine l.out _ _ (fun h=>absurd rfl h) ?_;clear l K bc aw;refine mZ kr ?_ _;have hg:Gr (fun q=>q=g.heap.size∨q=p) C (t.setCell (jj g.heap.size 2) (.s S (o+1) k')):=((T.trans (Gr.of (dr.tr (F.trans (sM G F.size)))) (T':=fun _=>False) (fun _ _ h=>h.elim)).trans (Gr.gb O) (fun q x e=>by omega)).put (.inl (.inl rfl)) 2 _;have hM:=R.bF (.s S (o+1) k');have hG:=G'.gr KQ.ok (T:=fun q=>q=g.heap.size) (Gr.put (T:=fun q=>q=g.heap.size) (Gr.refl _ _) (.inl rfl) 2 (.s S (o+1) k')) (fun ac hb=>by simp[Value.ownBlock] at hb;have:=G.size;have:=T.size;omega) (fun q _ x=>by omega);have HG:=eI hg;have HM:=eI hM;have aq:=eI hG;have a4:S=p∨C.heap.size<=S:=(by have:=G.size;have:=T.size;omega);clear hg hM hG O G' R H I;go_wp2;go_roundw
      case rel=>exact⟨a+1,o+1,om,by have:=ar.out;omega,by go_num,HG.out,S,k',bd,HM.out,a4,by rw[je,eq.out];exact aq.out⟩
      case measure=>exact yI
    . have e:a=j:=om;subst e;go_wp2;go_roundw
      case rel=>exact⟨r+1,o,om,by rw[aa,HN.out,bI,dS],by go_num,T,b,E,Q,u,ab,v⟩
      case measure=>exact yI
  . have e:r=i:=om;subst e;have m2:=u.c2;have m3:=u.c3;have bs:¬(r:Int)<r:=om;have A4:=A3.cA (M.block _ A3.lt om);obtain⟨a0,a1,a2,a3⟩:=A4.g;have af:=A4.f;have Sr:w.S wr:=Gr.since S3 M (fun q x=>by omega) om;have am:=v.lt;have au:=v.cap;have AF:=eI ((((A4.bE (.i (r:Int))).bH (.i (j:Int))).bF (.s b N E)).bX (.s s r A));have SF:=eI ((((Sr.setCell (a:=jj w.heap.size 0) zR (.i (r:Int))).setCell (a:=jj w.heap.size 1) zR (.i (j:Int))).setCell (a:=jj w.heap.size 2) zR (.s b N E)).setCell (a:=jj w.heap.size 3) zR (.s s r A));have gF:Gr (fun q=>q=w.heap.size) wr _:=(((Gr.put (T:=fun q=>q=w.heap.size) (Gr.refl _ _) (.inl rfl) 0 (.i (r:Int))).put (.inl rfl) 1 (.i (j:Int))).put (.inl rfl) 2 (.s b N E)).put (.inl rfl) 3 (.s s r A);have zF:=gF.size;have GF:=eI (((v.gr KQ.ok gF (fun ac hb=>by simp[Value.ownBlock] at hb;omega) (fun q _ x=>by omega)).ml KQ.ok).imp KQ.ok (p':=fun q=>w.heap.size<=q) (fun q _ x=>by have:=x.1;omega));have ao:=eI ((((aj.gr KQ.ok M (fun ac hb=>by simp[Value.ownBlock] at hb;omega) (fun q _ x=>by omega)).gr KQ.ok gF (fun ac hb=>by simp[Value.ownBlock] at hb;omega) (fun q _ x=>by omega)).ml KQ.ok).imp KQ.ok (p':=fun q=>w.heap.size<=q) (fun q _ x=>by have:=x.1;omega));have lF:=eI (show b<_/\s<_ from⟨aS am.2 zF,aS (show s<wr.heap.size by have:=M.size;omega) zF⟩);have lc:=eI (show w.heap.size<=b/\w.heap.size<=s by omega);clear gF zF v aj ak M S3 Sr u A4 A3 bf lA z3 z2 a9 zB bg zA ay;go_wp2;refine bO (pl rfl underlying52 rfl kr _ _ w.heap.size _ _ _ _ rfl AF.out) rfl ?_;have hn:=HN.out;subst hn;exact⟨b,E,s,A,rfl,au,av,lc.out.1,lc.out.2,lF.out.1,lF.out.2,GF.out,ao.out,SF.out⟩
theorem Qb.diffk{q:Rat}(h:Qb Q n)(a:Qb q m)(e:n+m+1<=c):Qb (Q-q) c:=by
 rw[gQ];exact (h.add a.neg).more e
theorem Qb.diff{q:Rat}(h:Qb Q 1048640)(a:Qb q 1048640):Qb (Q-q) 2097281:=h.diffk a qd
theorem Qb.big(h:Qb Q 1048640):Qb Q 2097281:=h.more qd
theorem adS{f:Nat->Rat}(h:∀e,e<n->Qb (f e) 1048640):∀x∈kM f n,Qb x 2097281:=fun x b=>by
 obtain⟨e,a,b⟩:=iK.1 b;have a:=dU.1 a;simp only[fW,jA,qO] at b
 rcases b with rfl | rfl
 . exact (h e a).big
 . exact (h e a).neg.big
theorem ad5{f:Nat->Rat}(h:∀e,e<n->Qb (f e) 1048640):∀x∈lC f n,Qb x 2097281:=fun x a=>by
 unfold lC at a
 rcases iX.1 a with a | a
 . obtain⟨c,b,a⟩:=iK.1 a
   have b:=dU.1 b;simp only[fW,jA,qO] at a
   rcases a with rfl | rfl | rfl
   . exact (h _ om).diff (h _ om)
   . exact (h _ om).big
   . exact (h _ om).neg.big
 . split at a
   . simp only[fW,jA,qO] at a
     rcases a with rfl | rfl
     . exact (h _ om).big
     . exact (h _ om).neg.big
   . simp at a
theorem eC(E:pg G)(z:G.size<=1048576)(B:∀k,k<G.nn->∀c,c<(G.N k).nv->((G.N k).V c).lim):∀f i m (P:Nat->Prop) V W,i+f=G.nn+1->1<=i->OnV G m P V i->(m≠0->i<=G.nn/\lD G i=true/\isStep (G.N (i-1))=true/\(G.N (i-1)).op=5)->(∀e c,Qb (W e c) 1048640)->∀x∈oU G m W f i V,Qb x 2097281:=by
 intro f
 induction f with
 | zero=>
   intro i m P V W I q l r t x a
   have n:∀j,P j->∀e,e<vD G j->Qb (V j e) 1048640:=fun j u e b=>cC (E.cK (i:=i-1) om) (by have:=E.head.n;omega) (fun k s=>B k om) (by
    have:=sg (A:=G.N) (show i-1<=G.nn by omega);unfold eQ.size at z;omega) (l.rep j u e b)
   have R:=E.o1;have Q:=E.o0;rw[oU] at a;obtain⟨e,b,rfl⟩:=dT.1 a;exact (n _ (l.out om) e (dU.1 b)).big
 | succ f ih=>
   intro i m P V W I q l r t x a
   have n:∀j,P j->∀e,e<vD G j->Qb (V j e) 1048640:=fun j u e b=>cC (E.cK (i:=i-1) om) (by have:=E.head.n;omega) (fun k s=>B k om) (by
    have:=sg (A:=G.N) (show i-1<=G.nn by omega);unfold eQ.size at z;omega) (l.rep j u e b)
   rw[oU] at a;by_cases o:lD G i=false
   . rw[aY o] at a;have d:=kK fun h=>by have:=(r h).2.1;rw[o] at this;cases this
     subst d;exact ih (i+1) 0 P V W om om (l.skip E q om o) (fun h=>absurd rfl h) t x a
   . have y:lD G i=true:=(by simpa using o);rw[aM o] at a;by_cases p:isStep (G.N (i-1))=true
     . rw[aY p] at a;unfold bQ at a;rcases iX.1 a with a | a
       . obtain⟨j,K,a⟩:=iK.1 a;have w:=mP.1 K;have L:=dU.1 w.1;have M:i<iM G j:=(by simpa using w.2);exact adS (n j (l.src j L om (fun _=>M))) x a
       . have g:=E.nd (i:=i-1) om;have v:m=0->P (G.N (i-1)).a.toNat:=fun d=>by
          subst d;exact (l.step E q om y).1
         have C:(G.N (i-1)).op≠5->m=0:=fun H=>kK fun h=>H (r h).2.2.2;unfold ym at a;by_cases D:(G.N (i-1)).op=2
         . rw[aY D] at a;obtain⟨e,b,rfl⟩:=dT.1 a;exact (n _ (v (C om)) e (dU.1 b)).big
         . rw[aM D] at a;by_cases F:(G.N (i-1)).op=3
           . rw[aY F] at a;exact adS (n _ (v (C om))) x a
           . rw[aM F] at a;have N:(G.N (i-1)).op=5:=by
              unfold isStep at p;simp only[jT,fT,jJ] at p;omega
             by_cases d:m=0
             . rw[aY d] at a;obtain⟨e,b,a⟩:=iK.1 a;have b:=dU.1 b;have s:=(g.sh.c5 N).2;rw[show i-1+1=i by omega] at s;refine ad5 (fun c O=>n _ (v d) _ ?_) x a;rw[s];have:=aP (G.N (i-1)).k.toNat (show e+1<=vD G i from b);rw[bI,dS] at this;omega
             . rw[aM d] at a;obtain⟨e,b,a⟩:=iK.1 a;exact ad5 (fun c _=>t e c) x a
     . rw[aM p] at a;have d:=kK fun h=>p (r h).2.2.1;subst d;exact ih (i+1) 0 _ (yf G V i) W om om (l.step E q om y).2.2 (fun h=>absurd rfl h) t x a
theorem aa0(f a:Nat->Rat)(n:Nat):(lC f n).length=(lC a n).length:=by
 unfold lC;rw[aT,aT,iU,iU];congr 1;split<;>rfl
theorem xR{α:Type}(f a:Nat->List α)(L:List Nat)(h:∀e∈L,(f e).length=(a e).length):(L.flatMap f).length=(L.flatMap a).length:=by
 rw[iU,iU];congr 1;exact fG h
theorem ei(G:eQ)(n:Nat)(W c:Nat->Nat->Rat):∀f i V a,(oU G n W f i V).length=(oU G n c f i a).length:=by
 intro f
 induction f with
 | zero=>intro i V a;rw[oU,oU,bS,bS]
 | succ f ih=>
   intro i V a;rw[oU,oU];split
   . exact ih _ _ _
   . split
     . unfold bQ;rw[aT,aT];congr 1
       . exact xR _ _ _ (fun j _=>by rw[jL,jL])
       . unfold ym;split
         . rw[bS,bS]
         . split
           . rw[jL,jL]
           . split
             . exact xR _ _ _ (fun _ _=>aa0 _ _ _)
             . exact xR _ _ _ (fun _ _=>aa0 _ _ _)
     . exact ih _ _ _
theorem afx(G:eQ)(n:Nat)(h a:Nat->Rat):(kF G n h).length=(kF G n a).length:=by
 unfold kF;split
 . exact ei _ _ _ _ _ _ _ _
 . simp only;split
   . exact ei _ _ _ _ _ _ _ _
   . exact ei _ _ _ _ _ _ _ _
theorem afs(f:Nat->Rat)(n:Nat):(lC f n).length<=3*n:=by
 unfold lC;rw[aT,iU];have:(List.map (fun _=>3) (List.range (n/2))).sum=3*(n/2):=by rw[List.map_const',List.sum_replicate_nat,cT,cJ]
 simp only[fS,mR];rw[this];split
 . simp only[fS,mR];omega
 . simp;omega
theorem ck{α:Type}(f:Nat->List α)(n:Nat):∀L:List Nat,(∀e∈L,(f e).length<=n)->(L.flatMap f).length<=L.length*n
 | [],_=>by simp
 | e::L,h=>by
   have:=ck f n L (fun x a=>h x (iA _ a));have:=h e (List.mem_cons_self ..);rw[List.flatMap_cons,aT,fS,bI,dS];omega
theorem eH(E:pg G)(l:n<=1000)(W:Nat->Nat->Rat):∀f i V,i+f=G.nn+1->1<=i->(oU G n W f i V).length<=6000000:=by
 have u:=E.head.n;intro f
 induction f with
 | zero=>
   intro i V _ _;rw[oU,bS,cT];have:=(E.bZ (j:=G.out.toNat) (by have:=E.o1;have:=E.o0;omega)).2;omega
 | succ f ih=>
   intro i V t s;rw[oU];split
   . exact ih _ _ om om
   . split
     . have b:=E.nd (i:=i-1) om;have r:=(E.bZ (j:=(G.N (i-1)).a.toNat) (by have:=b.ai;omega)).2;have k:=(E.bZ (j:=i) om).2;unfold bQ;rw[aT];have o:=ck (fun j=>kM (V j) (vD G j)) 2000 (bR G i) (fun j m=>by
        have:=dU.1 (mP.1 m).1;have:=(E.bZ (j:=j) om).2;rw[jL];omega)
       have h:(bR G i).length<=1000:=aU (qJ _ _) (by rw[cT];omega);have p:=aP 2000 h;have q:(ym G V n W i).length<=3000000:=by
        unfold ym;split
        . rw[bS,cT];omega
        . split
          . rw[jL];omega
          . split
            . have a:(G.N (i-1)).op=5:=by
               next o2 o3 _=>
               have d:isStep (G.N (i-1))=true:=(by assumption);unfold isStep at d;simp only[jT,fT,jJ] at d;omega
              have c:=(b.sh.c5 a).2;rw[show i-1+1=i by omega] at c;refine aU (ck _ (3*(G.N (i-1)).k.toNat) _ (fun e _=>afs _ _)) ?_;rw[cT,oO,<-c];omega
            . refine aU (ck _ (3*n) _ (fun e _=>afs _ _)) ?_;rw[cT];exact aU (dF k (dE 3 l)) qd
       omega
     . exact ih _ _ om om
theorem afH(n:Nat):(pe n).length<=n-1:=by
 induction n using Nat.strongRecOn with
 | _ n ih=>
   by_cases h:1<n
   . rw[tW h,fS];have:=ih (n/2+n % 2) om;omega
   . rw[sG h];simp
theorem tU(E:pg G):(gR G).length<=999*G.nn:=by
 have b:∀i,i<=G.nn->(jw G i).length<=999*i:=by
  intro i
  induction i with
  | zero=>intro _;exact aC _
  | succ i ih=>
    intro h;have e:=ih om;have f:(oF G i).length<=999:=by
     have a:=E.nd (i:=i) om;have c:=(E.bZ (j:=(G.N i).a.toNat) (by have:=a.ai;omega)).2;have d:=(E.bZ (j:=i+1) om).1;unfold oF;split
     . split
       . simp
       . split
         . next o5=>
           rw[bS];have:=afH (G.N i).k.toNat;have k:=(a.sh.c5 o5).2;have:(G.N i).k.toNat<=vD G (i+1)*(G.N i).k.toNat:=fU _ om;omega
         . simp
     . simp
    show (jw G i++oF G i).length<=_;rw[aT];omega
 exact b G.nn zR
theorem ais(E:pg G)(d:G.size<=1048576)(f:∀k,k<G.nn->∀c,c<(G.N k).nv->((G.N k).V c).lim)(w:n<=(gR G).length)(z:Int):∀x∈kF G n (i9 z),Qb x 2097281:=fun x a=>by
 have r:=ch (.inl rfl);unfold kF at a
 by_cases l:n=0
 . rw[aY l] at a
   exact eC E d f G.nn 1 0 (fun x=>x=0) _ _ om om ⟨fun j u _ _=>by omega,fun h=>by omega,fun j v=>by omega,fun j _ e _=>by
    show kg _ (bT G 0) (bD G 0)
    rw[(wt G).1,(wt G).2];exact ed (jy z e)⟩ (fun h=>absurd rfl h) (fun _ _=>r) x a
 . rw[aM l] at a
   obtain⟨⟨i,c⟩,g⟩:∃s,(gR G)[n-1]?=some s:=⟨_,aK om⟩;simp only[List.getD,g,gI] at a;have b:=cO g;obtain⟨o,p,q,m⟩:=pC b;simp only at o p q m
   split at a
   . next h5=>exact eC E d f _ i _ _ _ _ om o (OnV.midst E z b om) (fun _=>⟨p,q,aoe m h5,h5.1⟩) (aik G i c z) x a
   . exact eC E d f _ (i+1) 0 _ _ _ om om (OnV.behind E z b) (fun h=>absurd rfl h) (fun _ _=>r) x a
theorem ait(E:pg G)(m:n<=(gR G).length)(h:Nat->Rat):(kF G n h).length<=6000000:=by
 unfold kF;by_cases a:n=0
 . rw[aY a];exact eH E om _ _ _ _ om om
 . rw[aM a];obtain⟨⟨i,c⟩,d⟩:∃s,(gR G)[n-1]?=some s:=⟨_,aK om⟩;simp only[List.getD,d,gI];have b:=cO d;have f:=(vU E b).2;obtain⟨e,k,l,j⟩:=pC b;simp only at e k l j f;split
   . exact eH E om _ _ _ _ om e
   . exact eH E om _ _ _ _ om om
def KA:LK (Nat×Nat×List Rat×List Rat):=⟨52,23,4,64,.agg #[.int .i64 0,.int .i64 0,.slice none 0 0,.slice none 0 0],fun w p c a=>∃cw kw cb kb,c=[.int .i64 (a.1:Int),.int .i64 (a.2.1:Int),.slice (some ⟨cw,0,none⟩) a.2.2.1.length kw,.slice (some ⟨cb,0,none⟩) a.2.2.2.length kb]/\a.2.2.1.length<=kw/\a.2.2.2.length<=kb/\p cw/\p cb/\cw<w.heap.size/\cb<w.heap.size/\ML KQ w p (some ⟨cw,0,none⟩) cw 0 a.2.2.1/\ML KQ w p (some ⟨cb,0,none⟩) cb 0 a.2.2.2⟩
theorem KA.ok:KA.Ok where
 und:=underlying23
 info:=by
  have h:(Tryz.prog.info? 52).map (fun i=>(i.zero,i.size,i.bytes))=some (some (.agg #[.i 0,.i 0,.n,.n]),4,64):=by kernel_rfl
  obtain⟨i,y,h⟩:=eE.1 h;simp only[Prod.mk.injEq] at h;exact⟨i,y,h.1,h.2.1,h.2.2⟩
 zs:=rfl
 pos:=by decide
 b:=by decide
 len:=by rintro w p c x ⟨d,g,a,f,rfl,-⟩;rfl
 one:=by rintro w p c x ⟨d,g,a,f,rfl,-⟩ u t;simp at t;rcases t with rfl | rfl | rfl | rfl<;>rfl
 move:=by rintro w A p c x ⟨d,g,a,f,e,o,q,j,k,l,m,r,s⟩ v hb;exact⟨d,g,a,f,e,o,q,j,k,om,om,r.move KQ.ok v (fun _=>hb d l j) hb,s.move KQ.ok v (fun _=>hb a m k) hb⟩
 imp:=by rintro w p z c x ⟨d,g,a,f,e,o,q,j,k,l,m,r,s⟩ n;exact⟨d,g,a,f,e,o,q,n d l j,n a m k,l,m,r.imp KQ.ok n,s.imp KQ.ok n⟩
def a1(g:eQ)(t:Nat):Nat×Nat×List Rat×List Rat:=
 ((bY g t).length,(kG g).getD t 0,(List.range ((bY g t).length*(kG g).getD t 0)).map (wF ((kG g).getD t 0) (fun r=>(bY g t).getD r 0) (fun (c:Nat)=>kF g t (i9 (c:Int)))),(List.range (bY g t).length).map fun r=>(bY g t).getD r 0)
def LowR(g:eQ)(w:World)(e:Ending)(w':World):Prop:=w.Since w.heap.size w'/\
 ((∃n X c a,al g n X c a/\c≠0/\e=.returned (.tuple #[.agg #[.slice none 0 0],.int .i64 c]))∨pg g/\
  (20000<bP g/\e=.returned (.tuple #[.agg #[.slice none 0 0],.int .i64 17])∨
   bP g<=20000/\∃c k,e=.returned (.tuple #[.agg #[.slice (some ⟨c,0,none⟩) ((gR g).length+1) k],.int .i64 0])/\w.heap.size<=c/\(gR g).length+1<=k/\ML KA w' (fun q=>w.heap.size<=q) (some ⟨c,0,none⟩) c 0 ((List.range ((gR g).length+1)).map (a1 g))))
theorem ahg{s:Nat×Nat}(h:(gR G)[n]?=some s):(kG G).getD (n+1) 0=pZ G s:=by
 unfold kG;have a:=(bG.1 h).1;rw[List.getD_cons_succ,List.getD,bJ (by simpa using a),cY,h];rfl
theorem ad9(G:eQ):(kG G).length=(gR G).length+2:=by unfold kG;simp
theorem af5(E:pg G):∀x∈kG G,x<=2100000:=fun x a=>by
 have c:=E.head.i2;unfold kG at a
 rcases fW.1 a with rfl | a
 . omega
 . rcases iX.1 a with a | a
   . obtain⟨s,b,rfl⟩:=dT.1 a
     exact (vU E b).1
   . simp at a
     have:=(E.bZ (j:=G.out.toNat) (by have:=E.o1;have:=E.o0;omega)).2;omega
theorem afj{L:List Nat}:∀ {n t:Nat},t<n->L.getD (t+1) 0*(L.getD t 0+1)<=qr L n
 | 0,_,h=>absurd h om
 | n+1,t,h=>by
   rw[qr]
   by_cases e:t=n
   . subst e;omega
   . have:=afj (L:=L) (n:=n) (t:=t) om
     omega
theorem af4(E:pg G)(h:bP G<=20000)(c:n<=(gR G).length):(kG G).getD n 0<=20000:=by
 cases n with
 | zero=>
   have:=E.head.i2;show G.inn.toNat<=_;omega
 | succ n=>
   have a:=afj (L:=kG G) (n:=(gR G).length+1) (t:=n) om;have b:(kG G).getD (n+1) 0*1<=(kG G).getD (n+1) 0*((kG G).getD n 0+1):=dE _ om;unfold bP at h;omega
theorem afP{G:eQ}(E:pg G){a A B:Option Addr}{n m c d i j bl l o b p q t r s g h e:Nat}{z:Int}{P Y F:Nat->Prop}{w:World}(v:∀C,w.heap.size<=C∨C=g∨P C->Y C)(M:LwM w G n a A B m c d i j bl l)(y:G.size<=1048576)(D:ML KS w F (jp q 0) q 0 (gR G))(Q:r<=(gR G).length)(u:(kG G).getD r 0=s)(H:ij w P (jp g h) g h s (i9 z))(x:s<=e):
 Cl 116 #[.agg (gV G a A B m c d),.s i (G.nn+1) o,.s j (G.nn+1) b,.s bl (G.nn+1) p,.s q (gR G).length t,.i (r:Int),.slice (jp g h) s e] w fun K N=>NxR Y G r z w K N:=by
 have O:=tU E;have R:=E.head.n;cases r with
 | zero=>
   have K:(kG G).getD 0 0=vD G 0:=rfl;rw[K] at u;subst u;exact alF E v M y H x
 | succ k=>
   obtain⟨⟨S,I⟩,f⟩:∃L,(gR G)[k]?=some L:=⟨_,aK om⟩;rw[ahg f] at u;subst u;have I:=D.step f;exact alE E rfl v M y om (by have:=I.2.1;rwa[aZ] at this) (by have:=I.2.2;rwa[aZ] at this) f om H x
theorem ix.blk1(h:ix w n u)(e:v.heap[n]?=w.heap[n]?):ix v n u:=
 ⟨(aO (w:=w) (a:=jj n 0) e).trans h.c0,fun k=>(dK (w:=w) (a:=jj n k) e).trans (h.f k)⟩
theorem ant{L:List Rat}(h:ij w P a n m L.length (fun x=>L.getD x 0)):ML KQ w P a n m L:=by
 have d:=h.ml;have e:(List.range L.length).map (fun x=>L.getD x 0)=L:=by
  apply jF;intro i;rw[cY];by_cases c:i<L.length
  . rw[fK c,aK c];simp[List.getD,aK c]
  . rw[dJ (by simpa using c),dJ om];rfl
 rwa[e] at d
theorem rV{d:Func}{p q:Tmp}(h:d.results= #[.cell p 25,.tmp q])(a:Array Value)(w:World)(n:Nat)(u:Value)
 (e:a.getD p undef=.p n 0)(B:ix w n u):(results d a).run Tryz.prog w=.ok (.tuple #[.agg #[u],a.getD q undef]) w:=by
 have f:a[p]?.getD undef=.p n 0:=by simpa using e
 have hl:=run_loadVar_mid (P:=Tryz.prog) w n 0 25 [u] _ (fun j v b=>by
  rcases j with _ | j
  . simp at b;subst b;exact B.c0
  . simp at b) underlying25 rfl kr
 simp[results,h,f,asAddr,hl]
theorem acK(hd:G.size<=1048576)(ab:aV w n G a A B m c d):
 Cl 72 #[.agg (gV G a A B m c d)] w fun e i=>LowR G w e i:=by
 have bA:=fO.new w (.i G.inn) (.i G.rounds) (.l a G.nl m) (.l A G.nh c) (.l B G.nn d) (.i G.out) 115;have sA:=fA w (.o (gV G a A B m c d) 115);have zA:(w.alloc (.o (gV G a A B m c d) 115)).heap.size=w.heap.size+1:=by simp
 have bN:=ix.new (w.alloc (.o (gV G a A B m c d) 115)) (.n) 25;have sN:=(aF _ (w.alloc (.o (gV G a A B m c d) 115))).alloc zR (.o #[.n] 25);rw[zA] at bN;have A0:=bA.aA sN;have S0:=sA.tr sN;clear bA sA zA sN;go_enter func72,ntmps72;obtain⟨y,C,D,E,F,H⟩:=A0.g;go_wp2_with fail;generalize (w.alloc _).alloc _=wB at*;refine (xE hd (ab.aA S0)).mono ?_;rintro e w1 ⟨⟨br,a9,u,ba,ad,an,bD,rfl,hO,HI,-⟩,s1⟩;have S1:=S0.tr s1;have N1:=bN.aA s1;have A1:=A0.aA s1;clear y C D E F H;by_cases hc:u=0;rotate_left
 . have n0:=N1.c0;have nf:=N1.f 0;have HO:=eI hO;clear hO HI;go_wp2;refine bO (rV rfl _ _ (w.heap.size+1) _ rfl (N1.bE (.n))) rfl ?_;exact⟨S1.setCell (a:=jj (w.heap.size+1) 0) (show w.heap.size<=w.heap.size+1 by omega) _,.inl ⟨br,a9,u,ba,HO.out,hc,rfl⟩⟩
 subst hc;have aa:=pg.of hO;obtain⟨-,hn,hX⟩:=aa.outc hO;subst hn;obtain⟨rfl,-⟩:=HI 0 om;have DI:Ints w1 (jp bD 0) bD 0 (G.nn+1) (fun j=>(vD G j:Int)):=fun j hj=>by
  have h1:=HI j hj;rw[hX j hj,adO G (show j<=G.nn by omega)] at h1;have d1:=(aa.cK (i:=j) om).dok j om;have e1:ng G j j=((vD G j:Nat):Int):=by unfold vD;omega
  rw[e1] at h1;exact h1
 have b1:=aa.head.n;have s:=eI aa;clear hO HI hX aa;obtain⟨y,C,D,E,F,H⟩:=A1.g;go_wp2_with fail;refine (ahw s.out (ab.aA S1)).mono ?_;rintro e w2 ⟨b2,rfl,R2,b6,s2⟩;have S2:=S1.tr s2;have A2:=A1.aA s2;clear y C D E F H;obtain⟨y,C,D,E,F,H⟩:=A2.g;go_wp2_with fail;refine (alG s.out (ab.aA S2) R2).mono ?_;rintro e w3 ⟨b3,rfl,R3,b8,s3⟩;have S3:=S2.tr s3;have A3:=A2.aA s3;have M3:LwM w3 G n a A B m c d bD b2 b3 0:=⟨ab.aA S3,(DI.aA s2).aA s3,R2.of_block (s3.block _ R2.lt),R3⟩;clear y C D E F H;obtain⟨y,C,D,E,F,H⟩:=A3.g;go_wp2_with fail;refine (ajN s.out M3).mono ?_;rintro e w4 ⟨c4,k4,x4,rfl,GS,s4⟩;have S4:=S3.tr s4;have A4:=A3.aA s4;have M4:=M3.aA s4;have MS:=GS.ml KS.ok;clear y C D E F H;obtain⟨y,C,D,E,F,H⟩:=A4.g;go_wp2_with fail;refine (ahv s.out M4 MS).mono ?_;rintro e w5 ⟨M,k5,x5,rfl,GW,s5⟩;have S5:=S4.tr s5;have A5:=A4.aA s5;have M5:=M4.aA s5;have al:=MS.aA KS.ok s5;have MW:=GW.ml KI.ok;have bw:=tU s.out;have bi:=ad9 G;have N5:=((((N1.aA s2).aA s3).aA s4).aA s5);have JZ:=@alD (kG G) M ((gR G).length+1) k5 _ w5 bi om (af5 s.out) MW;clear y C D E F H;go_wp2_with fail;refine mo JZ fun f s6=> ?_;have S6:=S5.tr s6;have U:=A5.aA s6;have M6:=M5.aA s6;have am:=al.aA KS.ok s6;have a7:=MW.aA KI.ok s6;have N6:=N5.aA s6;have eZ:=eI (show qr (kG G) ((gR G).length+1)=bP G from rfl);generalize qr (kG G) ((gR G).length+1)=sz at*;clear JZ GW GS MS MW al M5 M4 M3 A1 A2 A3 A4 A5 N1 N5 R2 R3 DI S1 S2 S3 S4 S5 s1 s2 s3 s4 s5 s6;by_cases au:20000<sz
 . have hz:(20000:Int)<sz:=om;have n0:=N6.c0;have nf:=N6.f 0;go_wp2;refine bO (rV rfl _ _ (w.heap.size+1) _ rfl (N6.bE (.n))) rfl ?_;exact⟨S6.setCell (a:=jj (w.heap.size+1) 0) (show w.heap.size<=w.heap.size+1 by omega) _,.inr ⟨s.out,.inl ⟨by rw[<-eZ.out];exact au,rfl⟩⟩⟩
 have hz:¬(20000:Int)<sz:=om;have ES:=eI (show bP G<=20000 by rw[<-eZ.out];omega);clear au eZ;generalize hN:(gR G).length=N at*;have W:=eI hN;clear hN;have s7:=fA f (.o #[] 52);have z7:(f.alloc (.o #[] 52)).heap.size=f.heap.size+1:=by simp
 have gA:GL KA (fun q=>f.heap.size<=q/\q≠f.heap.size+1) (f.alloc (.o #[] 52)) f.heap.size (.s f.heap.size 0 0) [] []:=GL.new KA _ f;have s8:=(aF (f.alloc (.o #[] 52)).heap.size (f.alloc (.o #[] 52))).alloc zR (.o #[.s f.heap.size 0 0] 25);have bM:=ix.new (f.alloc (.o #[] 52)) (.s f.heap.size 0 0) 25;rw[z7] at bM;have gA:=gA.aA KA.ok s8;have s9:=s7.tr s8;clear s7 s8 z7;go_wp2;generalize (f.alloc _).alloc _=wZ at*;have bp:=bM.lt;go_loopw [12] (fun q wr=>∃t:Nat,t<=N+1/\q=.i (t:Int)/\f.S wr/\∃I k1 x1,ix wr (f.heap.size+1) (.s I t k1)/\I≠f.heap.size+1/\GL KA (fun q=>f.heap.size<=q/\q≠f.heap.size+1) wr f.heap.size (.s I t k1) ((List.range t).map (a1 G)) x1) (fun q _=>N+1-(intOf q).toNat)
 case atStart=>exact⟨0,aJ _,rfl,s9,f.heap.size,0,[],bM,om,gA⟩
 clear bM gA s9 bp
 case round=>
  obtain⟨t,ht,rfl,sr,I,af,x1,B1,n1,G1⟩:=hrel;have lB:=B1.lt;have b9:=G1.lt;have a8:=S6.tr sr;have Ar:=U.aA sr;by_cases ar:t<=N
  . have aj:t<=N:=ar;obtain⟨k,hm⟩:∃k,(kG G).getD t 0=k:=⟨_,rfl⟩;have bz:k<=20000:=by rw[<-hm];exact af4 s.out ES.out (by rw[W.out];exact ar)
    have l:f.cell? (jj M t)=some (.i (k:Int)):=by
     have:=(a7.int (i:=t) (z:=(k:Int)) (by
      rw[cY,<-hm,List.getD,aK om];rfl)).2
     rwa[aZ] at this
    have ah:=eI hm;clear hm;have bj:(t:Int)<=N:=om;have bm:(t:Int)<((N+2:Nat):Int):=om;have b5:(t:Int)<N+2:=om;have o:=uB wr;have T:=sr.tr o;have Ad:=U.aA T;obtain⟨y,C,D,E,F,H⟩:=Ad.g;have d0:=(T.cell (a:=jj M t) (aG _ _ l)).trans l;have JU:=@afO k (-1) wr.drew om;go_wp2_with fail
    go_region_held3 (fun i=>i.cell? (jj w.heap.size 0)=some (.i G.inn)/\i.cell? (jj w.heap.size 1)=some (.i G.rounds)/\i.cell? (jj w.heap.size 2)=some (.l a G.nl m)/\i.cell? (jj w.heap.size 3)=some (.l A G.nh c)/\i.cell? (jj w.heap.size 4)=some (.l B G.nn d)/\i.cell? (jj w.heap.size 5)=some (.i G.out)/\i.cell? (jj M t)=some (.i (k:Int))) (go_keep)
     (first
       | (go_at_call 117;(with_reducible refine JU.mono ?_);rintro e wu ⟨cU,kU,xU,rfl,V,S⟩;have v:=T.tr S;have Au:=U.aA v;obtain⟨k0,k1,k2,k3,av,aw⟩:=Au.g;have k6:=(v.cell (a:=jj M t) (aG _ _ l)).trans l;have lU:=V.lt;have zu:=S.size;have JN:=eI (@afP G s.out a A B n m c d bD b2 b3 0 an (G.nn+1) (G.nn+1) c4 k4 t k cU 0 kU (-1) _ (fun q=>wr.drew.heap.size<=q) _ wu (fun q h=>by rcases h with h | h | h;exact aU zu h;exact h▸lU.1;exact h.1) (M6.aA v) hd (am.aA KS.ok v) (by rw[W.out];exact aj) ah.out ((V.ml KQ.ok).fn) V.cap))
       | (go_at_call 116
          (have ac:=JN.out
           rw[W.out] at ac;with_reducible refine ac.mono ?_)
          rintro e wn ⟨b,ag,Q,ae,eL,rfl,aq,ao,QL,R⟩;have EL:=eI eL;clear eL;have X:=v.tr R;have An:=U.aA X;obtain⟨j0,j1,j2,j3,j4,j5⟩:=An.g;have j6:=(X.cell (a:=jj M t) (aG _ _ l)).trans l;clear JN)
       )
    all_goals go_wp2
    have S7:=X;have z7:wr.heap.size<=wn.heap.size:=aU o.size (aU S.size R.size);have ay:=o.trans (sM (S.tr R) zR);have EB:=EL;have QB:=QL.imp (p':=fun q=>f.heap.size<=q) (fun q _ P=>aU (aU sr.size o.size) P);have B7:=B1.aA ay;have G7:=G1.aA KA.ok ay;clear EL QL j0 j1 j2 j3 j4 j5 j6 k0 k1 k2 k3 av aw k6 y C D E F H d0 JU V S R v X Au An Ad T o ao lU zu;generalize wn=L at*;generalize b=b7 at*;generalize ag=o7 at*;generalize Q=bo at*;generalize ae=g at*;have s8:=fA L (.o #[] 50);have gN:GL KW (fun q=>L.heap.size<=q) (L.alloc (.o #[] 50)) L.heap.size (.s L.heap.size 0 0) [] []:=GL.new KW _ L;generalize L.alloc _=w8 at*;go_loopw [14,15] (fun bu q wr=>∃x:Nat,x<=k/\q=.i (x:Int)/\L.S wr/\∃ca ka xa,bu=.s ca x ka/\GL KW (fun q=>L.heap.size<=q) wr L.heap.size (.s ca x ka) ((List.range x).map fun (u:Nat)=>kF G t (i9 (u:Int))) xa) (fun _ q _=>k-(intOf q).toNat)
    case atStart=>exact⟨0,aJ _,rfl,s8,L.heap.size,0,[],rfl,gN⟩
    clear s8 gN;obtain⟨x,hx,rfl,sx,ca,ka,xa,rfl,GA⟩:=hrel;have cc:=GA.lt;have Sx:=S7.tr sx;have zx:=sx.size;have z6:=S7.size;have o:=uB wr;have T:=Sx.tr o;have zd:wr.drew.heap.size=wr.heap.size:=rfl;have cx:=(Sx.cell (a:=jj M t) (aG _ _ l)).trans l;by_cases b4:x<k
    . have bn:(x:Int)<k:=om;have Ad:=U.aA T;obtain⟨y,C,D,E,F,H⟩:=Ad.g;have d0:=(T.cell (a:=jj M t) (aG _ _ l)).trans l;have JU:=@afO k (x:Int) wr.drew om;have G2:=GA.aA KW.ok o;go_wp2_with fail
      go_region_held3 (fun i=>i.cell? (jj w.heap.size 0)=some (.i G.inn)/\i.cell? (jj w.heap.size 1)=some (.i G.rounds)/\i.cell? (jj w.heap.size 2)=some (.l a G.nl m)/\i.cell? (jj w.heap.size 3)=some (.l A G.nh c)/\i.cell? (jj w.heap.size 4)=some (.l B G.nn d)/\i.cell? (jj w.heap.size 5)=some (.i G.out)/\i.cell? (jj M t)=some (.i (k:Int))) (go_keep)
       (first
         | (go_at_call 117;(with_reducible refine JU.mono ?_);rintro e wu ⟨cU,kU,xU,rfl,V,S⟩;have v:=T.tr S;have Au:=U.aA v;obtain⟨k0,k1,k2,k3,av,aw⟩:=Au.g;have k6:=(v.cell (a:=jj M t) (aG _ _ l)).trans l;have lU:=V.lt;have zu:=S.size;have JN:=eI (@afP G s.out a A B n m c d bD b2 b3 0 an (G.nn+1) (G.nn+1) c4 k4 t k cU 0 kU (x:Int) _ (fun q=>wr.drew.heap.size<=q) _ wu (fun q h=>by rcases h with h | h | h;exact aU zu h;exact h▸lU.1;exact h.1) (M6.aA v) hd (am.aA KS.ok v) (by rw[W.out];exact aj) ah.out ((V.ml KQ.ok).fn) V.cap))
         | (go_at_call 116
            (have ac:=JN.out
             rw[W.out] at ac;with_reducible refine ac.mono ?_)
            rintro e wn ⟨b,ag,Q,ae,eL,rfl,aq,ao,QL,R⟩;have EL:=eI eL;clear eL;have X:=v.tr R;have An:=U.aA X;obtain⟨j0,j1,j2,j3,j4,j5⟩:=An.g;have j6:=(X.cell (a:=jj M t) (aG _ _ l)).trans l;have zn:=R.size;have Gn:=(G2.aA KW.ok S).aA KW.ok R;have O:=fA wn (.o #[.l (jp b ag) ae.length Q] 50);clear JN)
         | (refine oH (m:=1) KW.ok (Gn.aA KW.ok O) qz (ML.one (p:=fun q=>L.heap.size<=q/\q≠ca) KW.ok (c:=[.l (jp b ag) ae.length Q]) (x:=ae) ⟨_,b,ag,Q,rfl,aq,fun _=>⟨om,om⟩,(ant QL).imp KQ.ok (fun q _ P=>⟨om,om⟩)⟩ 50) rfl rfl _ _ rfl rfl rfl om ?_
            rintro Y k' i ⟨⟨ak,G'⟩,gr,bf,bh⟩;have Aw:=(An.aA O).cA (ig gr (An.aA O).lt (by have:=U.lt;omega));obtain⟨y0,y1,y2,y3,y4,y5⟩:=Aw.g;have lc:=aG _ _ l;have y6:=fF gr j6 (by simp only at lc;omega)))
      all_goals go_wp2
      all_goals go_roundw
      case rel=>exact⟨x+1,om,by go_num,iw (sx.trans (sM (o.trans (sM (S.tr (R.trans (sM O R.size))) o.size)) sx.size)) gr om (by have:=O.size;omega),Y,k',ak,rfl,by rw[je,<-EL.out];exact G'⟩
      case measure=>exact yI
    . have ex:x=k:=om;subst ex;have bn:¬(x:Int)<x:=om;have ax:t<=(gR G).length:=(by rw[W.out];exact aj);have qN:=fun z=>ais s.out hd ab.lims ax z;have qG:∀(z:Int) r,r<(kF G t (i9 z)).length->Qb ((kF G t (i9 z)).getD r 0) 2097281:=fun z r Z=>by
       have e:(kF G t (i9 z)).getD r 0=(kF G t (i9 z))[r]:=(by simp[List.getD,aK Z]);rw[e];exact qN z _ (jB Z)
      have lL:∀z,(kF G t (i9 z)).length=g.length:=fun z=>by rw[EB.out];exact afx G t _ _
      have JM:=@ajP b7 o7 bo ca ka g.length x (fun r=>g.getD r 0) (fun (u:Nat)=>kF G t (i9 (u:Int))) _ _ wr.drew ((QB.aA sx).aA o) ((GA.ml KW.ok).aA KW.ok o) (fun u _=>lL u) (by rw[EB.out];exact ait s.out ax _) om (fun h=>by have:=QB.lt h;omega) (fun r Z=>by rw[EB.out] at Z⊢;exact qG _ r Z) (fun u r _ Z=>qG _ r (by rw[lL];exact Z))
      have AM:=eI (show a1 G t=(g.length,x,(List.range (g.length*x)).map (wF x (fun r=>g.getD r 0) (fun (u:Nat)=>kF G t (i9 (u:Int)))),(List.range g.length).map fun r=>g.getD r 0) by
       unfold a1 bY;rw[<-EB.out,ah.out])
      have HJ:=eI JM;clear JM qN qG lL;have Bx:=B7.aA sx;have Gx:=(G7.aA KA.ok sx).aA KA.ok o;have Bd:=Bx.aA o;go_wp2_with fail;refine jZ 8 (fun i=>i.cell? (jj (f.heap.size+1) 0)=some (.s I t af)) kr Bd.c0 (fun bd=> ?_);refine tX 0 88 ?_;refine tX 1 89 ?_;refine tX 2 90 ?_;refine tX 3 91 ?_;refine uX 4 fun K p=> ?_;go_simp;go_wp2_with (go_at_call 118;(with_reducible refine HJ.out.mono ?_);rintro e wm ⟨cw,kw,cb,Q,rfl,h1,h2,h3,h4,h5,h6,a6,az,sm⟩);have Bm:=Bd.aA sm;have Gm:=Gx.aA KA.ok sm;have zm:=sm.size;have zV:wm.heap.size<(wm.alloc (.o #[.i (g.length:Int),.i (x:Int),.s cw (g.length*x) kw,.s cb g.length Q] 52)).heap.size:=(by simp);have O:=fA wm (.o #[.i (g.length:Int),.i (x:Int),.s cw (g.length*x) kw,.s cb g.length Q] 52);refine p.out _ _ (fun _=>Bm.c0) ?_;clear p K bd;refine uX 5 fun K p=> ?_;go_simp;refine p.out _ _ (fun _=>(Bm.aA O).c0) ?_;clear p K;refine uX 6 fun K p=> ?_;refine oH (m:=1) KA.ok (Gm.aA KA.ok O) qz (ML.one (p:=fun q=>(f.heap.size<=q/\q≠f.heap.size+1)/\q≠I) KA.ok (c:=[.i (g.length:Int),.i (x:Int),.s cw (g.length*x) kw,.s cb g.length Q]) (x:=(g.length,x,(List.range (g.length*x)).map (wF x (fun r=>g.getD r 0) (fun (u:Nat)=>kF G t (i9 (u:Int)))),(List.range g.length).map fun r=>g.getD r 0)) ⟨cw,kw,cb,Q,qz,by simpa using h1,by simpa using h2,⟨⟨om,om⟩,om⟩,⟨⟨om,om⟩,om⟩,h5,h6,a6.imp KQ.ok (fun q _ P=>⟨⟨om,om⟩,om⟩),az.imp KQ.ok (fun q _ P=>⟨⟨om,om⟩,om⟩)⟩ 52) rfl rfl _ _ rfl rfl rfl om ?_;rintro Y k' i ⟨⟨ak,G'⟩,ai,bf,bh⟩;have bs:f.heap.size+1≠I:=fun e=>n1 e.symm;have Bw:=(Bm.aA O).blk1 (ig ai (Bm.aA O).lt bs);refine p.out _ _ (fun _=>Bw.c0) ?_;clear p K;refine uX 7 fun K p=> ?_;go_simp;refine p.out _ _ (fun _=>Bw.c0) ?_;clear p K;refine uX 8 fun K p=> ?_;have bq:=Bw.c0;have bc:=Bw.f 0;go_simp;refine p.out _ _ (fun h=>absurd rfl h) ?_;clear p K bq bc;refine mZ kr ?_ _;have bg:Y≠f.heap.size+1:=om;have SS:=eI ((iw (T.tr (sm.trans (sM O sm.size))) ai om om).setCell (a:=jj (f.heap.size+1) 0) (show f.heap.size<=f.heap.size+1 by omega) (.s Y (t+1) k'));have BB:=eI (Bw.bE (.s Y (t+1) k'));have GG:=eI (G'.gr KA.ok (T:=fun q=>q=f.heap.size+1) (Gr.put (T:=fun q=>q=f.heap.size+1) (Gr.refl _ _) (.inl rfl) 0 (.s Y (t+1) k')) (fun b hb=>by simp[Value.ownBlock] at hb;omega) (fun q _ P=>P.2));clear ai G' Bw Bm Gm;go_wp2;go_roundw
      case rel=>exact⟨t+1,om,by go_num,SS.out,Y,k',ak,BB.out,bg,by rw[je,AM.out];exact GG.out⟩
      case measure=>exact yI
  . have et:t=N+1:=om;subst et;have bj:¬((N+1:Nat):Int)<=N:=om;have bm:¬(N:Int)+1<=(N:Int):=om;have Nr:=N6.aA sr;have b0:=B1.c0;have n0:=Nr.c0;have nf:=Nr.f 0;have bb:=G1.cap;have BB:=eI (Nr.bE (.s I (N+1) af));have SS:=eI (a8.setCell (a:=jj (w.heap.size+1) 0) (show w.heap.size<=w.heap.size+1 by omega) (.s I (N+1) af));have z6:=S6.size;have lN:=N6.lt;have GG:=eI (((G1.gr KA.ok (T:=fun q=>q=w.heap.size+1) (Gr.put (T:=fun q=>q=w.heap.size+1) (Gr.refl _ _) (.inl rfl) 0 (.s I (N+1) af)) (fun b hb=>by simp[Value.ownBlock] at hb;omega) (fun q _ P=>by have:=P.1;omega)).ml KA.ok).imp KA.ok (p':=fun q=>w.heap.size<=q) (fun q _ P=>by have:=P.1.1;omega));have lc:=eI (show w.heap.size<=I by omega);clear G1 B1 Nr;go_wp2;refine bO (rV rfl _ _ (w.heap.size+1) _ rfl BB.out) rfl ?_;refine⟨SS.out,.inr ⟨s.out,.inr ⟨ES.out,I,af, ?_⟩⟩⟩;rw[W.out];exact⟨rfl,lc.out,bb,GG.out⟩
end Go.Proofs.YtinihjgnnlemmaaGreatDoor
