import Derived.Test.YtaeieekkddndhaaGreatOwnP31
import Derived.RangeFuncNested
set_option maxHeartbeats 6400000
set_option maxRecDepth 100000
namespace Go.Proofs.YtaeieekkddndhaaGreat
open Tryz
open Go.RowKit Go.Shelf
variable{w v W V:World}{n m c d k i j l o b p q t r s g h e:Nat}{a A B:Option Addr}{u U:Value}{G:be}{P:Nat->Prop}{Q:Rat}
section
variable{P:Program}{ops:Array Oper}{Q:Exit->Act->World->Prop}{md:Region.Mode}{l n:Nat}
theorem ahc{o:Oper}{a:Act}{K:Act->World->Prop}(d:∀c,o.op≠ .defer c)(h:o.wp P a w K Q):o.wpIn (Fence.wide.inRound l) n P a w K Q:=by
 refine⟨fun _ _=>trivial, ?_⟩;rw[Oper.semAt_eq _ _ _ d];unfold Oper.wp at h;generalize (execOp a.eval o).run P w=r at*;cases r with
 | ok x w'=>
   cases x<;>simp only[Oper.upon,Oper.uponIn] at h⊢ <;>first
    | exact h
    | exact⟨(fun h=>(by cases h)),CallsIn.inRound l (qU.2 h)⟩
    | exact⟨(fun h=>(by cases h)),fun c b _=>let ⟨v,w',r,s⟩:=h c b;⟨v,w',r,stepsIn_wide.2 s⟩⟩
    | exact h.elim
 | halt x w'=>cases x<;>simp only[Oper.upon,Oper.uponIn] at h⊢ <;>exact h
def cz(ops:Array Oper):Bool:=ops.all fun o=>match o.op with | .defer _=>false | _=>true
theorem aeH(h:cz ops=true){o:Oper}(b:ops[n]?=some o):∀c,o.op≠ .defer c:=fun c e=>by
 unfold cz at h;rw[Array.all_eq_true] at h;obtain⟨a,d⟩:=dM.1 b;have:=h n a;rw[d] at this
 simp[e] at this
theorem v6(e:cz ops=true)(d:¬LetsOut Q):∀(c:Nat) (f:Array Bool) (a:Act) (w:World),wpAny P md ops Q c f a w->wpAnyIn (Fence.wide.inRound l) n P md ops Q c f a w
 | 0,_,_,_,h=>h
 | c+1,f,a,w,h=>⟨h.1,fun i j=>by
   have b:=h.2 i j;unfold wpOp at b;unfold wpOpIn;cases ho:ops[i]? with
   | none=>
     rw[ho] at b;exact v6 e d c _ _ _ b
   | some o=>
     rw[ho] at b;simp only at b⊢
     by_cases g:Region.wanted o (yielded ops a.tmps)=true
     . rw[aY g] at b⊢
       rcases b with b | b
       . exact ahc (aeH e ho) (Oper.wp_mono (fun a w=>v6 e d c _ a w) b)
       . exact absurd b.2 d
     . rw[aM g] at b⊢
       exact⟨fun _ _=>trivial,v6 e d c _ _ _ b⟩⟩
theorem c3(m:Nat)(S:World->Prop){id:Nat}{a:Act}(d:P.follows .mixedOrders=true)(e:cz ops=true)(b:¬LetsOut Q)(c:S w.drew)
 (h:S w.drew->mQ P .any ops Q S m ops.size (Array.replicate ops.size false) a w.drew):(Code.region id ops true).wpIn (Fence.wide.inRound l) n P Q a w:=
 wpIn_region_any d (v6 e b _ _ _ _ (dc _ _ _ _ (h c)))
end
theorem iR(h:w.cell? (jj n m)=some u):vP w n:=by
 unfold World.cell? at h;cases hb:w.heap[n]? with
 | none=>simp[hb] at h
 | some ob=>
   cases ob with
   | cells cs t=>exact⟨_,hb,rfl⟩
   | _=>simp[hb] at h
theorem fJ.tC(h:fJ w P u Q):fJ w (fun x=>P x/\vP w x) u Q:=by
 obtain⟨a,n,f,b,m,g,d,r,e,s,X,Y,i,c,j,k,l,o⟩:=h;exact⟨a,n,f,b,m,g,d,r,e,s,X,Y,i,c,j,k,fun h=>⟨l h,iR (c.LX 0 h).2⟩,fun h=>⟨o h,iR (c.LY 0 h).2⟩⟩
def LK.Cel{α:Type}(K:LK α):Prop:=∀ {w:World} {p:Nat->Prop} {c:List Value} {x:α},K.El w p c x->K.El w (fun q=>p q/\vP w q) c x
theorem KT.tC:KT.Cel:=fun h=>by
 obtain⟨x,y,a,b⟩:=h;exact⟨x,y,a,b.tC⟩
theorem ML.tC{α:Type}{K:LK α}(g:K.Cel){L:List α}(h:ML K w P a n m L):ML K w (fun q=>P q/\vP w q) a n m L:=fun i x j=>by
 obtain⟨d,c,e,f⟩:=h i x j;exact⟨d,c,g e,f⟩
theorem ML.lV{α:Type}{K:LK α}(d:K.Ok){L:List α}(h:ML K w P a n m L)(g:0<L.length):vP w n:=by
 obtain⟨-,c,e,f⟩:=h 0 _ (aK g);have hl:=d.len e;have i:=d.pos;exact iR (f 0 _ (aK om))
theorem KR.tC:KR.Cel:=fun h=>by
 obtain⟨a,b,o,k,d,e,f,c⟩:=h;exact⟨a,b,o,k,d,e,fun hl=>⟨f hl,c.lV KT.ok hl⟩,c.tC KT.tC⟩
theorem GL.tC{α:Type}{K:LK α}(d:K.Ok)(b:K.Cel){L:List α}{e:List Value}(h:GL K P w n u L e):GL K (fun q=>P q/\vP w q) w n u L e:=
 ⟨h.own,fun i x c=>d.imp (b (h.at_ i x c)) (fun _ _ a=>⟨⟨a.1.1,a.2⟩,a.1.2⟩)⟩
theorem bw{α:Type}{K:LK α}{L:List α}{a:List Value}(h:GL K P w n (.s m c d) L a):vP w m:=by
 obtain⟨-,⟨e,-⟩ | ⟨i,g,f,e,b⟩⟩:=h.own
 . cases e
 . cases e;exact⟨_,b.2.1,rfl⟩
theorem KQ.tC:KQ.Cel:=fun h=>by
 obtain⟨x,y,a,b⟩:=h;exact⟨x,y,a,b.tC⟩
theorem KA.tC{c:List Value}{x:Nat×Nat×List Rat×List Rat}(d:0<x.2.2.1.length/\0<x.2.2.2.length)(h:KA.El w P c x):KA.El w (fun q=>P q/\vP w q) c x:=by
 obtain⟨g,r,f,o,e,i,j,k,l,m,n,a,b⟩:=h;exact⟨g,r,f,o,e,i,j,⟨k,a.lV KQ.ok d.1⟩,⟨l,b.lV KQ.ok d.2⟩,m,n,a.tC KQ.tC,b.tC KQ.tC⟩
theorem GL.celA{L:List (Nat×Nat×List Rat×List Rat)}{e:List Value}(h:GL KA P w n u L e)(d:∀a∈L,0<a.2.2.1.length/\0<a.2.2.2.length):GL KA (fun q=>P q/\vP w q) w n u L e:=
 ⟨h.own,fun i x c=>KA.ok.imp (KA.tC (d x (cO c)) (h.at_ i x c)) (fun _ _ b=>⟨⟨b.1.1,b.2⟩,b.1.2⟩)⟩
theorem amL{α:Type}{K:LK α}{L:List α}{c:List Value}(h:GL K P w n u L c)(hb:u.ownBlock=some m):vP w m:=by
 obtain⟨-,⟨e,-⟩ | ⟨g,d,f,e,a⟩⟩:=h.own
 . subst e;simp[Value.ownBlock] at hb
 . subst e;simp[Value.ownBlock] at hb;subst hb;exact⟨_,a.2.1,rfl⟩
theorem Kn.tC{M:List (Int×Value)}{K:Nat->Prop}{X:Nat->List Row}(h:Kn w P M K X):Kn w (fun q=>P q/\vP w q) M K X:=⟨h.nd,fun j i=>by
 obtain⟨a,b,m,n,l,d,e,f,c,g⟩:=h.at_ j i;exact⟨a,b,m,n,l,d,e,f,c.tC KR.tC,fun k=>⟨g k,c.lV KR.ok om⟩⟩⟩
theorem yZ.uI{e:Frm}{bl:Nat}{x:List (Nat×Nat×List Rat×List Rat)}{M:List (Int×Value)}{T:Nat->Prop}{X:Nat->List Row}(S:yZ e w bl G n a A B m c d k i j l o b u p x M P X)(s:Gr T w v)(f:∀q,q<w.heap.size->T q->e.w0.heap.size<=q/\¬vP w q/\q≠b):yZ e v bl G n a A B m c d k i j l o b u p x M P X:=by
 have g:Gr (fun q=>T q/\q<w.heap.size) w v:=⟨s.os,s.tape,s.output,s.size,fun q t E=>s.block q t (fun h=>E ⟨h,t⟩)⟩;have r:∀q,(T q/\q<w.heap.size)->e.w0.heap.size<=q:=fun q h=>(f q h.2 h.1).1;have nc:∀q,vP w q->¬(T q/\q<w.heap.size):=fun q z h=>(f q h.2 h.1).2.1 z;obtain⟨D,y⟩:=S.A;exact⟨S.L.gr S.e g r (nc _ (iR S.L.B.c0)) (nc _ (iR (S.L.U.cell (i:=0) om))),S.e.gr g r,S.Z.lV (g.block b S.Z.lt (fun h=>(f b h.2 h.1).2.2 rfl)),(S.N.tC.gr g (fun q h C=>nc q h.2 C)).wide (fun q _ h=>h.1),S.p,⟨D,((y.celA S.p).gr KA.ok g (fun F hb=>nc F (amL y hb)) (fun q _ h=>nc q h.2)).imp KA.ok (fun q _ h=>h.1)⟩,S.n1,S.n2,S.n3,S.v1,S.v2,S.v3,S.z1,S.z2,aU S.z3 s.size,fun q t=>S.fbk g t (nc q (S.fb q t).2.2.1)⟩
structure TwX(Xb:Nat->Prop)(w wr:World)(P0:Nat->Prop)(c1 k1 c2 k2:Nat)(A B:List Row):Prop where
 s:w.Since w.heap.size wr
 n:c1≠c2
 x1:¬Xb c1
 x2:¬Xb c2
 h0:∀q,P0 q->q<w.heap.size
 hX:∀q,Xb q->w.heap.size<=q/\q<wr.heap.size
 G1:∃xs,GL KR (fun q=>P0 q∨(w.heap.size<=q/\q≠c2/\¬Xb q)) wr w.heap.size (.slice (some ⟨c1,0,none⟩) A.length k1) A xs
 G2:∃xs,GL KR (fun q=>w.heap.size<=q/\q≠c1/\¬Xb q) wr w.heap.size (.slice (some ⟨c2,0,none⟩) B.length k2) B xs
section
variable{Xb:Nat->Prop}{w wr w1 w2:World}{P0 T:Nat->Prop}{c1 k1 c2 k2:Nat}{A B:List Row}
theorem TwX.lt(I:TwX Xb w wr P0 c1 k1 c2 k2 A B):w.heap.size<=c1/\c1<wr.heap.size/\w.heap.size<=c2/\c2<wr.heap.size:=by
 obtain⟨x,G⟩:=I.G1;obtain⟨y,a⟩:=I.G2;exact⟨G.lt.1,G.lt.2,a.lt.1,a.lt.2⟩
theorem TwX.uI(I:TwX Xb w wr P0 c1 k1 c2 k2 A B)(k:Gr T wr w1)(c:∀q,q<wr.heap.size->T q->w.heap.size<=q/\(Xb q∨¬vP wr q)):TwX Xb w w1 P0 c1 k1 c2 k2 A B:=by
 obtain⟨x,G⟩:=I.G1;obtain⟨y,e⟩:=I.G2;have z:=k.size;refine⟨⟨k.os.trans I.s.os,k.tape.trans I.s.tape,k.output.trans I.s.output,aU I.s.size k.size,fun q d=>(k.block q (by have:=I.s.size;omega) (fun h=>by have:=(c q (by have:=I.s.size;omega) h).1;omega)).trans (I.s.block q d)⟩,I.n,I.x1,I.x2,I.h0,fun q h=>⟨(I.hX q h).1,by have:=(I.hX q h).2;omega⟩,⟨x, ?_⟩,⟨y, ?_⟩⟩
 . exact ((G.tC KR.ok KR.tC).gr KR.ok k (fun b hb h=>by
    simp[Value.ownBlock] at hb;subst hb;rcases (c _ G.lt.2 h).2 with a | a
    . exact I.x1 a
    . exact a (bw G)) (fun q d h g=>by
    have:=c q d g;rcases this.2 with a | a
    . rcases h.1 with f | f
      . have:=I.h0 q f;omega
      . exact f.2.2 a
    . exact a h.2)).imp KR.ok (fun q _ h=>h.1)
 . exact ((e.tC KR.ok KR.tC).gr KR.ok k (fun b hb h=>by
    simp[Value.ownBlock] at hb;subst hb;rcases (c _ e.lt.2 h).2 with a | a
    . exact I.x2 a
    . exact a (bw e)) (fun q d h g=>by
    have:=c q d g;rcases this.2 with a | a
    . exact h.1.2.2 a
    . exact a h.2)).imp KR.ok (fun q _ h=>h.1)
theorem TwX.bH(I:TwX Xb w wr P0 c1 k1 c2 k2 A B)(a:wr.S w1):TwX Xb w w1 P0 c1 k1 c2 k2 A B:=I.uI (T:=fun _=>False) (Gr.of a) (fun _ _ h=>h.elim)
theorem TwX.app1(I:TwX Xb w w1 P0 c1 k1 c2 k2 A B){m c' k':Nat}{L':List Row}(hm:L'.length=m)(AP:Apd KR (fun q=>P0 q∨(w.heap.size<=q/\q≠c2/\¬Xb q)) w1 w.heap.size c1 A.length m (A++L') c' k' w2):TwX Xb w w2 P0 c' k' c2 k2 (A++L') B:=by
 obtain⟨⟨xs',G'⟩,gr,hat,hlt⟩:=AP;obtain⟨y,G⟩:=I.G2;have g1:=Gr.gb gr;have l:=I.lt;have n:=I.n;have hz:=I.s.size;have zz:=g1.size;refine⟨Gr.since I.s g1 (fun q h=>by omega) hz,om,fun h=> ?_,I.x2,I.h0,fun q h=>⟨(I.hX q h).1,by have:=(I.hX q h).2;omega⟩,⟨xs',by rw[aT,hm];exact G'⟩,⟨y, ?_⟩⟩
 . have:=(I.hX _ h).2;exact I.x1 (by rw[show c1=c' by omega];exact h)
 have k1:=G.imp KR.ok (P':=fun q=>w.heap.size<=q/\q≠c1/\q≠c'/\¬Xb q) (fun q hq h=>⟨h.1,h.2.1,om,h.2.2⟩);exact (k1.gr KR.ok g1 (fun b h e=>by simp[Value.ownBlock] at h;omega) (fun q _ h e=>by omega)).imp KR.ok (fun q _ h=>⟨h.1,h.2.2.1,h.2.2.2⟩)
theorem TwX.app2(I:TwX Xb w w1 P0 c1 k1 c2 k2 A B){m c' k':Nat}{L':List Row}(hm:L'.length=m)(AP:Apd KR (fun q=>w.heap.size<=q/\q≠c1/\¬Xb q) w1 w.heap.size c2 B.length m (B++L') c' k' w2):TwX Xb w w2 P0 c1 k1 c' k' A (B++L'):=by
 obtain⟨⟨xs',G'⟩,gr,hat,hlt⟩:=AP;obtain⟨y,G⟩:=I.G1;have g1:=Gr.gb gr;have l:=I.lt;have n:=I.n;have hz:=I.s.size;have zz:=g1.size;refine⟨Gr.since I.s g1 (fun q h=>by omega) hz,om,I.x1,fun h=> ?_,I.h0,fun q h=>⟨(I.hX q h).1,by have:=(I.hX q h).2;omega⟩,⟨y, ?_⟩,⟨xs',by rw[aT,hm];exact G'⟩⟩
 . have:=(I.hX _ h).2;exact I.x2 (by rw[show c2=c' by omega];exact h)
 have k1:=G.imp KR.ok (P':=fun q=>(P0 q/\q<w.heap.size)∨(w.heap.size<=q/\q≠c2/\q≠c'/\¬Xb q)) (fun q hq h=>by
  rcases h with h | h
  . exact .inl ⟨h,I.h0 q h⟩
  . exact .inr ⟨h.1,h.2.1,om,h.2.2⟩)
 exact (k1.gr KR.ok g1 (fun b h e=>by simp[Value.ownBlock] at h;omega) (fun q _ h e=>by omega)).imp KR.ok (fun q _ h=>by
  rcases h with h | h
  . exact .inl h.1
  . exact .inr ⟨h.1,h.2.2.1,h.2.2.2⟩)
end
attribute [local go_sem] Oper.semAt_some
theorem ajc{a:Option Addr}{n m c:Nat}{w:World}(d:1<=c):
 Cl 174 #[.slice a n m,.i (c:Int)] w fun e b=>e=.returned (.func (.func 190) #[] #[.p w.heap.size 0,.p (w.heap.size+1) 0])/\b=(w.alloc (.cells #[.slice a n m] 118)).alloc (.cells #[.i (c:Int)] 3):=by
 have f:¬(c:Int)<1:=om;go_enter func174,ntmps174;go_wp2;go_ret;exact⟨rfl,rfl⟩
def chN(len c:Nat):Nat:=(len+c-1)/c
theorem e9{len n k:Nat}(a:1<=n):k<chN len n↔k*n<len:=by
 unfold chN;rw[Nat.lt_iff_add_one_le,kR om,bI,dS];omega
theorem alF(h:m<n):(List.finRange n).take (m+1)=(List.finRange n).take m++[⟨m,h⟩]:=by
 rw[jE,aK (by simpa using h)];simp
def chE(b off len c x:Nat):Value:=.slice (some ⟨b,off+x*c,none⟩) (min c (len-x*c)) (min c (len-x*c))
theorem ach(n:Nat)(hn:1<=n)(m c d k i j l:Nat)(u:1<=l)(ac:l<=1000000)(hl:i<=1000000)(ad:i<=j)(w:World)(r:w.cell? (jj m 0)=some (.l (jp d k) i j))(p:w.cell? (jj c 0)=some (.i (l:Int))):
 SeqStopsK Fence.wide n Tryz.prog 190 #[.p m 0,.p c 0] (fun x:Fin (chN i l)=> #[chE d k i l x.1]) (fun W z=>∀q,(q=m∨q=c)->z.heap[q]?=W.heap[q]?) (fun U=>U=List.finRange (chN i l)) (fun _=>True) (chN i l) w:=fun ae J X W t K _ P H=>by
 have T:=aG _ _ r;have S:=aG _ _ p;have D:=(t.cell (p:=jj m 0) T).trans r;have C:=(t.cell (p:=jj c 0) S).trans p;refine callsIn_of_wp func190 rfl trivial ?_ rfl;simp only[ntmps190,List.size_toArray,fS,mR,Nat.reduceAdd,Nat.reduceSub,Array.replicate_succ,Array.replicate_zero,List.push_toArray,List.append_toArray,pT,mY]
 gi_wp2
 gi_loopw [4] (fun b wr=>∃a I:Nat,a<=chN i l/\I=a*l/\I<i+l/\b=.i (I:Int)/\J ((List.finRange (chN i l)).take a) wr/\wr.cell? (jj m 0)=some (.l (jp d k) i j)/\wr.cell? (jj c 0)=some (.i (l:Int))) (fun b _=>i+l-(intOf b).toNat)
 case atStart=>exact⟨0,0,aJ _,qz,om,rfl,by simpa using H,D,C⟩
 case round=>
  obtain⟨a,I,hk,s,ab,rfl,f,A,B⟩:=hrel;have h:=aR s;clear s
  by_cases Q:I<i
  . have y:a<chN i l:=(e9 u).2 (by rw[<-h.out];exact Q)
    have M:J ((List.finRange (chN i l)).take a) wr.drew:=K _ _ _ none f ⟨rfl,rfl,rfl,aC _,fun _ _ _=>rfl⟩ (fun af e=>by cases e);obtain⟨fn,ag,ai,aa,o,O⟩:=P _ ⟨a,y⟩ wr.drew M (by simp;omega);obtain⟨g,Y⟩:∃Z,Z=min l (i-I):=⟨_,rfl⟩;unfold chE at o
    dsimp only at o
    rw[<-h.out,<-Y] at o;have m1:1<=g:=om
    have m2:I+g<=i:=om
    have m3:min (l:Int) ((i-I:Nat):Int)=g:=om
    have m4:min (l:Int) ((i:Int)-(I:Int))=(g:Int):=om
    have V:=aR Y;clear Y;have R:(I:Int)<i:=om
    have f1:(I:Int)<=i:=om
    have f2:(I:Int)<=j:=om
    have f3:(i:Int)<=j:=om
    have f4:¬(j:Int)-(I:Int)=0:=om
    have f5:(I:Int)+(g:Int)<=j:=om
    have f6:(I:Int)<=I+(g:Int):=om
    gi_wp2
    refine wpIn_wide.2 ?_
    go_region
    all_goals gi_wp2
    all_goals refine O.mono ?_
    all_goals rintro e ah (⟨rfl,L,v⟩ | ⟨rfl,N⟩)
    all_goals first
     | (have E:=(aO (w:=wr.drew) (a:=jj m 0) (v m (.inl rfl))).trans A
        have F:=(aO (w:=wr.drew) (a:=jj c 0) (v c (.inr rfl))).trans B
        gi_wp2
        go_roundw
        case rel=>exact⟨a+1,I+l,om,by rw[bI,dS,h.out],om,by go_num,by rw[alF y];exact L,E,F⟩
        case measure=>exact yI)
     | (gi_wp2
        refine bO (results_none rfl _ _ _) rfl ?_;exact⟨⟨_,rfl⟩,.inr ⟨_,trivial,N⟩⟩)
  . have R:¬(I:Int)<i:=om
    have ek:a=chN i l:=by
     have:=(e9 (len:=i) (k:=a) u);rw[<-h.out] at this;omega
    have G:(List.finRange (chN i l)).take a=List.finRange (chN i l):=dV (by simp;omega);rw[G] at f;gi_wp2;go_end0;exact⟨⟨_,rfl⟩,.inl f⟩
end Go.Proofs.YtaeieekkddndhaaGreat
namespace Go.Proofs.YtaeieekkddndhaaGreat
open Tryz Go.RowKit
variable{w v W V:World}{n m c d k i j l o b p q t r s g h e:Nat}{a A B:Option Addr}{u U:Value}{G:be}{P:Nat->Prop}{Q:Rat}
def tj(f:Nat->Rat)(c p:Nat):List Rat:=if p<c/2 then [f (2*p)-f (2*p+1),f (2*p+1),-f (2*p+1)] else [f (2*p),-f (2*p)]
theorem ahy(f:Nat->Rat)(n:Nat):iw f n=(List.range (n/2+n % 2)).flatMap (tj f n):=by
 have a:(List.range (n/2)).flatMap (tj f n)=(List.range (n/2)).flatMap fun p=>[f (2*p)-f (2*p+1),f (2*p+1),-f (2*p+1)]:=by rw[List.flatMap_def,List.flatMap_def];congr 1;refine fG (fun p b=> ?_);unfold tj;rw[aY (dU.1 b)]
 unfold iw;rcases (show n % 2=0∨n % 2=1 by omega) with h | h
 . rw[h,aM qd,iJ,fV,a]
 . rw[h,aY rfl,gY,iG,a];congr 1;unfold tj;rw[List.flatMap_singleton,aM om,show n-1=2*(n/2) by omega]
def wdP(c p:Nat):Nat:=if p<c/2 then 3 else 2
theorem ajD(f:Nat->Rat)(n m:Nat):(tj f n m).length=wdP n m:=by
 unfold tj wdP;split<;>rfl
def yR(c pos p:Nat):Row:=if p<c/2 then cL (pos:Int) [1,1,-1] else cL (pos:Int) [1,-1]
def aq(c pos:Nat)(ps:List Nat):Nat:=pos+(ps.map (wdP c)).sum
def yL(c pos:Nat)(ps:List Nat):List Row:=(List.range ps.length).map fun i=>yR c (aq c pos (ps.take i)) (ps.getD i 0)
theorem ajA(n m:Nat)(b:List Nat)(c:Nat):aq n m (b++[c])=aq n m b+wdP n c:=by
 unfold aq;simp;omega
theorem ai5(n m:Nat)(d:List Nat)(c:Nat):yL n m (d++[c])=yL n m d++[yR n (aq n m d) c]:=by
 unfold yL;rw[aT,tJ,gY,eJ];congr 1
 . refine fG (fun i a=> ?_);have a:=dU.1 a;rw[mE om,List.getD,List.getD,bJ a]
 . simp
theorem acI(n m:Nat):∀i,i<=n/2->aq n m (List.range i)=m+3*i
 | 0,_=>by unfold aq;simp
 | i+1,h=>by
   rw[gY,ajA,acI n m i om];unfold wdP;rw[aY om];omega
theorem an0(n m c:Nat):yL n (m+c*(3*(n/2)+2*(n % 2))) (List.range (n/2+n % 2))=(List.range (n/2+n % 2)).map fun t=>c6 m n c t:=by
 unfold yL;rw[cT];refine fG (fun i a=> ?_);have a:=dU.1 a;rw[List.take_range,uA om,acI _ _ _ om,List.getD,fK a];rfl
theorem ajm(n m c:Nat):te n m (c+1)=te n m c++(List.range (m/2+m % 2)).map fun t=>c6 n m c t:=by
 unfold te;rw[bI,dS,List.range_add,eJ,sU];congr 1;refine fG (fun t a=> ?_);have a:=dU.1 a;simp only[Function.comp];rw[show (c*(m/2+m % 2)+t)/(m/2+m % 2)=c by rw[cJ,pS om,iI a,fV],show (c*(m/2+m % 2)+t) % (m/2+m % 2)=t by rw[cJ,tU,iC a]]
theorem ajl(n m:Nat):te n m 0=[]:=by unfold te;simp
theorem vz.lenF{F:(Nat->Rat)->List Rat}{R:List Row}(H:vz n F R)(h:Nat->Rat):R.length=(F h).length:=by rw[<-H.val h,bS]
theorem vz.qD{F G:(Nat->Rat)->List Rat}{R:List Row}(H:vz n F R)(e:∀h,F h=G h):vz n G R:=⟨fun h=>(H.val h).trans (e h),H.ok⟩
theorem vz.nil(n:Nat):vz n (fun _=>[]) []:=⟨fun _=>rfl,fun r h=>by simp at h⟩
structure CtJ(w wf W:World)(P0 Fb:Nat->Prop)(b9 b10 co ko cy ky:Nat)(O Y:List Row):Prop where
 T:TwX (fun q=>q=b9∨q=b10) w W P0 co ko cy ky O Y
 B9:ki W b9 (.slice (some ⟨co,0,none⟩) O.length ko)
 B10:ki W b10 (.slice (some ⟨cy,0,none⟩) Y.length ky)
 n:b9≠b10
 f1:¬Fb co
 f2:¬Fb cy
 fx:∀q,Fb q->q≠b9/\q≠b10/\vP wf q/\W.heap[q]?=wf.heap[q]?
section
variable{w wf W W1 W2:World}{P0 Fb T:Nat->Prop}{b9 b10 co ko cy ky:Nat}{O Y:List Row}
theorem vP.lt(h:vP W n):n<W.heap.size:=by
 obtain⟨o,h,-⟩:=h;exact (dM.1 h).1
theorem CtJ.fc(I:CtJ w wf W P0 Fb b9 b10 co ko cy ky O Y)(h:Fb n):vP W n:=by
 obtain⟨-,-,⟨o,a,b⟩,c⟩:=I.fx n h;exact⟨o,c.trans a,b⟩
theorem CtJ.uI(I:CtJ w wf W P0 Fb b9 b10 co ko cy ky O Y)(k:Gr T W W1)(a:∀q,q<W.heap.size->T q->w.heap.size<=q/\¬vP W q):CtJ w wf W1 P0 Fb b9 b10 co ko cy ky O Y:=by
 have nb:∀q,vP W q->W1.heap[q]?=W.heap[q]?:=fun q h=>k.block q h.lt (fun c=>(a q h.lt c).2 h);exact⟨I.T.uI k (fun q b h=>⟨(a q b h).1,.inr (a q b h).2⟩),I.B9.nI (nb _ (iR I.B9.c0)),I.B10.nI (nb _ (iR I.B10.c0)),I.n,I.f1,I.f2,fun q h=>⟨(I.fx q h).1,(I.fx q h).2.1,(I.fx q h).2.2.1,(nb q (I.fc h)).trans (I.fx q h).2.2.2⟩⟩
theorem CtJ.bH(I:CtJ w wf W P0 Fb b9 b10 co ko cy ky O Y)(s:W.S W1):CtJ w wf W1 P0 Fb b9 b10 co ko cy ky O Y:=I.uI (T:=fun _=>False) (Gr.of s) (fun _ _ h=>h.elim)
theorem CtJ.own(I:CtJ w wf W P0 Fb b9 b10 co ko cy ky O Y){L':List Row}(i:L'.length=m)(d:Apd KR (fun q=>P0 q∨(w.heap.size<=q/\q≠cy/\¬(q=b9∨q=b10))) W w.heap.size co O.length m (O++L') n c W1):
 CtJ w wf (W1.setCell ⟨b9,0,none⟩ (.s n (O.length+m) c)) P0 Fb b9 b10 n c cy ky (O++L') Y/\Gr (fun q=>q=co∨q=b9) W (W1.setCell ⟨b9,0,none⟩ (.s n (O.length+m) c)):=by
 have l:=I.T.app1 i d;obtain⟨-,D,z,A⟩:=d;have a:=Gr.gb D;have v:=I.B9.lt;have u:=I.B10.lt;have B:=I.T.lt;have b:Gr (fun q=>q=b9) W1 (W1.setCell (jj b9 0) (.s n (O.length+m) c)):=Gr.put (T:=fun q=>q=b9) (Gr.refl _ _) (.inl rfl) 0 _;have C:=a.size;have y:b9≠co:=fun e=>I.T.x1 (.inl e.symm);have x:b10≠co:=fun e=>I.T.x1 (.inr e.symm);have k:=(I.B9.nI (a.block _ v y)).gH (.s n (O.length+m) c);have j:=(I.B10.nI (a.block _ u x)).nI (b.block _ om (fL I.n));refine⟨⟨l.uI b (fun q _ h=>⟨by rw[h];exact (I.T.hX b9 (.inl rfl)).1,.inl (.inl h)⟩),by rw[aT,i];exact k,j,I.n,fun h=> ?_,I.f2,fun q h=> ?_⟩,(Gr.mk a.os a.tape a.output a.size (fun q t s=>a.block q t (fun e=>s (.inl e))):Gr (fun q=>q=co∨q=b9) W W1).trans b (fun q _ h=>.inr h)⟩
 . have g:=(I.fc h).lt;exact I.f1 (by rw[show co=n by omega];exact h)
 . obtain⟨f,o,p,r⟩:=I.fx q h;have g:=(I.fc h).lt;exact⟨f,o,p,(b.block q om f).trans ((a.block q g (fun e=>I.f1 (by rw[<-e];exact h))).trans r)⟩
theorem CtJ.win(I:CtJ w wf W P0 Fb b9 b10 co ko cy ky O Y){L':List Row}(i:L'.length=m)(d:Apd KR (fun q=>w.heap.size<=q/\q≠co/\¬(q=b9∨q=b10)) W w.heap.size cy Y.length m (Y++L') n c W1):
 CtJ w wf (W1.setCell ⟨b10,0,none⟩ (.s n (Y.length+m) c)) P0 Fb b9 b10 co ko n c O (Y++L')/\Gr (fun q=>q=cy∨q=b10) W (W1.setCell ⟨b10,0,none⟩ (.s n (Y.length+m) c)):=by
 have l:=I.T.app2 i d;obtain⟨-,D,z,A⟩:=d;have a:=Gr.gb D;have v:=I.B9.lt;have u:=I.B10.lt;have B:=I.T.lt;have b:Gr (fun q=>q=b10) W1 (W1.setCell (jj b10 0) (.s n (Y.length+m) c)):=Gr.put (T:=fun q=>q=b10) (Gr.refl _ _) (.inl rfl) 0 _;have C:=a.size;have y:b9≠cy:=fun e=>I.T.x2 (.inl e.symm);have x:b10≠cy:=fun e=>I.T.x2 (.inr e.symm);have j:=(I.B10.nI (a.block _ u x)).gH (.s n (Y.length+m) c);have k:=(I.B9.nI (a.block _ v y)).nI (b.block _ om I.n);refine⟨⟨l.uI b (fun q _ h=>⟨by rw[h];exact (I.T.hX b10 (.inr rfl)).1,.inl (.inr h)⟩),k,by rw[aT,i];exact j,I.n,I.f1,fun h=> ?_,fun q h=> ?_⟩,(Gr.mk a.os a.tape a.output a.size (fun q t s=>a.block q t (fun e=>s (.inl e))):Gr (fun q=>q=cy∨q=b10) W W1).trans b (fun q _ h=>.inr h)⟩
 . have g:=(I.fc h).lt;exact I.f2 (by rw[show cy=n by omega];exact h)
 . obtain⟨o,f,p,r⟩:=I.fx q h;have g:=(I.fc h).lt;exact⟨o,f,p,(b.block q om f).trans ((a.block q g (fun e=>I.f2 (by rw[<-e];exact h))).trans r)⟩
theorem CtJ.cells(I:CtJ w wf W P0 Fb b9 b10 co ko cy ky O Y):vP W co/\vP W cy/\vP W b9/\vP W b10:=by
 obtain⟨x,G⟩:=I.T.G1;obtain⟨y,a⟩:=I.T.G2;exact⟨bw G,bw a,iR I.B9.c0,iR I.B10.c0⟩
theorem xL(k:Gr T W W1)(d:∀q,T q->vP W q):KeepsFrom n W W1:=⟨k.size,fun q o _ a e=>(k.block q (dM.1 a).1 (fun h=>by
 obtain⟨f,b,c⟩:=d q h;rw[a] at b;cases b;rw[e] at c;cases c)).trans a⟩
end
end Go.Proofs.YtaeieekkddndhaaGreat
namespace Go.Proofs.YtaeieekkddndhaaGreat
open Tryz
open Go.RowKit Go.Shelf
variable{w v W V:World}{n m c d k i j l o b p q t r s g h e:Nat}{a A B:Option Addr}{u U:Value}{G:be}{P:Nat->Prop}{Q:Rat}
attribute [local go_sem] Oper.semAt_some
theorem yu(f:Nat->Rat)(n:Nat):(iw f n).length=3*(n/2)+2*(n % 2):=by
 unfold iw;rw[aT,iU];simp only[fS,mR];rw[uB,pN,cT];rcases (show n % 2=0∨n % 2=1 by omega) with h | h
 . rw[h,aM qd];simp;omega
 . rw[h,aY rfl];simp;omega
theorem afL(z:Int):∀r:Row,eO (jz r) z=-eO r z
 | []=>by show (0:Rat)=-0;rw[Rat.neg_zero]
 | t::r=>by
   rw[show jz (t::r)=(t.1,-t.2)::jz r from rfl,jc,jc,afL z r];simp only
   split<;>rfl
theorem ML.three{α:Type}{K:LK α}(h:K.Ok){p:Nat->Prop}{c d f:List Value}{x y z:α}(m:K.El w p c x)(l:K.El w p d y)(hF:K.El w p f z)(t:TypeId):ML K (w.alloc (.cells (c++d++f).toArray t)) p (jp w.heap.size 0) w.heap.size 0 [x,y,z]:=fun i v b=>by
 have s:=cV w (.o (c++d++f).toArray t);have hl:=h.len m;have o:=h.len l
 have n:i=0∨i=1∨i=2:=by
  have:=(bG.1 b).1;simp at this;omega
 rcases n with rfl | rfl | rfl
 . simp at b;subst b;refine⟨rfl,c,h.move m s.size (fun g e _=>s.block g e),fun j u a=> ?_⟩;have k:=(bG.1 a).1;rw[show 0+0*K.sz+j=j by simp];have:(c++d++f)[j]?=some u:=(by rw[dZ,bJ k];exact a);simp only[dZ] at this;simp[go_sem,this]
 . simp at b;subst b;refine⟨rfl,d,h.move l s.size (fun g e _=>s.block g e),fun j u a=> ?_⟩;have k:=(bG.1 a).1;rw[show 0+1*K.sz+j=K.sz+j by simp];have:(c++d++f)[K.sz+j]?=some u:=(by rw[dZ,bK om,hl,mM,bJ k];exact a);simp only[dZ] at this;simp[go_sem,this]
 . simp at b;subst b;refine⟨rfl,f,h.move hF s.size (fun g e _=>s.block g e),fun j u a=> ?_⟩;rw[show 0+2*K.sz+j=K.sz+(K.sz+j) by omega];have:(c++d++f)[K.sz+(K.sz+j)]?=some u:=(by rw[dZ,bK om,hl,mM,bK om,o,mM];exact a);simp only[dZ] at this;simp[go_sem,this]
theorem anA{α:Type}{F:Fence}{P:Program}{g:Operand}{j:Array Tmp}{r s:Code}{Q:Exit->Act->World->Prop}{a:Act}(y:F.round=none)(E:1<=n){gf:Nat}{lb:Array Value}(Y:a.eval g=.func (.func gf) #[] lb)(G:F.fn gf)(ai:∀h w,(callFunc gf h).run P w=.ok (.enter gf h) w)
 {d:α->Array Value}{b:World->World->Prop}{S ah:List α->Prop}(z:SeqStopsK F (n-1) P gf lb d b S ah m v)(R:∀ {A B C:World},b A B->b B C->b A C)(O:∀W,b W W)(M:∀(W:World) (l:Nat) (o o':Obj),w.heap.size<=l->W.heap[l]?=some o->o.isCells=false->o.isWalk=false->b W (W.putObj l o'))(U:Below v.heap.size v w)(u:∀x,(d x).size=j.size)
 (I:List α->World->Prop)(H:Go.OwnFrom w.heap.size I)(aj:I [] w)(p q:Tmp)(e:α->Value)
 (T:∀(l:Nat) (x:α) (W:World) (K:Act->World->Prop),K (((⟨a.tmps,[]⟩:Act).put (some p) (e x)).put (some q) (e x)) W->r.wpIn (F.inRound l) (n-1-1) P (Exit.then K (fun _ _ _=>False)) { tmps:=(j.zip (d x)).foldl (fun ae (p,e)=>ae.setIfInBounds p e) a.tmps,defers:=[] } W)
 (V:∀(l:Nat) (c:List α) (x:α) (W:World),w.heap.size<=l->(∃N,W.heap[l]?=some (.loop N))->I c W->c.length<m->s.wpIn (F.inRound l) (n-1-1) P (ownPostG w.heap.size b I (fun _ _ _=>False) (c++[x]) W) (((⟨a.tmps,[]⟩:Act).put (some p) (e x)).put (some q) (e x)) W)
 (X:∀(D:Nat) (t:List α) (W:World),w.heap.size<=D->S t->I t W->W.heap[D]?=some (.deferred (some []))->Q .normal { a with defers:={ target:=.collected D,args:= #[] }::a.defers } W):(Code.rangeFunc g j r s).wpIn F n P Q a w:=
 wpIn_rangeFunc_ownH y E Y G ai z R M U u I (fun _ _ _=>False) H (fun _ _ _ _ _ i _ _=>i) aj (fun x k _=>k=((⟨a.tmps,[]⟩:Act).put (some p) (e x)).put (some q) (e x)) (fun _ _ _ _ _ _ i _ _=>i)
  (fun l _ x W K f L=>T l x W K (L _ _ (KeepsFrom.refl _ _) (O W) f rfl)) (fun l c x k W hl hr f af Z=>by subst af;exact V l c x W hl hr f Z) X (fun _ _ _ _ _ _ ag _=>ag.elim)
theorem an9{α:Type}{F:Fence}{P:Program}{g:Operand}{j:Array Tmp}{s t:Code}{Q:Exit->Act->World->Prop}{a:Act}{l₀:Nat}{r₀:Loop}(z:F.round=some l₀)(k:w.heap[l₀]?=some (.loop r₀))(E:1<=n){gf:Nat}{lb:Array Value}(Y:a.eval g=.func (.func gf) #[] lb)(G:F.fn gf)(ai:∀r w,(callFunc gf r).run P w=.ok (.enter gf r) w)
 {d:α->Array Value}{b:World->World->Prop}{S ah:List α->Prop}(N:SeqStopsK F (n-1) P gf lb d b S ah m v)(R:∀ {A B C:World},b A B->b B C->b A C)(O:∀W,b W W)(M:∀(W:World) (l:Nat) (o o':Obj),w.heap.size<=l->W.heap[l]?=some o->o.isCells=false->o.isWalk=false->b W (W.putObj l o'))(U:Below v.heap.size v w)(y:∀x,(d x).size=j.size)
 (I:List α->World->Prop)(H:Go.OwnFrom w.heap.size I)(D:I [] w)(p q:Tmp)(e:α->Value)
 (T:∀(l:Nat) (x:α) (W:World) (K:Act->World->Prop),K (((⟨a.tmps,[]⟩:Act).put (some p) (e x)).put (some q) (e x)) W->s.wpIn (F.inRound l) (n-1-1) P (Exit.then K (fun _ _ _=>False)) { tmps:=(j.zip (d x)).foldl (fun ae (p,e)=>ae.setIfInBounds p e) a.tmps,defers:=[] } W)
 (V:∀(l:Nat) (c:List α) (x:α) (W:World),I c W->c.length<m->t.wpIn (F.inRound l) (n-1-1) P (ownPostG w.heap.size b I (fun _ _ _=>False) (c++[x]) W) (((⟨a.tmps,[]⟩:Act).put (some p) (e x)).put (some q) (e x)) W)
 (X:∀(u:List α) (W:World),S u->I u W->Q .normal a W):(Code.rangeFunc g j s t).wpIn F n P Q a w:=
 wpIn_rangeFunc_ownN z k E Y G ai N R M U y I (fun _ _ _=>False) H (fun _ _ _ _ _ i _ _=>i) D (fun x h _=>h=((⟨a.tmps,[]⟩:Act).put (some p) (e x)).put (some q) (e x)) (fun _ _ _ _ _ _ i _ _=>i)
  (fun l _ x W K f L=>T l x W K (L _ _ (KeepsFrom.refl _ _) (O W) f rfl)) (fun l c x h W _ _ f af Z=>by subst af;exact V l c x W f Z) X (fun _ _ _ _ ag=>ag.elim)
def CtR(w0:Frm)(bl:Nat)(g:be)(lo:Nat)(aL aH aN:Option Addr)(kL kH kN bd kd bu ku:Nat)(m base i c nW nN:Nat)(A:List (Nat×Nat×List Rat×List Rat))(X:Nat->List Row)(Wv:(Nat->Rat)->Nat->Nat->Rat)(e:Ending)(w':World):Prop:=
 ∃cy ky O bm vm M,e=.returned (.slice (some ⟨cy,0,none⟩) (nW*(c/2+c % 2)) ky)/\nW*(c/2+c % 2)<=ky/\vz m (fun h=>(List.range nW).flatMap fun e=>iw (Wv h e) c) O/\yZ w0 w' bl g lo aL aH aN kL kH kN bd kd bu ku nN bm vm base (A++[zh (wQ g i X O) m]) M (fun j=>j<i/\i<bL g j) (rF g i)/\ML KR w' (NT w0.FB bl bm vm) (some ⟨cy,0,none⟩) cy 0 (te (ga g i i) c nW)/\NT w0.FB bl bm vm cy
theorem akr(bl:Nat)(g:be)(E:iy g)(lo:Nat)(aL aH aN:Option Addr)(kL kH kN bd kd bu ku:Nat)(m bm:Nat)(vm:Value)(base:Nat)(A:List (Nat×Nat×List Rat×List Rat))(M:List (Int×Value))(K:Nat->Prop)(X:Nat->List Row)(i c nW nN len bc oc kc:Nat)(C:List Row)(Wv:(Nat->Rat)->Nat->Nat->Rat)(w0:Frm)(w:World)(S:yZ w0 w bl g lo aL aH aN kL kH kN bd kd bu ku m bm vm base A M K X)(hin:i<=g.nn)(hlen:len=nW*c)(hl2:len<=1000)(hc1:1<c)(hnW:1<=nW)(hCl:C.length=len)(hcap:len<=kc)(MC:ML KR w (NT w0.FB bl bm vm) (jp bc oc) bc oc C)
 (hK:∀j,j<i->i<bL g j->K j/\(X j).length=vD g j/\∀r∈X j,ic m r)(hm:m<=20000)(hm1:1<=m)(hnN:ga g i i+nW*(3*(c/2)+2*(c % 2))=nN)(hn20:nN<=20000)(hA:A.length<=1000000)
 (hQ:∀r∈C,ic m r/\(∀z,Qb (eO r z) 1048640)/\∀x∈r,Qb x.2 1048640)(hQ2:∀ra∈C,∀rb∈C,∀z,Qb (eO ra z-eO rb z) 1048640)(hV:∀(x:Nat) (r:Row),C[x]?=some r->∀h,ij h r=Wv h (x/c) (x % c)):
 Cl 152 #[.p bl 0,.i (i:Int),.slice (jp bc oc) len kc,.i (c:Int)] w (CtR w0 bl g lo aL aH aN kL kH kN bd kd bu ku m base i c nW nN A X Wv):=by
 have hnn:=E.head.n;have HK:=aR hK;have HQ:=aR hQ;have HQ2:=aR hQ2;have HV:=aR hV;have HCL:=aR hCl;have HLEN:=aR hlen;have HNN:=aR hnN;have hc2:c<=1000:=by have:1*c<=nW*c:=aP c hnW;omega
 have hW2:nW<=1000:=by have:nW*1<=nW*c:=dE nW om;omega
 clear hK hQ hQ2 hV hCl hlen hnN;have HE:=aR E;refine (qU (n:=8)).1 ?_;refine callsIn_of_wp_marks func152 rfl trivial ?_ rfl;simp only[ntmps152,List.size_toArray,fS,mR,Nat.reduceAdd,Nat.reduceSub,Array.replicate_succ,Array.replicate_zero,List.push_toArray,List.append_toArray,pT,mY];refine wpIn_wide.2 ?_;have zw4:((((w.alloc (.o #[] 163)).alloc (.o #[] 163)).alloc (.o #[.s w.heap.size 0 0] 118)).alloc (.o #[.s (w.heap.size+1) 0 0] 118)).heap.size=w.heap.size+4:=by simp
 obtain⟨w4,e4⟩:∃x,x=(((w.alloc (.o #[] 163)).alloc (.o #[] 163)).alloc (.o #[.s w.heap.size 0 0] 118)).alloc (.o #[.s (w.heap.size+1) 0 0] 118):=⟨_,rfl⟩;have sa:=cV w (.o #[] 163);have za:(w.alloc (.o #[] 163)).heap.size=w.heap.size+1:=by simp
 have sb:=(aF _ (w.alloc (.o #[] 163))).alloc zR (.o #[] 163);have zb:((w.alloc (.o #[] 163)).alloc (.o #[] 163)).heap.size=w.heap.size+1+1:=by simp
 have sc:=(aF _ ((w.alloc (.o #[] 163)).alloc (.o #[] 163))).alloc zR (.o #[.s w.heap.size 0 0] 118);have zc:(((w.alloc (.o #[] 163)).alloc (.o #[] 163)).alloc (.o #[.s w.heap.size 0 0] 118)).heap.size=w.heap.size+1+1+1:=by simp
 have sd:=(aF _ (((w.alloc (.o #[] 163)).alloc (.o #[] 163)).alloc (.o #[.s w.heap.size 0 0] 118))).alloc zR (.o #[.s (w.heap.size+1) 0 0] 118);rw[<-e4] at sd zw4;have B9:=(ki.new ((w.alloc (.o #[] 163)).alloc (.o #[] 163)) (.s w.heap.size 0 0) 118).bH sd;rw[zb] at B9;have B10:=ki.new (((w.alloc (.o #[] 163)).alloc (.o #[] 163)).alloc (.o #[.s w.heap.size 0 0] 118)) (.s (w.heap.size+1) 0 0) 118;rw[<-e4,zc] at B10;have G1:=(((GL.new KR (fun q=>(NT w0.FB bl bm vm q/\q<w.heap.size)∨(w.heap.size<=q/\q≠w.heap.size+1/\¬(q=w.heap.size+1+1∨q=w.heap.size+1+1+1))) w).bH KR.ok sb).bH KR.ok sc).bH KR.ok sd;have G2:=((GL.new KR (fun q=>w.heap.size<=q/\q≠w.heap.size/\¬(q=w.heap.size+1+1∨q=w.heap.size+1+1+1)) (w.alloc (.o #[] 163))).bH KR.ok sc).bH KR.ok sd;rw[za] at G2;have S4:=((sa.trans (sM sb om)).trans (sM sc om)).trans (sM sd om);have T4:TwX (fun q=>q=w.heap.size+1+1∨q=w.heap.size+1+1+1) w w4 (fun q=>NT w0.FB bl bm vm q/\q<w.heap.size) w.heap.size 0 (w.heap.size+1) 0 [] []:=⟨S4,om,om,om,fun q h=>h.2,fun q h=>by omega,⟨[],G1⟩,⟨[],⟨G2.own.mono om,G2.at_⟩⟩⟩;have JW:=@pu bl g E lo aL aH aN kL kH kN bd kd bu ku (m:Int) (.map (some bm)) vm i w4 (S.L.bH S4) hin;have E4:=aR e4;clear e4 sa za sb zb sc zc sd G1 G2 E;go_wp2_with fail;rw[<-E4.out];refine JW.mono ?_;rintro e w5 ⟨rfl,s5⟩;clear JW;have hoff:ga g i i<=20000:=by have:=HNN.out;omega
 have HNN':=aR (show ga g i i+nW*(3*(c/2)+2*(c % 2))=nN from HNN.out);generalize hOF:ga g i i=OF at*;have HOF:=aR hOF;clear hOF;obtain⟨w5b,e5⟩:∃x,x=w5.alloc (.o #[.i (OF:Int)] 3):=⟨_,rfl⟩;have s5b:w5.S w5b:=by rw[e5];exact (aF w5.heap.size w5).alloc zR _
 have B11:ki w5b w5.heap.size (.i (OF:Int)):=by rw[e5];exact ki.new _ _ _
 have E5:=aR e5;clear e5;go_wp2_with fail;rw[<-E5.out];refine (@rt w5b).mono ?_;rintro e w6 ⟨u6,rfl,R6,s6⟩;obtain⟨a2,n2,c2,b2,m2,d2,-,-,-,-,-,-,e2,-⟩:=id R6;subst e2;obtain⟨w7,e7⟩:∃x,x=w6.alloc (.o #[.bool (qn (1:Rat)),.l a2 n2 c2,.l b2 m2 d2] 83):=⟨_,rfl⟩;have s7:w6.S w7:=by rw[e7];exact (aF w6.heap.size w6).alloc zR _
 have B12:cR w7 w6.heap.size (.bool (qn (1:Rat))) (.l a2 n2 c2) (.l b2 m2 d2):=by rw[e7];exact cR.new _ _ _ _ _
 have E7:=aR e7;clear e7;go_wp2_with fail;rw[<-E7.out];refine (@ajc _ len kc c w7 om).mono ?_;rintro e w8 ⟨rfl,e8⟩;have z5:=s5.size;have z5b:=s5b.size;have z6:=s6.size;have z7:=s7.size;have s8:w7.S w8:=by rw[e8];exact ((aF w7.heap.size w7).alloc zR _).alloc qz _
 have z8:w8.heap.size=w7.heap.size+2:=by rw[e8];simp
 have cBs:w8.cell? (jj w7.heap.size 0)=some (.l (jp bc oc) len kc):=by rw[e8];exact ((ki.new w7 (.l (jp bc oc) len kc) 118).bH (cV _ _)).c0
 have cBn:w8.cell? (jj (w7.heap.size+1) 0)=some (.i (c:Int)):=by have h:=(ki.new (w7.alloc (.o #[.l (jp bc oc) len kc] 118)) (.i (c:Int)) 3).c0;rw[World.size_alloc,<-e8] at h;exact h
 have S58:=s6.tr (s7.trans (sM s8 s7.size));have S48:=s5.tr (s5b.trans (sM S58 s5b.size));have B11':=B11.bH S58;have B12':=B12.bH s8;have R8:=(R6.bH s7).bH s8;have J8:CtJ w w8 w8 (fun q=>NT w0.FB bl bm vm q/\q<w.heap.size) (fun q=>vP w8 q/\w.heap.size+1+1+1<q) (w.heap.size+1+1) (w.heap.size+1+1+1) w.heap.size 0 (w.heap.size+1) 0 [] []:=⟨T4.bH S48,B9.bH S48,B10.bH S48,om,fun h=>by omega,fun h=>by omega,fun q h=>⟨om,om,h.1,rfl⟩⟩;clear T4 B9 B10 R6 e8;go_wp2_with fail;have hOwn:∀(B:Nat) (wf:World) (Fb:Nat->Prop) (b9 b10:Nat) (F:List Row->Prop) (Y:List Row) (W W':World) (row:Option Nat),w.heap.size<=B->(∃co ko cy ky O,CtJ w wf W (fun q=>NT w0.FB bl bm vm q/\q<w.heap.size) Fb b9 b10 co ko cy ky O Y/\F O)->W.grownBy W' row->(∀r,row=some r->B<=r/\∃o:Obj,W.heap[r]?=some o/\o.isCells=false)->∃co ko cy ky O,CtJ w wf W' (fun q=>NT w0.FB bl bm vm q/\q<w.heap.size) Fb b9 b10 co ko cy ky O Y/\F O:=fun B wf Fb b9 b10 F Y W W' row hB hs hg hr=>by obtain⟨co,ko,cy,ky,O,J,hF⟩:=hs;refine⟨co,ko,cy,ky,O,J.uI (Gr.own hg) (fun q hq e=> ?_),hF⟩;obtain⟨h1,o,h2,h3⟩:=hr q e;refine⟨om,fun h4=> ?_⟩;obtain⟨o',h5,h6⟩:=h4;rw[h2] at h5;cases h5;rw[h3] at h6;cases h6
 have HOwn:=aR hOwn;clear hOwn;have hNC:chN len c=nW:=by unfold chN;rw[HLEN.out,Nat.div_eq_iff om,cJ];omega
 have HNC:=aR hNC;have hwz:w.heap.size<=w8.heap.size:=om;clear hNC;refine (wpIn_wide (n:=8)).1 ?_
 refine anA (α:=Fin (chN len c)) rfl om (gf:=190) (lb:= #[.p w7.heap.size 0,.p (w7.heap.size+1) 0]) rfl trivial (enters_of func190 kr rfl)
  (ach 7 om w7.heap.size (w7.heap.size+1) bc oc len kc c om om om hcap w8 cBs cBn) (fun h k q hq=>(k q hq).trans (h q hq)) (fun _ _ _=>rfl) (fun W l o o' hl _ _ _ q hq=>World.putObj_heap_other om) (Below.refl _ _) (fun _=>rfl) (fun pre W=>∃co ko cy ky O,CtJ w w8 W (fun q=>NT w0.FB bl bm vm q/\q<w.heap.size) (fun q=>vP w8 q/\w.heap.size+1+1+1<q) (w.heap.size+1+1) (w.heap.size+1+1+1) co ko cy ky O (te OF c pre.length)/\vz m (fun h=>pre.flatMap fun e=>iw (Wv h e.1) c) O) (fun pre W W' row hs hg hr=>HOwn.out _ _ _ _ _ (fun O=>vz m (fun h=>pre.flatMap fun e=>iw (Wv h e.1) c) O) _ W W' row hwz hs hg hr) ⟨_,_,_,_,_,by rw[mR,ajl];exact J8,vz.nil m⟩ 25 13 (fun x=>chE bc oc len c x.1) ?assign ?body ?done
 case assign=>intro l x W K hK;gi_wp2;exact hK
 case body=>
  rintro l pre x W hl ⟨r,hr⟩ ⟨co,ko,cy,ky,O,J,RO⟩ hlt;simp only[ap,la,lz,ls];have hx:x.1<nW:=by rw[<-HNC.out];exact x.2
  obtain⟨XC,hXC⟩:∃y,y=x.1*c:=⟨_,rfl⟩;have hxc:XC+c<=len:=by have:=aP c (show x.1+1<=nW from hx);rw[bI,dS] at this;rw[HLEN.out,hXC];exact this
  have ech:chE bc oc len c x.1=.l (jp bc (oc+XC)) c c:=by unfold chE;rw[<-hXC,uA om]
  rw[ech];have HXC:=aR hXC;clear hXC ech;gi_wp2_with (refine⟨trivial, ?_⟩;gi_at_call 174;refine (CallsIn.inRound l (qU.2 (@ajc (jp bc (oc+XC)) c c 2 W om))).mono ?_;rintro e W2 ⟨rfl,e2⟩;have E2:=aR e2;clear e2);have e2:=E2.out;have s2:W.S W2:=by rw[e2];exact ((aF W.heap.size W).alloc zR _).alloc qz _
  have z2:W2.heap.size=W.heap.size+2:=by rw[e2];simp
  have dBs:ki W2 W.heap.size (.l (jp bc (oc+XC)) c c):=by rw[e2];exact (ki.new W (.l (jp bc (oc+XC)) c c) 118).bH (cV _ _)
  have dBn:ki W2 (W.heap.size+1) (.i ((2:Nat):Int)):=by have h:=ki.new (W.alloc (.o #[.l (jp bc (oc+XC)) c c] 118)) (.i ((2:Nat):Int)) 3;rw[World.size_alloc,<-e2] at h;exact h
  have lJ:=J.T.lt;have J2:=J.bH s2;have JJ:CtJ w W2 W2 (fun q=>NT w0.FB bl bm vm q/\q<w.heap.size) (fun q=>(vP w8 q/\w.heap.size+1+1+1<q)∨q=W.heap.size∨q=W.heap.size+1) (w.heap.size+1+1) (w.heap.size+1+1+1) co ko cy ky O (te OF c pre.length):=⟨J2.T,J2.B9,J2.B10,J2.n,fun h=>by
   rcases h with h | h
   . exact J.f1 h
   . omega,fun h=>by
   rcases h with h | h
   . exact J.f2 h
   . omega,fun q h=>by
   rcases h with h | h | h
   . exact⟨om,om,J2.fc h,rfl⟩
   . have:=J.B10.lt;exact⟨om,om,by rw[h];exact iR dBs.c0,rfl⟩
   . have:=J.B10.lt;exact⟨om,om,by rw[h];exact iR dBn.c0,rfl⟩⟩
  have hfx2:∀q,vP w8 q->w.heap.size+1+1+1<q->W2.heap[q]?=w8.heap[q]?:=fun q h1 h2=>(J2.fx q ⟨h1,h2⟩).2.2.2;have hr':W2.heap[l]?=some (.loop r):=(s2.block l (dM.1 hr).1).trans hr;have hKF0:KeepsFrom w8.heap.size W W2:=xL (T:=fun _=>False) (Gr.of s2) (fun _ h=>h.elim);have hN2:chN c 2=c/2+c % 2:=by unfold chN;omega
  have HN2:=aR hN2;have zW8:w8.heap.size<=W.heap.size:=cZ (dD hl (dM.1 hr).1);have HFX2:=aR hfx2;clear e2 hN2 J2 hfx2
  refine an9 (α:=Fin (chN c 2)) (l₀:=l) (r₀:=r) rfl hr' om (gf:=190) (lb:= #[.p W.heap.size 0,.p (W.heap.size+1) 0]) rfl trivial (enters_of func190 kr rfl)
   ((ach 5 om W.heap.size (W.heap.size+1) bc (oc+XC) c c 2 om om om zR W2 dBs.c0 dBn.c0).inRound l) (fun h k q hq=>(k q hq).trans (h q hq)) (fun _ _ _=>rfl) (fun W' l o o' hl _ _ _ q hq=>World.putObj_heap_other om) (Below.refl _ _) (fun _=>rfl) (fun pre' W'=>(∃co ko cy ky O,CtJ w W2 W' (fun q=>NT w0.FB bl bm vm q/\q<w.heap.size) (fun q=>(vP w8 q/\w.heap.size+1+1+1<q)∨q=W.heap.size∨q=W.heap.size+1) (w.heap.size+1+1) (w.heap.size+1+1+1) co ko cy ky O (te OF c pre.length++yL c (OF+pre.length*(3*(c/2)+2*(c % 2))) (pre'.map Fin.val))/\vz m (fun h=>(pre.flatMap fun e=>iw (Wv h e.1) c)++(pre'.map Fin.val).flatMap (tj (Wv h x.1) c)) O)/\KeepsFrom w8.heap.size W W') (Go.OwnFrom.and (fun pre' W' W'' row hs hg hr=>HOwn.out _ _ _ _ _ (fun O=>vz m (fun h=>(pre.flatMap fun e=>iw (Wv h e.1) c)++(pre'.map Fin.val).flatMap (tj (Wv h x.1) c)) O) _ W' W'' row om hs hg hr) (ownFrom_keepsFrom om)) ⟨⟨_,_,_,_,_,by rw[show yL c (OF+pre.length*(3*(c/2)+2*(c % 2))) (List.map Fin.val ([]:List (Fin (chN c 2))))=[] from rfl,iJ];exact JJ,by rw[kC];simpa using RO⟩,hKF0⟩ 28 14 (fun p=>chE bc (oc+XC) c 2 p.1) ?assign2 ?body2 ?done2
  case assign2=>intro l2 p W' K hK;gi_wp2;exact hK
  case body2=>
   rintro l2 pre' p W' ⟨⟨co,ko,cy,ky,O,J,RO⟩,hKF⟩ hlt';simp only[ap,la,lz,ls];obtain⟨pv,hpv⟩:=p;simp only;have hp2:pv*2<c:=(e9 om).1 hpv;have lJ:=J.T.lt;have zJ:=J.T.s.size;have hfx:∀q,vP w8 q->w.heap.size+1+1+1<q->W'.heap[q]?=w8.heap[q]?:=fun q h1 h2=>(J.fx q (.inl ⟨h1,h2⟩)).2.2.2.trans (HFX2.out q h1 h2);have B11W:=B11'.nI (hfx _ (iR B11'.c0) om);have B12W:=B12'.lV (hfx _ (iR B12'.c0) om);have R1:=R8.tC.blocks (w':=W') (fun q _ h=>hfx q h.2 (by have:=h.1;omega));have hlen9:O.length=pre.length*(3*(c/2)+2*(c % 2))+((pre'.map Fin.val).map (wdP c)).sum:=by
    rw[RO.lenF (fun _=>0),aT,iU,iU];congr 1
    . rw[show (pre.map fun e=>(iw (Wv (fun _=>0) e.1) c).length)=pre.map fun _=>3*(c/2)+2*(c % 2) from fG (fun e _=>yu _ _),uB,pN]
    . rw[show ((pre'.map Fin.val).map fun p=>(tj (Wv (fun _=>0) x.1) c p).length)=(pre'.map Fin.val).map (wdP c) from fG (fun p _=>ajD _ _ _)]
   have hs1:pre.length*(3*(c/2)+2*(c % 2))<=1000*2000:=dF (by have:=HNC.out;omega) om;have hs2:((pre'.map Fin.val).map (wdP c)).sum<=3*pre'.length:=by
    have:∀ps:List Nat,(ps.map (wdP c)).sum<=3*ps.length:=fun ps=>by
     induction ps with
     | nil=>simp
     | cons p ps ih=>
       have h:wdP c p<=3:=(by unfold wdP;split<;>omega);rw[dG,List.sum_cons,fS];omega
    have:=this (pre'.map Fin.val);rwa[bS] at this
   have hpos:OF+O.length=aq c (OF+pre.length*(3*(c/2)+2*(c % 2))) (pre'.map Fin.val):=(by unfold aq;omega);have hn9:O.length<=2100000:=(by have:=HN2.out;omega);have HPOS:=aR hpos;have hwr:IntKind.i64.wrap ((OF:Int)+(O.length:Int))=(OF:Int)+(O.length:Int):=fO om om;have cX:XC+(pv*2)<len:=om;obtain⟨r0,hr0⟩:∃r,C[XC+pv*2]?=some r:=⟨_,aK (by rw[HCL.out];exact cX)⟩;have MCW:=(MC.imp KR.ok (p':=fun q=>NT w0.FB bl bm vm q/\q<w.heap.size) (fun q hq h=>⟨h,hq⟩)).bH KR.ok J.T.s;have hxp:∀u,u<c->(XC+u)/c=x.1/\(XC+u) % c=u:=fun u hu=>by rw[HXC.out,cJ];exact⟨by rw[pS om,iI hu,fV],by rw[tU,iC hu]⟩
   have v0:∀h,ij h r0=Wv h x.1 (2*pv):=fun h=>by rw[HV.out _ _ hr0 h,(hxp _ hp2).1,(hxp _ hp2).2,cJ]
   have q0:=HQ.out r0 (cO hr0);obtain⟨-,_,⟨aA,bA,oA,kA,rfl,hkA,hpA,MA⟩,hcA⟩:=MCW _ r0 hr0;have cA:=hcA 0 _ rfl;rw[show oc+(XC+pv*2)*KR.sz+0=oc+XC+pv*2 by show oc+(XC+pv*2)*1+0=_;omega] at cA;have c11:=B11W.c0;have c9:=J.B9.c0;have HV0:=aR v0;have HQ0:=aR q0;have HLN:=aR hlen9;have hxp:=aR hxp;have HFX:=aR hfx;have HR0:=aR hr0;clear v0 q0 hlen9 hpos hcA hs1 hs2 hfx hr0;have hyn:(te OF c pre.length++yL c (OF+pre.length*(3*(c/2)+2*(c % 2))) (pre'.map Fin.val)).length<=3000000:=(by rw[aT];unfold te yL;rw[bS,bS,cT,cT,bS];have h1:pre.length*(c/2+c % 2)<=1000*1000:=dF (by have:=HNC.out;omega) om;have:=HN2.out;omega);generalize hYL:te OF c pre.length++yL c (OF+pre.length*(3*(c/2)+2*(c % 2))) (pre'.map Fin.val)=Y at*;have HYL:=aR hYL;have HYN:=aR hyn;clear hyn;clear hYL;have lbc:bc<w.heap.size:=MC.lt KR.ok (by rw[HCL.out];omega);have lB9:=J.B9.lt;have lB10:=J.B10.lt;have hlA:r0.length<=20001:=(by have:=HQ0.out.1.len;omega);generalize hnA:r0.length=nA at*;have HNA:=aR hnA;have cAt:∀wq:World,w.S wq->wq.cell? (jj bc (oc+XC+pv*2))=some (.l aA nA kA):=fun wq h=>(aO (w:=W') (a:=jj bc (oc+XC+pv*2)) ((h.block bc lbc).trans (J.T.s.block bc lbc).symm)).trans cA;have MAt:∀wq:World,w.S wq->ML KT wq (fun q=>NT w0.FB bl bm vm q/\q<w.heap.size) aA bA oA r0:=fun wq h=>by have mv:∀q,q<w.heap.size->wq.heap[q]?=W'.heap[q]?:=fun q hq=>(h.block q hq).trans (J.T.s.block q hq).symm;intro u y hu;obtain⟨h1,cs,h2,h3⟩:=MA u y hu;obtain⟨xx,yy,h4,h5⟩:=h2;exact⟨h1,cs,⟨xx,yy,h4,h5.blocks (fun q _ hq=>mv q hq.2)⟩,fun v z hz=>(aO (w:=W') (a:=jj bA _) (mv bA (hpA (by have:=(bG.1 hu).1;have:=HNA.out;omega)).2)).trans (h3 v z hz)⟩
   clear hnA cA MA;by_cases hp3:pv<c/2
   . have ep:chE bc (oc+XC) c 2 pv=.l (jp bc (oc+XC+pv*2)) 2 2:=by
      unfold chE;rw[uA om]
     rw[ep];clear ep;obtain⟨r1,hr1⟩:∃r,C[XC+pv*2+1]?=some r:=⟨_,aK (by rw[HCL.out];omega)⟩;have v1:∀h,ij h r1=Wv h x.1 (2*pv+1):=fun h=>by rw[HV.out _ _ hr1 h,show XC+pv*2+1=XC+(pv*2+1) from rfl,(hxp.out _ om).1,(hxp.out _ om).2,cJ]
     have HV1:=aR v1;have HQ1:=aR (HQ.out r1 (cO hr1));have HQ01:=aR (HQ2.out r0 (cO HR0.out) r1 (cO hr1));obtain⟨-,_,⟨aB,bB,oB,kB,rfl,hkB,hpB,MB⟩,hcB⟩:=MCW _ r1 hr1;have cB:=hcB 0 _ rfl;rw[show oc+(XC+pv*2+1)*KR.sz+0=oc+XC+pv*2+1 by show oc+(XC+pv*2+1)*1+0=_;omega] at cB;have hlB:r1.length<=20001:=(by have:=HQ1.out.1.len;omega);generalize hnB:r1.length=nB at*;have HNB:=aR hnB;have cBt:∀wq:World,w.S wq->wq.cell? (jj bc (oc+XC+pv*2+1))=some (.l aB nB kB):=fun wq h=>(aO (w:=W') (a:=jj bc (oc+XC+pv*2+1)) ((h.block bc lbc).trans (J.T.s.block bc lbc).symm)).trans cB;have MBt:∀wq:World,w.S wq->ML KT wq (fun q=>NT w0.FB bl bm vm q/\q<w.heap.size) aB bB oB r1:=fun wq h=>by have mv:∀q,q<w.heap.size->wq.heap[q]?=W'.heap[q]?:=fun q hq=>(h.block q hq).trans (J.T.s.block q hq).symm;intro u y hu;obtain⟨h1,cs,h2,h3⟩:=MB u y hu;obtain⟨xx,yy,h4,h5⟩:=h2;exact⟨h1,cs,⟨xx,yy,h4,h5.blocks (fun q _ hq=>mv q hq.2)⟩,fun v z hz=>(aO (w:=W') (a:=jj bB _) (mv bB (hpB (by have:=(bG.1 hu).1;have:=HNB.out;omega)).2)).trans (h3 v z hz)⟩
     clear v1 hr1 hcB hnB cB MB;gi_wp2;refine c3 10 (fun w'=>w'.cell? (jj (w.heap.size+1+1+1) 0)=some (.s cy Y.length ky)/\w'.cell? (jj w6.heap.size 0)=some (.bool (qn (1:Rat)))/\w'.cell? (jj w6.heap.size 1)=some (.l a2 n2 c2)/\w'.cell? (jj w6.heap.size 2)=some (.l b2 m2 d2)) kr kr (fun h=>by obtain⟨_,_,h⟩:=h;exact h) ⟨J.B10.c0,B12W.c0,B12W.c1,B12W.c2⟩ (fun hHeld=> ?_);have dr:=ue W';have zd:W'.drew.heap.size=W'.heap.size:=rfl;refine tX 0 36 ?_;refine tX 1 37 ?_;refine tX 2 38 ?_;refine tX 3 39 ?_;refine tX 4 40 ?_;refine uX 5 fun K hK=> ?_;go_simp;go_wp2_with (go_at_call 149;(with_reducible refine (pm (R1.bH dr)).mono ?_);rintro e wz ⟨rfl,sz⟩);have Sz:=dr.tr sz;have Jz:=J.bH Sz;have Rz:=R1.bH Sz;have zz:=Sz.size;have Bz:=B12W.bH Sz;refine hK.out _ _ (fun _=>⟨Jz.B10.c0,Bz.c0,Bz.c1,Bz.c2⟩) ?_;clear hK K hHeld;refine uX 6 fun K hK=> ?_;go_simp;have sV:=cV wz (.o #[.bool (qn (1:Rat)),.l a2 n2 c2,.l b2 m2 d2,.bool (qn (1:Rat)),.l a2 n2 c2,.l b2 m2 d2,.bool (qn (-1:Rat)),.l a2 n2 c2,.l b2 m2 d2] 83);have QV:dQ (wz.alloc (.o #[.bool (qn (1:Rat)),.l a2 n2 c2,.l b2 m2 d2,.bool (qn (1:Rat)),.l a2 n2 c2,.l b2 m2 d2,.bool (qn (-1:Rat)),.l a2 n2 c2,.l b2 m2 d2] 83)) (fun q=>w.heap.size+1+1+1<q/\q<w8.heap.size/\vP w8 q) (jp wz.heap.size 0) wz.heap.size 0 3 (fun t=>if t<2 then 1 else-1):=(show ML KQ _ _ _ _ _ ((List.range 3).map (fun t=>if t<2 then 1 else-1)) from ML.three KQ.ok (c:=[.bool (qn (1:Rat)),.l a2 n2 c2,.l b2 m2 d2]) (d:=[.bool (qn (1:Rat)),.l a2 n2 c2,.l b2 m2 d2]) (f:=[.bool (qn (-1:Rat)),.l a2 n2 c2,.l b2 m2 d2]) (x:=(1:Rat)) (y:=(1:Rat)) (z:=(-1:Rat)) ⟨_,_,rfl,Rz.imp (fun q hq h=>⟨om,h.2.lt,h.2⟩)⟩ ⟨_,_,rfl,Rz.imp (fun q hq h=>⟨om,h.2.lt,h.2⟩)⟩ ⟨_,_,rfl,Rz.flip.imp (fun q hq h=>⟨om,h.2.lt,h.2⟩)⟩ 83).fn;have Jv:=Jz.bH sV;have zV:=sV.size;have Bv:=Bz.bH sV;refine hK.out _ _ (fun _=>⟨Jv.B10.c0,Bv.c0,Bv.c1,Bv.c2⟩) ?_;clear hK K;generalize wz.alloc _=wV at*;have JP:=@ti ((OF+O.length:Nat):Int) (jp wz.heap.size 0) wz.heap.size 0 3 3 _ (fun t=>if t<2 then 1 else-1) wV QV om om om;rw[show (List.range 3).map (fun t=>if t<2 then 1 else-1)=([1,1,-1]:List Rat) from rfl] at JP;have HPE:=aR (show cL ((OF+O.length:Nat):Int) [1,1,-1]=yR c (OF+O.length) pv from by unfold yR;rw[aY hp3]);generalize hPLe:cL ((OF+O.length:Nat):Int) [1,1,-1]=pl at JP HPE;clear hPLe;refine uX 7 fun K hK=> ?_;go_simp;go_wp2_with (go_at_call 107;(refine JP.mono ?_);rintro e w9 ⟨cP,kP,xP,rfl,GP,s9⟩);have J9:=Jv.bH s9;have z9:=s9.size;have lP:=GP.lt;have capP:=GP.cap;have MP:=GP.ml KT.ok;have B9':=Bv.bH s9;refine hK.out _ _ (fun _=>⟨J9.B10.c0,B9'.c0,B9'.c1,B9'.c2⟩) ?_;clear hK K JP QV;refine uX 8 fun K hK=> ?_;go_simp;have sX:=cV w9 (.o #[.s cP pl.length kP] 163);have JX:=J9.bH sX;have zX:=sX.size;have BX:=B9'.bH sX;refine hK.out _ _ (fun _=>⟨JX.B10.c0,BX.c0,BX.c1,BX.c2⟩) ?_;clear hK K;refine uX 9 fun K hK=> ?_;obtain⟨xy,GY⟩:=JX.T.G2;refine mr (m:=1) KR.ok GY rfl (ML.one (p:=fun q=>(w.heap.size<=q/\q≠co/\¬(q=w.heap.size+1+1∨q=w.heap.size+1+1+1))/\q≠cy) KR.ok (c:=[.s cP pl.length kP]) (x:=pl) ⟨_,cP,0,kP,rfl,capP,fun _=>⟨⟨om,om,om⟩,om⟩,MP.imp KT.ok (fun q _ h=>by
      have h1:q≠co:=fun e=>J.f1 (.inl (by rw[<-e];exact⟨h.1.2.2,h.1.1⟩));have h2:q≠cy:=fun e=>J.f2 (.inl (by rw[<-e];exact⟨h.1.2.2,h.1.1⟩));exact⟨⟨om,h1,om⟩,h2⟩)⟩ 163) rfl rfl _ _ rfl rfl rfl (by have:=HYN.out;omega) ?_
     intro c' k' wY AP;obtain⟨JW,gW⟩:=JX.win (m:=1) (L':=[pl]) rfl AP;have BY:=(JX.B10.nI (fw AP.2.1 JX.B10.lt (fun e=>JX.T.x2 (.inr e.symm))));have BY12:=BX.lV (fw AP.2.1 BX.lt (fun e=>J.f2 (.inl (by rw[<-e];exact⟨iR B12'.c0,om⟩))));refine hK.out _ _ (fun _=>⟨BY.c0,BY12.c0,BY12.c1,BY12.c2⟩) ?_;clear hK K;refine uX 10 fun K hK=> ?_;have m72:=BY.c0;have f72:=BY.f 0;go_simp;refine hK.out _ _ (fun h=>absurd rfl h) ?_;clear hK K m72 f72;refine wG kr ?_ _;obtain⟨W3,eW3⟩:∃y,y=wY.setCell (jj (w.heap.size+1+1+1) 0) (.s c' (Y.length+1) k'):=⟨_,rfl⟩;rw[<-eW3] at JW gW⊢;have hd3:=(⟨JW.B9.c0,cAt _ JW.T.s,cBt _ JW.T.s⟩:W3.cell? (jj (w.heap.size+1+1) 0)=some (.s co O.length ko)/\W3.cell? (jj bc (oc+XC+pv*2))=some (.l aA nA kA)/\W3.cell? (jj bc (oc+XC+pv*2+1))=some (.l aB nB kB));have EW3:=aR eW3;have GW:=aR ((Gr.of (T:=fun q=>q=cy∨q=w.heap.size+1+1+1) ((Sz.tr sV).trans (sM (s9.tr sX) om))).trans gW (fun q _ h=>h));have zW3:=JW.T.s.size;have zG:=GW.out.size;have lW3:=JW.T.lt;clear eW3 gW JX J9 Jv Jz GY MP GP Rz Bz Bv B9' BX BY BY12 AP;gi_wp2;refine c3 18 (fun w'=>w'.cell? (jj (w.heap.size+1+1) 0)=some (.s co O.length ko)/\w'.cell? (jj bc (oc+XC+pv*2))=some (.l aA nA kA)/\w'.cell? (jj bc (oc+XC+pv*2+1))=some (.l aB nB kB)) kr kr (fun h=>by obtain⟨_,_,h⟩:=h;exact h) ⟨(JW.bH (yD.drew)).B9.c0,cAt _ (JW.bH (yD.drew)).T.s,cBt _ (JW.bH (yD.drew)).T.s⟩ (fun hHeld=> ?_);have dr3:=ue W3;have zd3:W3.drew.heap.size=W3.heap.size:=rfl;have Jd:=JW.bH dr3;refine tX 0 46 ?_;refine tX 1 47 ?_;refine tX 2 48 ?_;refine tX 3 49 ?_;refine tX 4 50 ?_;refine tX 5 51 ?_;refine tX 6 52 ?_;refine tX 9 55 ?_;refine tX 10 56 ?_;refine tX 11 57 ?_;refine tX 12 58 ?_;refine tX 13 59 ?_;refine tX 14 60 ?_;refine uX 7 fun K hK=> ?_;go_simp;go_wp2_with (go_at_call 150;(with_reducible refine (@uT aB bB oB nB kB (fun q=>NT w0.FB bl bm vm q/\q<w.heap.size) r1 W3.drew (MBt _ Jd.T.s) HNB.out om).mono ?_);rintro e wn ⟨cN,kN',xN,rfl,GN,sn⟩);have Jn:=Jd.bH sn;have zn:=sn.size;have lN:=GN.lt;have capN:=GN.cap;have MN:=GN.ml KT.ok;refine hK.out _ _ (fun _=>⟨Jn.B9.c0,cAt _ Jn.T.s,cBt _ Jn.T.s⟩) ?_;clear hK K hHeld;refine uX 8 fun K hK=> ?_;go_simp;have JSu:=@abQ m aA bA oA kA (jp cN 0) cN 0 kN' r0 (jz r1) nA nB wn ((MAt _ Jn.T.s).imp KT.ok (fun _ _ _=>trivial)) (MN.imp KT.ok (fun _ _ _=>trivial)) HNA.out (by unfold jz;rw[bS];exact HNB.out) hkA capN om HQ0.out.1 (bN HQ1.out.1) HQ0.out.2.1 (fun z=>by rw[afL,<-gQ];exact HQ01.out z) HQ0.out.2.2 (fun y hy=>by
      obtain⟨y',hy',rfl⟩:=dT.1 hy;exact (HQ1.out.2.2 y' hy').neg)
     go_wp2_with (go_at_call 151;(with_reducible refine JSu.mono ?_);rintro e wu ⟨cU,kU,xU,rU,rfl,GU,okU,vU,-,su⟩);clear JSu;have Ju:=Jn.bH su;have zu:=su.size;have lU:=GU.lt;have capU:=GU.cap;have MU:=GU.ml KT.ok;refine hK.out _ _ (fun _=>⟨Ju.B9.c0,cAt _ Ju.T.s,cBt _ Ju.T.s⟩) ?_;clear hK K;refine uX 15 fun K hK=> ?_;go_simp;go_wp2_with (go_at_call 150;(with_reducible refine (@uT aB bB oB nB kB (fun q=>NT w0.FB bl bm vm q/\q<w.heap.size) r1 wu (MBt _ Ju.T.s) HNB.out om).mono ?_);rintro e wv ⟨cM,kM,xM,rfl,GM,sv⟩);have Jm:=Ju.bH sv;have zv:=sv.size;have lM:=GM.lt;have capM:=GM.cap;have MM:=GM.ml KT.ok;refine hK.out _ _ (fun _=>⟨Jm.B9.c0,cAt _ Jm.T.s,cBt _ Jm.T.s⟩) ?_;clear hK K;refine uX 16 fun K hK=> ?_;go_simp;have sQ:=cV wv (.o #[.s cU rU.length kU,.l aB nB kB,.s cM nB kM] 163);have JQ:=Jm.bH sQ;have zQ:=sQ.size;refine hK.out _ _ (fun _=>⟨JQ.B9.c0,cAt _ JQ.T.s,cBt _ JQ.T.s⟩) ?_;clear hK K;refine uX 17 fun K hK=> ?_;obtain⟨xo,GO⟩:=JQ.T.G1
     refine mr (m:=3) KR.ok GO rfl (ML.three (p:=fun q=>((NT w0.FB bl bm vm q/\q<w.heap.size)∨(w.heap.size<=q/\q≠c'/\¬(q=w.heap.size+1+1∨q=w.heap.size+1+1+1)))/\q≠co) KR.ok (c:=[.s cU rU.length kU]) (d:=[.l aB nB kB]) (f:=[.s cM nB kM]) (x:=rU) (y:=r1) (z:=jz r1)
      ⟨_,cU,0,kU,rfl,capU,fun _=>⟨.inr ⟨om,om,om⟩,om⟩,(MU.bH KT.ok sv).imp KT.ok (fun q _ h=>⟨.inr ⟨om,om,om⟩,om⟩)⟩ ⟨aB,bB,oB,kB,by rw[HNB.out],by rw[HNB.out];exact hkB,fun h=>⟨.inl (hpB (by rw[HNB.out] at h;exact h)),by have:=(hpB (by rw[HNB.out] at h;exact h)).2;omega⟩,(MBt _ Jm.T.s).imp KT.ok (fun q _ h=>⟨.inl h,om⟩)⟩ ⟨_,cM,0,kM,by rw[show (jz r1).length=nB by unfold jz;rw[bS];exact HNB.out],by rw[show (jz r1).length=nB by unfold jz;rw[bS];exact HNB.out];exact capM,fun _=>⟨.inr ⟨om,om,om⟩,om⟩,MM.imp KT.ok (fun q _ h=>⟨.inl h.1,by have:=h.1.2;omega⟩)⟩ 163) rfl rfl _ _ rfl rfl rfl om ?_
     intro c'' k'' wO AQ;obtain⟨JE,gE⟩:=JQ.own (m:=3) (L':=[rU,r1,jz r1]) rfl AQ;have BO:=(JQ.B9.nI (fw AQ.2.1 JQ.B9.lt (fun e=>JQ.T.x1 (.inl e.symm))));have SO:w.S wO:=eI JQ.T.s AQ.2.1 om JQ.T.s.size;refine hK.out _ _ (fun _=>⟨BO.c0,cAt _ SO,cBt _ SO⟩) ?_;clear hK K;refine uX 18 fun K hK=> ?_;have m72:=BO.c0;have f72:=BO.f 0;go_simp;refine hK.out _ _ (fun h=>absurd rfl h) ?_;clear hK K m72 f72;refine wG kr ?_ _;obtain⟨W5,eW5⟩:∃y,y=wO.setCell (jj (w.heap.size+1+1) 0) (.s c'' (O.length+3) k''):=⟨_,rfl⟩;rw[<-eW5] at JE gE⊢
     have HRN:=aR (show vz m (fun h=>tj (Wv h x.1) c pv) [rU,r1,jz r1] by
      refine⟨fun h=> ?_,fun y hy=> ?_⟩
      . simp only[dG,kC];unfold tj;rw[aY hp3,vU,fa,HV0.out,HV1.out,gQ]
      . simp only[fW,jA,qO] at hy;rcases hy with rfl | rfl | rfl
        . exact okU
        . exact HQ1.out.1
        . exact bN HQ1.out.1)
     have GE:Gr (fun q=>q=co∨q=cy∨q=w.heap.size+1+1∨q=w.heap.size+1+1+1) W' W5:=((Gr.mk GW.out.os GW.out.tape GW.out.output GW.out.size (fun q hq hn=>GW.out.block q hq (fun h=>hn (by rcases h with h | h;exact .inr (.inl h);exact .inr (.inr (.inr h)))) ):Gr (fun q=>q=co∨q=cy∨q=w.heap.size+1+1∨q=w.heap.size+1+1+1) W' W3)).trans ((Gr.of (T:=fun q=>q=co∨q=w.heap.size+1+1) ((dr3.tr sn).trans (sM (su.tr (sv.trans (sM sQ sv.size))) om))).trans gE (fun q _ h=>h)) (fun q _ h=>by rcases h with h | h;exact .inl h;exact .inr (.inr (.inl h)));have cl:=J.cells;have HKE:=aR (show KeepsFrom w8.heap.size W' W5 from xL GE (fun q h=>by
      rcases h with rfl | rfl | rfl | rfl
      . exact cl.1
      . exact cl.2.1
      . exact cl.2.2.1
      . exact cl.2.2.2))
     have HKE2:=aR (show KeepsFrom W2.heap.size W' W5 from xL GE (fun q h=>by
      rcases h with rfl | rfl | rfl | rfl
      . exact cl.1
      . exact cl.2.1
      . exact cl.2.2.1
      . exact cl.2.2.2))
     have HJE:=aR (show CtJ w W2 W5 (fun q=>NT w0.FB bl bm vm q/\q<w.heap.size) (fun q=>(vP w8 q/\w.heap.size+1+1+1<q)∨q=W.heap.size∨q=W.heap.size+1) (w.heap.size+1+1) (w.heap.size+1+1+1) c'' k'' c' k' (O++[rU,r1,jz r1]) (te OF c pre.length++yL c (OF+pre.length*(3*(c/2)+2*(c % 2))) ((pre'++[(⟨pv,hpv⟩:Fin (chN c 2))]).map Fin.val)) by
      rw[eJ,lO,ai5,<-dZ,HYL.out,<-HPOS.out,<-HPE.out];exact JE)
     have HRE:=aR (show vz m (fun h=>(pre.flatMap fun e=>iw (Wv h e.1) c)++((pre'++[(⟨pv,hpv⟩:Fin (chN c 2))]).map Fin.val).flatMap (tj (Wv h x.1) c)) (O++[rU,r1,jz r1]) from (RO.append HRN.out).qD (fun h=>by
      rw[eJ,lO,iG,dZ];simp))
     have EW5:=aR eW5;clear eW5 JE gE GE cl;gi_wp2;exact⟨HKE2.out,fun q hq=>((HJE.out.fx q (.inr hq)).2.2.2).trans ((J.fx q (.inr hq)).2.2.2).symm,⟨c'',k'',c',k',_,HJE.out,HRE.out⟩,hKF.trans HKE.out⟩
   . have ep:chE bc (oc+XC) c 2 pv=.l (jp bc (oc+XC+pv*2)) 1 1:=by
      unfold chE;rw[show min 2 (c-pv*2)=1 by omega]
     rw[ep];clear ep;gi_wp2;refine c3 9 (fun w'=>w'.cell? (jj (w.heap.size+1+1+1) 0)=some (.s cy Y.length ky)/\w'.cell? (jj w6.heap.size 0)=some (.bool (qn (1:Rat)))/\w'.cell? (jj w6.heap.size 1)=some (.l a2 n2 c2)/\w'.cell? (jj w6.heap.size 2)=some (.l b2 m2 d2)) kr kr (fun h=>by obtain⟨_,_,h⟩:=h;exact h) ⟨J.B10.c0,B12W.c0,B12W.c1,B12W.c2⟩ (fun hHeld=> ?_);have dr:=ue W';have zd:W'.drew.heap.size=W'.heap.size:=rfl;refine tX 0 64 ?_;refine tX 1 65 ?_;refine tX 2 66 ?_;refine tX 3 67 ?_;refine uX 4 fun K hK=> ?_;go_simp;go_wp2_with (go_at_call 149;(with_reducible refine (pm (R1.bH dr)).mono ?_);rintro e wz ⟨rfl,sz⟩);have Sz:=dr.tr sz;have Jz:=J.bH Sz;have Rz:=R1.bH Sz;have zz:=Sz.size;have Bz:=B12W.bH Sz;refine hK.out _ _ (fun _=>⟨Jz.B10.c0,Bz.c0,Bz.c1,Bz.c2⟩) ?_;clear hK K hHeld;refine uX 5 fun K hK=> ?_;go_simp;have sV:=cV wz (.o #[.bool (qn (1:Rat)),.l a2 n2 c2,.l b2 m2 d2,.bool (qn (-1:Rat)),.l a2 n2 c2,.l b2 m2 d2] 83);have QV:dQ (wz.alloc (.o #[.bool (qn (1:Rat)),.l a2 n2 c2,.l b2 m2 d2,.bool (qn (-1:Rat)),.l a2 n2 c2,.l b2 m2 d2] 83)) (fun q=>w.heap.size+1+1+1<q/\q<w8.heap.size/\vP w8 q) (jp wz.heap.size 0) wz.heap.size 0 2 (fun t=>if t<1 then 1 else-1):=(show ML KQ _ _ _ _ _ ((List.range 2).map (fun t=>if t<1 then 1 else-1)) from ML.two KQ.ok (c:=[.bool (qn (1:Rat)),.l a2 n2 c2,.l b2 m2 d2]) (d:=[.bool (qn (-1:Rat)),.l a2 n2 c2,.l b2 m2 d2]) (x:=(1:Rat)) (y:=(-1:Rat)) ⟨_,_,rfl,Rz.imp (fun q hq h=>⟨om,h.2.lt,h.2⟩)⟩ ⟨_,_,rfl,Rz.flip.imp (fun q hq h=>⟨om,h.2.lt,h.2⟩)⟩ 83).fn;have Jv:=Jz.bH sV;have zV:=sV.size;have Bv:=Bz.bH sV;refine hK.out _ _ (fun _=>⟨Jv.B10.c0,Bv.c0,Bv.c1,Bv.c2⟩) ?_;clear hK K;generalize wz.alloc _=wV at*;have JP:=@ti ((OF+O.length:Nat):Int) (jp wz.heap.size 0) wz.heap.size 0 2 2 _ (fun t=>if t<1 then 1 else-1) wV QV om om om;rw[show (List.range 2).map (fun t=>if t<1 then 1 else-1)=([1,-1]:List Rat) from rfl] at JP;have HPE:=aR (show cL ((OF+O.length:Nat):Int) [1,-1]=yR c (OF+O.length) pv from by unfold yR;rw[aM hp3]);generalize hPLe:cL ((OF+O.length:Nat):Int) [1,-1]=pl at JP HPE;clear hPLe;refine uX 6 fun K hK=> ?_;go_simp;go_wp2_with (go_at_call 107;(refine JP.mono ?_);rintro e w9 ⟨cP,kP,xP,rfl,GP,s9⟩);have J9:=Jv.bH s9;have z9:=s9.size;have lP:=GP.lt;have capP:=GP.cap;have MP:=GP.ml KT.ok;have B9':=Bv.bH s9;refine hK.out _ _ (fun _=>⟨J9.B10.c0,B9'.c0,B9'.c1,B9'.c2⟩) ?_;clear hK K JP QV;refine uX 7 fun K hK=> ?_;go_simp;have sX:=cV w9 (.o #[.s cP pl.length kP] 163);have JX:=J9.bH sX;have zX:=sX.size;have BX:=B9'.bH sX;refine hK.out _ _ (fun _=>⟨JX.B10.c0,BX.c0,BX.c1,BX.c2⟩) ?_;clear hK K;refine uX 8 fun K hK=> ?_;obtain⟨xy,GY⟩:=JX.T.G2;refine mr (m:=1) KR.ok GY rfl (ML.one (p:=fun q=>(w.heap.size<=q/\q≠co/\¬(q=w.heap.size+1+1∨q=w.heap.size+1+1+1))/\q≠cy) KR.ok (c:=[.s cP pl.length kP]) (x:=pl) ⟨_,cP,0,kP,rfl,capP,fun _=>⟨⟨om,om,om⟩,om⟩,MP.imp KT.ok (fun q _ h=>by
      have h1:q≠co:=fun e=>J.f1 (.inl (by rw[<-e];exact⟨h.1.2.2,h.1.1⟩));have h2:q≠cy:=fun e=>J.f2 (.inl (by rw[<-e];exact⟨h.1.2.2,h.1.1⟩));exact⟨⟨om,h1,om⟩,h2⟩)⟩ 163) rfl rfl _ _ rfl rfl rfl (by have:=HYN.out;omega) ?_
     intro c' k' wY AP;obtain⟨JW,gW⟩:=JX.win (m:=1) (L':=[pl]) rfl AP;have BY:=(JX.B10.nI (fw AP.2.1 JX.B10.lt (fun e=>JX.T.x2 (.inr e.symm))));have BY12:=BX.lV (fw AP.2.1 BX.lt (fun e=>J.f2 (.inl (by rw[<-e];exact⟨iR B12'.c0,om⟩))));refine hK.out _ _ (fun _=>⟨BY.c0,BY12.c0,BY12.c1,BY12.c2⟩) ?_;clear hK K;refine uX 9 fun K hK=> ?_;have m72:=BY.c0;have f72:=BY.f 0;go_simp;refine hK.out _ _ (fun h=>absurd rfl h) ?_;clear hK K m72 f72;refine wG kr ?_ _;obtain⟨W3,eW3⟩:∃y,y=wY.setCell (jj (w.heap.size+1+1+1) 0) (.s c' (Y.length+1) k'):=⟨_,rfl⟩;rw[<-eW3] at JW gW⊢;have hd3:=(⟨JW.B9.c0,cAt _ JW.T.s⟩:W3.cell? (jj (w.heap.size+1+1) 0)=some (.s co O.length ko)/\W3.cell? (jj bc (oc+XC+pv*2))=some (.l aA nA kA));have EW3:=aR eW3;have GW:=aR ((Gr.of (T:=fun q=>q=cy∨q=w.heap.size+1+1+1) ((Sz.tr sV).trans (sM (s9.tr sX) om))).trans gW (fun q _ h=>h));have zW3:=JW.T.s.size;have zG:=GW.out.size;have lW3:=JW.T.lt;clear eW3 gW JX J9 Jv Jz GY MP GP Rz Bz Bv B9' BX BY BY12 AP;gi_wp2;refine c3 10 (fun w'=>w'.cell? (jj (w.heap.size+1+1) 0)=some (.s co O.length ko)/\w'.cell? (jj bc (oc+XC+pv*2))=some (.l aA nA kA)) kr kr (fun h=>by obtain⟨_,_,h⟩:=h;exact h) ⟨(JW.bH (yD.drew)).B9.c0,cAt _ (JW.bH (yD.drew)).T.s⟩ (fun hHeld=> ?_);have dr3:=ue W3;have zd3:W3.drew.heap.size=W3.heap.size:=rfl;have Jd:=JW.bH dr3;refine tX 0 73 ?_;refine tX 1 74 ?_;refine tX 2 75 ?_;refine tX 3 76 ?_;refine tX 4 77 ?_;refine tX 5 78 ?_;refine tX 6 79 ?_;refine uX 7 fun K hK=> ?_;go_simp;go_wp2_with (go_at_call 150;(with_reducible refine (@uT aA bA oA nA kA (fun q=>NT w0.FB bl bm vm q/\q<w.heap.size) r0 W3.drew (MAt _ Jd.T.s) HNA.out om).mono ?_);rintro e wv ⟨cM,kM,xM,rfl,GM,sv⟩);have Jm:=Jd.bH sv;have zv:=sv.size;have lM:=GM.lt;have capM:=GM.cap;have MM:=GM.ml KT.ok;refine hK.out _ _ (fun _=>⟨Jm.B9.c0,cAt _ Jm.T.s⟩) ?_;clear hK K hHeld;refine uX 8 fun K hK=> ?_;go_simp;have sQ:=cV wv (.o #[.l aA nA kA,.s cM nA kM] 163);have JQ:=Jm.bH sQ;have zQ:=sQ.size;refine hK.out _ _ (fun _=>⟨JQ.B9.c0,cAt _ JQ.T.s⟩) ?_;clear hK K;refine uX 9 fun K hK=> ?_;obtain⟨xo,GO⟩:=JQ.T.G1
     refine mr (m:=2) KR.ok GO rfl (ML.two (p:=fun q=>((NT w0.FB bl bm vm q/\q<w.heap.size)∨(w.heap.size<=q/\q≠c'/\¬(q=w.heap.size+1+1∨q=w.heap.size+1+1+1)))/\q≠co) KR.ok (c:=[.l aA nA kA]) (d:=[.s cM nA kM]) (x:=r0) (y:=jz r0)
      ⟨aA,bA,oA,kA,by rw[HNA.out],by rw[HNA.out];exact hkA,fun h=>⟨.inl (hpA (by rw[HNA.out] at h;exact h)),by have:=(hpA (by rw[HNA.out] at h;exact h)).2;omega⟩,(MAt _ Jm.T.s).imp KT.ok (fun q _ h=>⟨.inl h,om⟩)⟩ ⟨_,cM,0,kM,by rw[show (jz r0).length=nA by unfold jz;rw[bS];exact HNA.out],by rw[show (jz r0).length=nA by unfold jz;rw[bS];exact HNA.out];exact capM,fun _=>⟨.inr ⟨om,om,om⟩,om⟩,MM.imp KT.ok (fun q _ h=>⟨.inl h.1,by have:=h.1.2;omega⟩)⟩ 163) rfl rfl _ _ rfl rfl rfl om ?_
     intro c'' k'' wO AQ;obtain⟨JE,gE⟩:=JQ.own (m:=2) (L':=[r0,jz r0]) rfl AQ;have BO:=(JQ.B9.nI (fw AQ.2.1 JQ.B9.lt (fun e=>JQ.T.x1 (.inl e.symm))));have SO:w.S wO:=eI JQ.T.s AQ.2.1 om JQ.T.s.size;refine hK.out _ _ (fun _=>⟨BO.c0,cAt _ SO⟩) ?_;clear hK K;refine uX 10 fun K hK=> ?_;have m72:=BO.c0;have f72:=BO.f 0;go_simp;refine hK.out _ _ (fun h=>absurd rfl h) ?_;clear hK K m72 f72;refine wG kr ?_ _;obtain⟨W5,eW5⟩:∃y,y=wO.setCell (jj (w.heap.size+1+1) 0) (.s c'' (O.length+2) k''):=⟨_,rfl⟩;rw[<-eW5] at JE gE⊢
     have HRN:=aR (show vz m (fun h=>tj (Wv h x.1) c pv) [r0,jz r0] by
      refine⟨fun h=> ?_,fun y hy=> ?_⟩
      . simp only[dG,kC];unfold tj;rw[aM hp3,fa,HV0.out]
      . simp only[fW,jA,qO] at hy;rcases hy with rfl | rfl
        . exact HQ0.out.1
        . exact bN HQ0.out.1)
     have GE:Gr (fun q=>q=co∨q=cy∨q=w.heap.size+1+1∨q=w.heap.size+1+1+1) W' W5:=((Gr.mk GW.out.os GW.out.tape GW.out.output GW.out.size (fun q hq hn=>GW.out.block q hq (fun h=>hn (by rcases h with h | h;exact .inr (.inl h);exact .inr (.inr (.inr h)))) ):Gr (fun q=>q=co∨q=cy∨q=w.heap.size+1+1∨q=w.heap.size+1+1+1) W' W3)).trans ((Gr.of (T:=fun q=>q=co∨q=w.heap.size+1+1) (dr3.tr (sv.trans (sM sQ sv.size)))).trans gE (fun q _ h=>h)) (fun q _ h=>by rcases h with h | h;exact .inl h;exact .inr (.inr (.inl h)));have cl:=J.cells;have HKE:=aR (show KeepsFrom w8.heap.size W' W5 from xL GE (fun q h=>by
      rcases h with rfl | rfl | rfl | rfl
      . exact cl.1
      . exact cl.2.1
      . exact cl.2.2.1
      . exact cl.2.2.2))
     have HKE2:=aR (show KeepsFrom W2.heap.size W' W5 from xL GE (fun q h=>by
      rcases h with rfl | rfl | rfl | rfl
      . exact cl.1
      . exact cl.2.1
      . exact cl.2.2.1
      . exact cl.2.2.2))
     have HJE:=aR (show CtJ w W2 W5 (fun q=>NT w0.FB bl bm vm q/\q<w.heap.size) (fun q=>(vP w8 q/\w.heap.size+1+1+1<q)∨q=W.heap.size∨q=W.heap.size+1) (w.heap.size+1+1) (w.heap.size+1+1+1) c'' k'' c' k' (O++[r0,jz r0]) (te OF c pre.length++yL c (OF+pre.length*(3*(c/2)+2*(c % 2))) ((pre'++[(⟨pv,hpv⟩:Fin (chN c 2))]).map Fin.val)) by
      rw[eJ,lO,ai5,<-dZ,HYL.out,<-HPOS.out,<-HPE.out];exact JE)
     have HRE:=aR (show vz m (fun h=>(pre.flatMap fun e=>iw (Wv h e.1) c)++((pre'++[(⟨pv,hpv⟩:Fin (chN c 2))]).map Fin.val).flatMap (tj (Wv h x.1) c)) (O++[r0,jz r0]) from (RO.append HRN.out).qD (fun h=>by
      rw[eJ,lO,iG,dZ];simp))
     have EW5:=aR eW5;clear eW5 JE gE GE cl;gi_wp2;exact⟨HKE2.out,fun q hq=>((HJE.out.fx q (.inr hq)).2.2.2).trans ((J.fx q (.inr hq)).2.2.2).symm,⟨c'',k'',c',k',_,HJE.out,HRE.out⟩,hKF.trans HKE.out⟩
  case done2=>
   rintro xs W' rfl ⟨⟨co',ko',cy',ky',O',J',RO'⟩,hKF⟩;have hfr:(List.finRange (chN c 2)).map Fin.val=List.range (c/2+c % 2):=by rw[<-HN2.out];exact List.ext_getElem qz (fun i h1 h2=>by simp)
   have e7:∀q,(q=w7.heap.size∨q=w7.heap.size+1)->vP w8 q/\w.heap.size+1+1+1<q:=fun q hq=>by
    rcases hq with rfl | rfl
    . exact⟨iR cBs,om⟩
    . exact⟨iR cBn,om⟩
   rw[hfr,an0,<-ajm] at J';have HJ:=aR J';have HR:=aR (show vz m (fun h=>(pre++[x]).flatMap fun e=>iw (Wv h e.1) c) O' from RO'.qD (fun h=>by
    rw[hfr,<-ahy,iG];simp))
   have HE7:=aR e7;clear J' RO' e7 hfr;gi_wp2;refine⟨hKF,fun q hq=> ?_,co',ko',cy',ky',O', ?_,HR.out⟩
   . have h7:=HE7.out q hq;exact (HJ.out.fx q (.inl h7)).2.2.2.trans (s2.block q (by have:=h7.1.lt;omega))
   . rw[aT,tJ];exact⟨HJ.out.T,HJ.out.B9,HJ.out.B10,HJ.out.n,fun h=>HJ.out.f1 (.inl h),fun h=>HJ.out.f2 (.inl h),fun q h=>⟨(HJ.out.fx q (.inl h)).1,(HJ.out.fx q (.inl h)).2.1,h.1,(HJ.out.fx q (.inl h)).2.2.2.trans (HFX2.out q h.1 h.2)⟩⟩
 case done=>
  rintro D xs W hD rfl ⟨co,ko,cy,ky,O,J,RO⟩ hKD;have hfr:(List.finRange (chN len c)).map Fin.val=List.range nW:=by rw[<-HNC.out];exact List.ext_getElem qz (fun i h1 h2=>by simp)
  have hll:(List.finRange (chN len c)).length=nW:=by rw[List.length_finRange];exact HNC.out
  rw[hll] at J;have RO':vz m (fun h=>(List.range nW).flatMap fun e=>iw (Wv h e) c) O:=RO.qD (fun h=>by rw[<-hfr,rG]);have hOl:O.length=nW*(3*(c/2)+2*(c % 2)):=by rw[RO'.lenF (fun _=>0),iU,show ((List.range nW).map fun e=>(iw (Wv (fun _=>0) e) c).length)=(List.range nW).map fun _=>3*(c/2)+2*(c % 2) from fG (fun e _=>yu _ _),uB,pN,cT]
  have hO1:1<=O.length:=by rw[hOl];exact fE hnW om
  have hwl:(te OF c nW).length=nW*(c/2+c % 2):=by unfold te;rw[bS,cT]
  have lJ:=J.T.lt;have SW:=S.bH J.T.s;obtain⟨xa,GAx⟩:=SW.A;obtain⟨xo,GO⟩:=J.T.G1;obtain⟨xy,GY⟩:=J.T.G2;have MO:=(GO.ml KR.ok).imp KR.ok (p':=NT w0.FB bl bm vm) (fun q _ h=>by
   rcases h.1 with h | h
   . exact h.1
   . exact S.new h.1)
  have hO20:OF+O.length=nN:=by rw[hOl];exact HNN'.out
  have JS:=@eX bl g HE.out lo aL aH aN kL kH kN bd kd bu ku vm bm i m O.length nN base (jp co 0) co 0 ko O (NT w0.FB bl bm vm) K (fun q=>¬w0.FB q) X M A xa W SW.L hin SW.Z SW.N MO rfl hO1 HK.out RO'.ok (fun q h=>⟨h.1,h.2.2.1,h.2.2.2⟩) (fun q hq h=>by have:=(SW.fb q h).2.1;omega) GAx SW.z3 SW.v1 hm hm1 (by rw[HOF.out];exact hO20) hn20 hA;have hbl:=S.L.B.lt;have hvl:=fun (b:Nat) (h:vm.ownBlock=some b)=>(S.vlt h).2;have GYi:=GY.imp KR.ok (P':=fun q=>w.heap.size<=q/\q<W.heap.size) (fun q hq h=>⟨h.1,hq⟩);have lB10:=J.B10.lt;have lD:=(dM.1 hKD).1;have c9:=J.B9.c0;have hws:=J.T.s.size;have HRO:=aR RO';have HWL:=aR hwl;have BT:=J.B10;rw[hwl] at GYi BT;clear hfr hll RO RO' hOl hO20 GAx GO GY MO hwl;simp only;go_wp2_with fail;refine JS.mono ?_;intro e W3 R3;obtain⟨rfl,bm',vm',M',hb',S3,g3,hv3⟩:=SW.stp R3 (ez (aU hO1 (en g i X O)) hm1);clear JS R3;have nT:∀q,w.heap.size<=q->¬(q=bl∨vm.ownBlock=some q):=fun q h1 h=>by
   rcases h with h | h
   . omega
   . have:=hvl _ h;omega
  have B10':=BT.nI (g3.block _ lB10 (nT _ om));have hK3:W3.heap[D]?=some (.deferred (some [])):=(g3.block D lD (nT D om)).trans hKD;have G3:=GYi.gr KR.ok g3 (fun b hb=>by simp[Value.ownBlock] at hb;exact nT b om) (fun q _ hq=>nT q hq.1);have nt:∀q,w.heap.size<=q->q<W.heap.size->NT w0.FB bl bm' vm' q:=fun q h1 h2=>⟨om,om,fun e=>by
   rcases hv3 q e with h | h
   . have:=hvl _ h;omega
   . omega,fun e=>by have:=(S.fb q e).2.1;omega⟩
  have c10:=B10'.c0;have HFIN:=aR (And.intro S3 (And.intro ((G3.ml KR.ok).imp KR.ok (p':=NT w0.FB bl bm' vm') (fun q _ h=>nt q h.1.1 h.1.2)) (And.intro (nt cy om om) G3.cap)));clear S3 G3 nt GYi g3;go_wp2;refine⟨qz,.inl ⟨_,_,rfl,run_takeDeferred hK3, ?_⟩⟩;have gD:=Gr.own (grownBy_putObj' W3 D (.deferred none));have nD:¬vP W3 D:=fun h=>by obtain⟨o,h1,h2⟩:=h;rw[hK3] at h1;cases h1;cases h2
  have wz:=S.e.s.size;obtain⟨F1,F2,F3,F4⟩:=HFIN.out;have nM:D≠bm':=fun e=>by obtain⟨es,clock,h1,-⟩:=F1.Z;rw[<-e,hK3] at h1;cases h1
  have F1':=F1.uI gD (fun q _ e=>by
   cases e;exact⟨om,nD,nM⟩)
  have F2':=((F2.tC KR.tC).move KR.ok gD.size (fun hL=>gD.block cy (F2.lt KR.ok hL) (fun e=>by
   cases e;exact nD (F2.lV KR.ok hL))) (fun q hq h=>gD.block q hq (fun e=>by
   cases e;exact nD h.2))).imp KR.ok (p':=NT w0.FB bl bm' vm') (fun q _ h=>h.1)
  refine⟨_,results_tmp rfl _ _ _,cy,ky,O,bm',vm',M',rfl,F4,HRO.out,F1', ?_,F3⟩;rw[HOF.out];exact F2'
end Go.Proofs.YtaeieekkddndhaaGreat
namespace Go.Proofs.YtaeieekkddndhaaGreat
open Tryz Go.RowKit
variable{w v W V:World}{n m c d k i j l o b p q t r s g h e:Nat}{a A B:Option Addr}{u U:Value}{G:be}{P:Nat->Prop}{Q:Rat}
section
variable{g:be}{t k c:Nat}{V W:(Nat->Rat)->Nat->Nat->Rat}{K:Nat->Prop}{X:Nat->List Row}{C:List Row}
theorem Cmp.map(h:Cmp g t k c V X W C){O:List Row}(d:vz ((eS g).getD t 0) (fun q=>(List.range (vD g (k+1))).flatMap fun e=>iw (W q e) c) O):amap g t=zh (wQ g (k+1) X O) ((eS g).getD t 0):=by
 have b:vz ((eS g).getD t 0) (fun q=>(xV g (k+1)).flatMap fun j=>jt (V q j) (vD g j)) ((xV g (k+1)).flatMap fun j=>nL (X j)):=vz.flat (F:=fun q j=>jt (V q j) (vD g j)) (fun j f=>by
  have a:=mP.1 f;have i:=dU.1 a.1;exact (h.kn j om (by simpa using a.2)).both)
 exact vz.amap (g:=g) (t:=t) ((b.append d).qD (fun q=>(h.on q).symm))
theorem amp(E:iy g)(a:k<g.nn){q:Rat}(b:i7 Q (bT g k) (bD g k))(c:i7 q (bT g k) (bD g k)):i7 (Q-q) (bT g (k+1)) (bD g (k+1)):=by
 refine ((b.sub c).up (ndF (g.N k))).more ?_;have d:=dE (bT g k) (e2 (E.nd a).sh);have e:bT g k*(yA (g.N k)*ui (g.N k))=yA (g.N k)*bT g k*ui (g.N k):=by rw[<-cS,cJ (bT g k)]
 show (bT g k+bT g k)*ndF (g.N k)<=2*(yA (g.N k)*bT g k*ui (g.N k));rw[bI];omega
theorem rP.one(E:iy g)(c:k<g.nn)(o:(g.N k).op=5)(b:(g.N k).k.toNat=1){V:(Nat->Rat)->Nat->Nat->Rat}{A:List Row}(a:rP n (bT g k) (bD g k) (vD g (g.N k).a.toNat) (fun h=>V h (g.N k).a.toNat) A):
 rP n (bT g (k+1)) (bD g (k+1)) (vD g (k+1)) (fun h=>lu (g.N k) (V h (g.N k).a.toNat) (V h (g.N k).b.toNat) (vD g (g.N k).a.toNat)) A:=by
 have S:=((E.nd c).sh.c5 o).2;rw[b,iF] at S;rw[S] at a;refine (a.up (fun _ r=>yq E c r)).qD (fun h x _=> ?_);unfold lu;rw[aM om,aM om,aM om,aM om,aY o,b,iF];rfl
end
def MpI(w0:Frm)(w:World)(bl:Nat)(g:be)(lo:Nat)(aL aH aN:Option Addr)(kL kH kN bd kd bu ku:Nat)(k c base:Nat)(a:Option Addr)(n kc:Nat):Prop:=
 ∃t b off C bm vm M K X,yZ w0 w bl g lo aL aH aN kL kH kN bd kd bu ku ((eS g).getD t 0) bm vm base ((List.range t).map (amap g)) M K X/\ML KR w (NT w0.FB bl bm vm) a b off C/\NT w0.FB bl bm vm b/\C.length=n/\n<=kc/\n=vD g (k+1)*c/\n<=1000/\t<=(bP g).length/\
  ((1<c/\∃V Wv,Cmp g t k c V X Wv C/\∀j,j<=k->k+1<bL g j->K j)∨(c=1/\∃V,ug g t (k+1) V (fun j=>j=k+1∨K j) (fun j=>if j=k+1 then C else X j)))
section
variable{w0:Frm}{w:World}{bl:Nat}{g:be}{lo:Nat}{aL aH aN:Option Addr}{kL kH kN bd kd bu ku:Nat}{k c base:Nat}{a:Option Addr}{n kc:Nat}
theorem MpI.start(E:iy g)(d:k<g.nn)(f:fo g (k+1)=true)(o:(g.N k).op=5){M:List (Int×Value)}{V:(Nat->Rat)->Nat->Nat->Rat}{X:Nat->List Row}(S:yZ w0 w bl g lo aL aH aN kL kH kN bd kd bu ku ((eS g).getD m 0) c u base ((List.range m).map (amap g)) M P X)(H:ug g m k V P X)
 {b off:Nat}(hb:ML KR w (NT w0.FB bl c u) a b off (X (g.N k).a.toNat))(q:0<n->NT w0.FB bl c u b)(hl:(X (g.N k).a.toNat).length=n)(r:n<=kc):MpI w0 w bl g lo aL aH aN kL kH kN bd kd bu ku k (g.N k).k.toNat base a n kc:=by
 have e:=H.ka E d f;have h:=H.kn _ e;obtain⟨y,s⟩:=(E.nd d).sh.c5 o;have t:=E.i9 (j:=(g.N k).a.toNat) (by have:=(E.nd d).ai;omega);have x:=h.len;refine⟨m,b,off,_,c,u,M,P,X,S,hb,q om,hl,r,om,om,H.tl (cZ d), ?_⟩;by_cases l:1<(g.N k).k.toNat
 . exact .inl ⟨l,V,_,Cmp.first E H d f o l e,fun j p v=>H.src j p om⟩
 . have i:(g.N k).k.toNat=1:=om;refine .inr ⟨i,_,H.take E d f ?_ (rP.one E d o i h)⟩;unfold isStep;simp only[qQ,kS,rJ,pF];omega
end
theorem akq{bl:Nat}(E:iy G)(u:G.size<=1048576)(O:jw G<=20000)(hi:b=o+1)(g:o<G.nn)(s:fo G (o+1)=true)(x:(G.N o).op=5)(ah:1<(G.N o).k.toNat)(hc:1<p)(F:Frm){K:Option Addr}(ay:MpI F w bl G n a A B m c d k i j l o p q K t r):
 Cl 152 #[.p bl 0,.i (b:Int),.slice K t r,.i (p:Int)] w fun ax Z=>∃M Y X,ax=.returned (.slice M Y X)/\MpI F Z bl G n a A B m c d k i j l o (p/2+p % 2) q M Y X:=by
 subst hi;obtain⟨y,ac,an,C,bm,vm,aa,az,ab,S,I,hb,P,af,R,ak,U,⟨-,av,Wv,H,hK⟩ | ⟨e1,-⟩⟩:=ay
 . have N:=(E.i9 (j:=o+1) g);have aj:0<C.length:=by
    rw[P,R];exact fE N.1 om
   have ea:=(I 0 _ (aK aj)).1;subst ea;have D:=S.L.G.tV;have T:=H.lst E g s x;have V:=(bG.1 T).1;have hw:=fb (g:=G) (k:=o) (c:=p) x;have W:=kx T;have hm:=ru E O U;have al:mD G (o+1,p)<=20000:=(by rw[<-W];exact ru E O V);have hA:((List.range y).map (amap G)).length<=1000000:=by rw[bS,cT];have h:=qt E;have h3:=E.head.n;omega
   refine (akr bl G E n a A B m c d k i j l ((eS G).getD y 0) bm vm q _ aa az ab (o+1) p (vD G (o+1)) (mD G (o+1,p)) t ac an r C Wv F w S g R ak hc N.1 P af I (fun e h1 h=>⟨hK e om h,(H.kn e om h).len,(H.kn e om h).ok⟩) hm (yK E U) hw.symm al hA
    (fun v f=>⟨H.cm.ok v f,fun z=>th E u D (cZ g) (H.cm.rep v f z),fun ar hx=>by rw[<-uL (H.cm.ok v f).nd hx];exact th E u D (cZ g) (H.cm.rep v f _)⟩)
    (fun ra ha rb hb z=>th E u D (k:=o+1) g (amp E g (H.cm.rep ra ha z) (H.cm.rep rb hb z))) (fun ar v f ae=>(H.cm.at_ f).2.1 ae)).mono ?_
   rintro ax Z ⟨cy,ky,au,ad,aq,M',rfl,ai,RO,L,MY,ag⟩;rw[<-H.map RO,<-lO (f:=amap G),<-eJ,<-gY,<-W] at L;have am:(te (ga G (o+1) (o+1)) p (vD G (o+1))).length=vD G (o+1)*(p/2+p % 2):=(by unfold te;rw[bS,cT]);have aw:vD G (o+1)*(p/2+p % 2)<=vD G (o+1)*p:=dE _ om;refine⟨_,_,_,rfl,y+1,cy,0,_,ad,aq,M',_,_,L,MY,ag,am,ai,rfl,om,V, ?_⟩;by_cases h:2<p
   . exact .inl ⟨om,_,_,H.next E g s x ah h (fun _ _ _=>rfl),fun e h3 h4=>⟨om,h4⟩⟩
   . have e2:p=2:=om;subst e2;refine .inr ⟨rfl,fun ao=>nZ G (o+1) 2 ao, ?_⟩;have Q:=H.done E g s x (X':=rF G (o+1)) (fun _ _ _=>rfl);have eK:(fun e=>e=o+1∨(e<=o/\o+1<bL G e))=fun e=>e=o+1∨(e<o+1/\o+1<bL G e):=funext fun e=>by rw[Nat.lt_succ_iff]
     rw[eK] at Q;exact Q
 . omega
theorem ajQ{bl:Nat}{g:be}(E:iy g){lo:Nat}{aL aH aN:Option Addr}{kL kH kN bd kd bu ku:Nat}(hz:g.size<=1048576)(h20:jw g<=20000)(hi:i=k+1)(hk:k<g.nn)(hn:fo g (k+1)=true)(o:(g.N k).op=5)(w0:Frm)(N:NSt w0 w bl g lo aL aH aN kL kH kN bd kd bu ku t k):
 Cl 113 #[.p bl 0,.i (i:Int)] w (TkC w0 bl g lo aL aH aN kL kH kN bd kd bu ku k):=by
 obtain⟨bm,vm,base,M,V,K,X,S,H⟩:=N;have ND:=E.nd hk;have a0:=ND.a0;have k0:=ND.k0;have hnn:=E.head.n;have ka:=H.ka E hk hn;have k1:=(ND.sh.c5 o).1;obtain⟨ja,hja⟩:∃j:Nat,(g.N k).a=j:=⟨(g.N k).a.toNat,om⟩;obtain⟨KC,hKC⟩:∃j:Nat,(g.N k).k=j:=⟨(g.N k).k.toNat,om⟩;have eja:(g.N k).a.toNat=ja:=om;have eKC:(g.N k).k.toNat=KC:=om;have hKC2:KC<=1000:=om;rw[eja] at ka;obtain⟨aa,ba,oa,na,ca,va,laq,lca,MA,pA⟩:=S.N.at_ ja ka;have JD:=bF E hi S.L hk;rw[hja,hKC] at JD;have HE:=aR E;have HI:=aR hi;have HEJ:=aR (And.intro eja eKC);have HLA:=aR laq;have HK1:=aR (show 1<=KC by omega);have HSI:=aR (And.intro H (And.intro hn o));clear hi hja hKC E eja eKC laq k1 a0 k0 ND H hn o;have dr:∀wq:World,wq.S wq.drew:=fun wq=>(aF wq.heap.size wq).drew;go_enter func113,ntmps113;go_wp2_with fail;refine JD.mono ?_;rintro e w3 ⟨a3,k3,rfl,-,s3⟩;clear JD;obtain⟨w5,e5⟩:∃x,x=w3.alloc (.o #[.i (g.N k).op,.i (ja:Int),.i (g.N k).b,.i (KC:Int),.i (g.N k).s,.l a3 (g.N k).nv k3] 87):=⟨_,rfl⟩;have s5:w3.S w5:=by rw[e5];exact (aF w3.heap.size w3).alloc zR _
 have B5:dL w5 w3.heap.size (.i (g.N k).op) (.i (ja:Int)) (.i (g.N k).b) (.i (KC:Int)) (.i (g.N k).s) (.l a3 (g.N k).nv k3):=by rw[e5];exact dL.new _ _ _ _ _ _ _ _
 have E5:=aR e5;clear e5;have S5:=s3.tr s5;have c9:=(S.L.bH S5).B.c9;have p1:=B5.c1;have p3:=B5.c3;have lk:(Instr.lookup 107 (.map (some bm)) (.i (ja:Int)) false).run Tryz.prog w5.drew=.ok (.l aa na ca) w5.drew:=by have:=((S.Z.bH S5).bH (dr _)).look (P:=Tryz.prog) (mty:=107) (kt:=3) (et:=118) (zv:=.n) underlying107 underlying3 kr false (z:=(ja:Int));rw[show ((iN (ja:Int) M).map Prod.snd).getD (.n)=.l aa na ca from by show (ql (ja:Int) M).getD _=_;rw[va];rfl] at this;exact this
 have S5d:=S5.tr (dr _);have I5:MpI w0 w5.drew bl g lo aL aH aN kL kH kN bd kd bu ku k KC base aa na ca:=by have h:=MpI.start HE.out hk HSI.out.2.1 HSI.out.2.2 (S.bH S5d) HSI.out.1 (a:=aa) (b:=ba) (off:=oa) (n:=na) (kc:=ca) (by rw[HEJ.out.1];exact MA.bH KR.ok S5d) pA (by rw[HEJ.out.1];exact HLA.out) lca;rw[HEJ.out.2] at h;exact h
 clear va MA pA;go_wp2_with fail;rw[<-E5.out];go_region;all_goals go_wp2_with fail
 all_goals (
  go_loopw [5,6] (fun u q wr=>∃(a:Option Addr) (n kc c:Nat),u=.l a n kc/\q=.i (c:Int)/\1<=c/\c<=KC/\MpI w0 wr bl g lo aL aH aN kL kH kN bd kd bu ku k c base a n kc) (fun _ q _=>(intOf q).toNat)
  case atStart=>exact⟨aa,na,ca,KC,rfl,rfl,HK1.out,aC _,I5⟩
  case round=>
   obtain⟨a,n,kc,c,rfl,rfl,hc1,hcK,I⟩:=hrel;by_cases hc:1<c
   . have hz1:(1:Int)<c:=om;have JC:=akq HE.out hz h20 HI.out hk HSI.out.2.1 HSI.out.2.2 (by rw[HEJ.out.2];omega) hc w0 I;clear I I5;go_wp2_with fail;refine JC.mono ?_;rintro e w6 ⟨a',n',kc',rfl,I6⟩;clear JC;go_wp2_with fail;refine (xm om).mono ?_;rintro e w7 ⟨rfl,rfl⟩;have hcc:c/2+c % 2<c:=om;obtain⟨c',hc'⟩:∃y,y=c/2+c % 2:=⟨_,rfl⟩;rw[<-hc'] at I6⊢;have HC':=aR hc';have h1':1<=c':=om;have h2':c'<c:=om;clear hc' hcc;go_wp2;go_roundw
     case rel=>exact⟨a',n',kc',c',rfl,rfl,h1',om,I6⟩
     case measure=>exact yI
   . have ec:c=1:=om;subst ec;obtain⟨t',b,off,C,bm',vm',M',K',X',S',MC,hb,hCl,hcap,hnc,hn1,ht,⟨h,-⟩ | ⟨-,V',H'⟩⟩:=I
     . omega
     . obtain⟨w8,hr8,S8⟩:=S'.put (i:=i) (by have:=HI.out;omega) hCl hcap MC (fun _=>hb);have c9':=S'.L.B.c9;have HS8:=aR S8;have HH:=aR H';have HNC:=aR hnc;clear S8 H' hnc;go_wp2;go_end0;have e:=HI.out;subst e;exact⟨rfl,t',bm',vm',base,_,V',_,_,HS8.out,HH.out⟩)
section
variable{f:Frm}{w w':World}{bl:Nat}{g:be}{lo:Nat}{aL aH aN:Option Addr}{kL kH kN bd kd bu ku:Nat}{t k:Nat}
theorem NSt.bH(h:NSt f w bl g lo aL aH aN kL kH kN bd kd bu ku t k)(s:w.S w'):NSt f w' bl g lo aL aH aN kL kH kN bd kd bu ku t k:=by
 obtain⟨b,c,a,M,V,K,X,S,H⟩:=h;exact⟨b,c,a,M,V,K,X,S.bH s,H⟩
theorem NSt.uH(E:iy g)(h:NSt f w bl g lo aL aH aN kL kH kN bd kd bu ku t k)(i:k<=n)(c:n<=g.nn)(d:∀x,k<=x->x<n->¬fo g (x+1)=true):NSt f w bl g lo aL aH aN kL kH kN bd kd bu ku t n:=by
 obtain⟨b,e,a,M,V,K,X,S,H⟩:=h;exact⟨b,e,a,M,V,K,X,S,ug.uH E (n-k) om c d H⟩
theorem NSt.low(h:NSt f w bl g lo aL aH aN kL kH kN bd kd bu ku t k):∃wd a d,Low w bl g lo aL aH aN kL kH kN bd kd bu ku wd a d:=by
 obtain⟨c,d,b,M,V,K,X,S,H⟩:=h;exact⟨_,_,_,S.L⟩
theorem NSt.fix(h:NSt f w bl g lo aL aH aN kL kH kN bd kd bu ku t k)(a:f.FB n):w.heap[n]?=f.wf.heap[n]?:=by
 obtain⟨c,d,b,M,V,K,X,S,H⟩:=h;exact (S.fb n a).2.2.2
theorem an1(E:iy g)(e:g.size<=1048576)(c:jw g<=20000)(a:k<g.nn)(d:fo g (k+1)=true)(n:Nat)(T:Tk w n bl)(N:NSt f w bl g lo aL aH aN kL kH kN bd kd bu ku t k):
 ∃F:Nat,(∃z:Nat,(g.N k).op=z/\w.cell? (jj n z)=some (.func (.func F) #[.p bl 0] #[])/\z<8/\((z=1/\F=109)∨(z=2/\F=110)∨(z=3/\F=111)∨(z=4/\F=112)∨(z=5/\F=113)∨(z=6/\F=114)∨(z=7/\F=115)))/\Cl F #[.p bl 0,.i ((k+1:Nat):Int)] w (TkC f bl g lo aL aH aN kL kH kN bd kd bu ku k):=by
 have i:=(E.nd a).sh.f.o1;have j:=(E.nd a).sh.f.o7;rcases (show (g.N k).op=1∨(g.N k).op=2∨(g.N k).op=3∨(g.N k).op=4∨(g.N k).op=5∨(g.N k).op=6∨(g.N k).op=7 by omega) with h | h | h | h | h | h | h
 . exact⟨_,⟨1,h,T.c1,by decide,qz⟩,amQ E e c a d h N⟩
 . exact⟨_,⟨2,h,T.c2,by decide,qz⟩,an6 E c a d h N⟩
 . exact⟨_,⟨3,h,T.c3,by decide,qz⟩,amC E c a d h N⟩
 . exact⟨_,⟨4,h,T.c4,by decide,qz⟩,aov E e c a d h N⟩
 . exact⟨_,⟨5,h,T.c5,by decide,qz⟩,ajQ E e c rfl a d h f N⟩
 . exact⟨_,⟨6,h,T.c6,by decide,qz⟩,anX E e c a d h N⟩
 . exact⟨_,⟨7,h,T.c7,by decide,qz⟩,anH E e c a d h N⟩
theorem alB(E:iy g)(d:k<g.nn)(v:fo g (k+1)=true)(N:NSt f w bl g lo aL aH aN kL kH kN bd kd bu ku t (k+1)):
 Cl 69 #[.p bl 0,.i ((k+1:Nat):Int)] w fun e l=>e=.returned (.tuple #[])/\NSt f l bl g lo aL aH aN kL kH kN bd kd bu ku t (k+1):=by
 obtain⟨o,x,n,M,V,K,X,S,H⟩:=N;have a:=E.nd d;refine (alC E rfl S.L S.e S.z1 S.n1 S.n2 S.Z d).mono ?_;rintro e l ⟨rfl,m,i⟩;have s:∀j:Nat,(j:Int)∈wI (g.N k).op (g.N k).a (g.N k).b->j<=k:=fun j c=>by
  have p:=a.a0;have y:=a.ai;have r:=a.b0;have A:=a.bi;unfold wI at c;split at c
  . simp at c;omega
  . simp at c;omega
 have u:∀z∈wI (g.N k).op (g.N k).a (g.N k).b,∃j:Nat,z=j:=fun z b=>by
  have p:=a.a0;have r:=a.b0;unfold wI at b;split at b
  . simp at b;rcases b with rfl | rfl
    . exact⟨(g.N k).a.toNat,om⟩
    . exact⟨(g.N k).b.toNat,om⟩
  . simp at b;subst b;exact⟨(g.N k).a.toNat,om⟩
 exact⟨rfl,o,x,n,_,V,_,X,S.map i m ((S.N.forL g (k+1) _ u).gr i (fun q h e=>h.2.1 e)),H.forget s (tu E v)⟩
end
def NetA(g:be)(w0:World)(e:Ending)(w':World):Prop:=
 ∃c k,e=.returned (.agg #[.slice (some ⟨c,0,none⟩) ((bP g).length+1) k])/\(bP g).length+1<=k/\ML KA w' (fun _=>True) (some ⟨c,0,none⟩) c 0 ((List.range ((bP g).length+1)).map (amap g))/\w0.Since w0.heap.size w'
theorem aok{bl:Nat}{g:be}(E:iy g){lo:Nat}{aL aH aN:Option Addr}{kL kH kN bd kd bu ku:Nat}(hz:g.size<=1048576)(h20:jw g<=20000){w0 w:World}(L:Low w bl g lo aL aH aN kL kH kN bd kd bu ku g.inn (.map none) (.n))(e0:Eld w0 w g lo aL aH aN kL kH kN bd bl bu)(hlu:bl≠bu):
 Cl 30 #[.p bl 0] w (NetA g w0):=by
 have hnn:=E.head.n;have i1:=E.head.i1;have i2:=E.head.i2;have o0:=E.o0;have o1:=E.o1;obtain⟨inn,hinn⟩:∃n:Nat,g.inn=n:=⟨g.inn.toNat,om⟩;obtain⟨out,hout⟩:∃n:Nat,g.out=n:=⟨g.out.toNat,om⟩;have hv0:vD g 0=inn:=by show g.inn.toNat=inn;omega
 have hin2:inn<=1000:=om;have hmm:= @run_makeMap Tryz.prog;have hmt:=underlying107;have hkk:=underlying3;obtain⟨w1,e1⟩:∃x,x=(w.alloc (.o #[.n] 29)).alloc (.map #[] 0):=⟨_,rfl⟩;have sA:=cV w (.o #[.n] 29);have zA:(w.alloc (.o #[.n] 29)).heap.size=w.heap.size+1:=by simp
 have sB:=(aF _ (w.alloc (.o #[.n] 29))).alloc zR (.map #[] 0);have BR:=(ki.new w (.n) 29).bH sB;have MZ:=jm.made (w.alloc (.o #[.n] 29));rw[zA] at MZ;rw[<-e1] at BR MZ sB;have S1:=sA.tr sB;have z1:w1.heap.size=w.heap.size+1+1:=by rw[e1];simp
 have JI:=@aid inn w1 om;have B1:=(L.bH S1).B;have c0:=B1.c0;rw[hinn] at c0;have HE:=aR E;have HV0:=aR hv0;have HO:=aR hout;have E1:=aR e1;rw[e1] at c0;have HIN:=aR hinn;have lBl:=L.B.lt;have lBu:=L.U.lt;clear e1 sA zA sB hinn hv0 E hout o0 o1;go_enter func30,ntmps30;go_wp2_with fail;rw[<-E1.out];refine JI.mono ?_;rintro e w2 ⟨cI,kI,xI,rfl,GI,s2⟩;clear JI;have z2:=s2.size;have lI:=GI.lt;have S2:=S1.tr s2;obtain⟨w3,hr3,Z3,g3⟩:=(MZ.bH s2).put (P:=Tryz.prog) hmt hkk (z:=(0:Int)) qd (.s cI inn kI);have G3:=Gr.gb g3;have S3:=Gr.since S2 G3 (fun q h=>by omega) S2.size;have B3:=(L.bH S3).B;have c9:=B3.c9;have f9:=B3.f;obtain⟨w4,e4⟩:∃x,x=w3.setCell (jj bl 9) (.map (some (w.heap.size+1))):=⟨_,rfl⟩;have JT:=@akA bl w4;have E4:=aR e4;have g4:Gr (fun q=>q=bl) w3 w4:=by rw[e4];exact Gr.put (T:=fun q=>q=bl) (Gr.refl _ _) (.inl rfl) 9 _
 have B4:Lob w4 bl g aL aH aN kL kH kN (.s bd (g.nn+1) kd) (.s bu (g.nn+1) ku) g.inn (.map (some (w.heap.size+1))) (.n):=by rw[e4];exact B3.set9 _
 clear e4;go_wp2_with fail;rw[<-E4.out];refine JT.mono ?_;rintro e w5 ⟨rfl,TK,s5⟩;clear JT;have lz3:=G3.size;have lz4:=g4.size;have z5:=s5.size;have el:=e0.l;have eu:=e0.u;have ez:=e0.s.size;have e4':=((e0.gr (T:=fun _=>False) (Gr.of S3) (fun _ h=>h.elim))).gr g4 (fun q h=>by omega);have e5:=e4'.gr (T:=fun _=>False) (Gr.of s5) (fun _ h=>h.elim);have L5:Low w5 bl g lo aL aH aN kL kH kN bd kd bu ku g.inn (.map (some (w.heap.size+1))) (.n):=⟨B4.bH s5,e0.G.bH e5.s,e0.D.bH e5.s,(L.U.of_block ((g4.block _ (by have:=S3.size;omega) (fL hlu)).trans (S3.block _ lBu))).of_block (s5.block _ (by have:=S3.size;omega))⟩;have JN:=agh HE.out L5;rw[show g.out.toNat=out by have:=HO.out;omega] at JN;go_wp2_with fail;refine JN.mono ?_;rintro e w6 ⟨cc,kc,xc,rfl,GC,s6⟩;clear JN;have z6:=s6.size;have MC:=GC.ml KI.ok;have lC:=GC.lt;have S46:=s5.tr s6;have hnl:=aej g out;have ho:out<=g.nn:=by have:=HO.out;have:=HE.out.o1;omega
 have GI3:=(GI.gr KR.ok G3 (fun b h=>by simp[Value.ownBlock] at h;omega) (fun q _ h=>by omega)).gr KR.ok g4 (fun b h=>by simp[Value.ownBlock] at h;omega) (fun q _ h=>by omega);have GI6:=(GI3.imp KR.ok (P':=fun q=>w1.heap.size<=q/\q<w4.heap.size) (fun q hq h=>⟨h,hq⟩)).bH KR.ok S46;have TK6:=TK.lV (s6.block _ TK.lt);have BR6:=(((BR.bH s2).nI (G3.block _ (by have:=BR.lt;omega) om)).nI (g4.block _ (by have:=BR.lt;omega) om)).bH S46;have lT:=TK.lt;have NS:NSt ⟨w0,w6,fun q=>q=w.heap.size∨q=w4.heap.size∨q=cc⟩ w6 bl g lo aL aH aN kL kH kN bd kd bu ku 0 0:=by
  refine⟨w.heap.size+1,.n,w.heap.size,qc ((0:Nat):Int) (.s cI inn kI) [],fun h _=>h,fun j=>j=0,fun _=>idR (vD g 0),⟨?_,e5.gr (T:=fun _=>False) (Gr.of s6) (fun _ h=>h.elim), ?_, ?_,fun a ha=>by simp at ha,⟨[],GL.none _ _ _ _⟩,om,om,hlu,by simp[Value.ownBlock],by simp[Value.ownBlock],by simp[Value.ownBlock],by show w0.heap.size<=_;omega,by show w0.heap.size<=_;omega,om, ?_⟩,ug.start HE.out⟩
  . have h:=L5.bH s6;rw[HIN.out] at h;show Low w6 bl g lo aL aH aN kL kH kN bd kd bu ku ((vD g 0:Nat):Int) _ _;rw[HV0.out];exact h
  . exact (Z3.lV (g4.block _ (by have:=g3.size;omega) om)).bH S46
  . have h0:Kn w6 (NT (fun q=>q=w.heap.size∨q=w4.heap.size∨q=cc) bl (w.heap.size+1) (.n)) [] (fun _=>False) (fun _=>idR (vD g 0)):=⟨qz,fun _ h=>h.elim⟩;have h1:=h0.put 0 (R:=idR (vD g 0)) (n:=inn) (kc:=kI) (by unfold idR;rw[bS,cT];exact HV0.out) GI6.cap ((by rw[HV0.out];exact GI6.ml KR.ok:ML KR w6 _ (jp cI 0) cI 0 (idR (vD g 0))).imp KR.ok (fun q _ h=>⟨om,om,by simp[Value.ownBlock],om⟩)) (fun _=>⟨om,om,by simp[Value.ownBlock],om⟩);exact h1.imp (fun j hj=>.inl hj) (fun j hj=>by rw[aY hj])
  . intro q hq;simp only at hq⊢;have BR7:=(((BR.bH s2).nI (G3.block _ (by have:=BR.lt;omega) om)).nI (g4.block _ (by have:=BR.lt;omega) om)).bH S46;rcases hq with rfl | rfl | rfl
    . exact⟨⟨om,om,by simp[Value.ownBlock],by show w0.heap.size<=_;omega⟩,BR6.lt,iR BR6.c0,by first | rfl | trivial⟩
    . exact⟨⟨om,om,by simp[Value.ownBlock],by show w0.heap.size<=_;omega⟩,om,iR TK6.c1,by first | rfl | trivial⟩
    . exact⟨⟨om,om,by simp[Value.ownBlock],by show w0.heap.size<=_;omega⟩,lC.2,bw GC,by first | rfl | trivial⟩
 obtain⟨F,hF0,hFf,hFB,NS⟩:∃F:Frm,F.w0=w0/\F.wf=w6/\(∀q,(q=w.heap.size∨q=w4.heap.size∨q=cc)->F.FB q)/\NSt F w6 bl g lo aL aH aN kL kH kN bd kd bu ku 0 0:=⟨_,rfl,rfl,fun _ h=>h,NS⟩;generalize hn:(jv g out).length=n at*;have HN:=aR hn;have HF:=aR (And.intro hF0 (And.intro hFf hFB));have hf0:∀(x0 x1 x2 x3 x4 x5:Value) (wq:World),(Instr.field 87 (.agg #[x0,x1,x2,x3,x4,x5]) 0).run Tryz.prog wq=.ok x0 wq:=fun x0 x1 x2 x3 x4 x5 wq=>by kernel_rfl
 clear hn GC GI6 GI3 GI L5 e5 e4' B4 Z3 MZ BR B3 B1 L hF0 hFf hFB TK e0;go_wp2_with fail;go_loopw [22] (fun q wr=>∃r i t:Nat,r<=n/\i<=out/\(jv g i).length=r/\q=.i (r:Int)/\NSt F wr bl g lo aL aH aN kL kH kN bd kd bu ku t i) (fun q _=>n-(intOf q).toNat)
 case atStart=>exact⟨0,0,0,aJ _,aJ _,rfl,rfl,NS⟩
 case round=>
  obtain⟨r,i0,t0,hr,hi0,hr0,rfl,I⟩:=hrel;have HR0:=aR hr0;clear hr0 NS;by_cases hlt:r<n
  . obtain⟨k,h1,h2,h3,h4,h5,h6⟩:=acS (g:=g) (n:=out) _ rfl hi0 (by rw[HN.out,HR0.out];exact hlt);have I':=I.uH HE.out h1 om (acR (by rw[h4]));have fc:=(I.fix (HF.out.2.2 cc (.inr (.inr rfl)))).trans (by rw[HF.out.2.1]);have ft:=(I.fix (HF.out.2.2 w4.heap.size (.inr (.inl rfl)))).trans (by rw[HF.out.2.1]);rw[HR0.out] at h6;obtain⟨k1,hk1⟩:∃y,y=k+1:=⟨_,rfl⟩;rw[<-hk1] at h6;have c1:=(MC.int h6).2;rw[aZ] at c1;have c1:=(aO (w:=w6) (a:=jj cc r) fc).trans c1;have TKr:=TK6.lV ft;have hkn:k<g.nn:=om;obtain⟨wd,vk,vm,Lr⟩:=I'.low;have JD:=bF HE.out hk1 Lr hkn;have HK1:=aR hk1;have HNL:=aR (show (jv g (k+1)).length=r+1 by rw[mt,aY h3,aT,h4,HR0.out];rfl);have HLN:=aR h3;have hz1:(r:Int)<n:=om;clear h4 h5 h6 hk1 h3 fc ft I Lr;go_wp2_with fail;refine JD.mono ?_;rintro e w7 ⟨a3,k3,rfl,-,s7⟩;clear JD;obtain⟨Fn,⟨z,hz2,hcz,hz8,hcase⟩,JT⟩:=an1 HE.out hz h20 hkn HLN.out w4.heap.size (TKr.lV (s7.block _ TKr.lt)) (I'.bH s7);rw[<-HK1.out] at JT;rw[hz2];clear hz2;rcases hcase with ⟨rfl,rfl⟩ | ⟨rfl,rfl⟩ | ⟨rfl,rfl⟩ | ⟨rfl,rfl⟩ | ⟨rfl,rfl⟩ | ⟨rfl,rfl⟩ | ⟨rfl,rfl⟩
    all_goals (
     go_wp2_with fail;refine JT.mono ?_;rintro e w8 ⟨rfl,t8,I8⟩;clear JT;have JF:=alB HE.out hkn HLN.out I8;rw[<-HK1.out] at JF;go_wp2_with fail;refine JF.mono ?_;rintro e w9 ⟨rfl,I9⟩;clear JF I8 I';rw[HK1.out] at I9;go_wp2;go_roundw
     case rel=>exact⟨r+1,k+1,t8,om,om,HNL.out,by go_num,I9⟩
     case measure=>exact yI)
  . have er:r=n:=om;subst er;have hz1:¬(r:Int)<r:=om;have I1:=I.uH HE.out hi0 ho (acR (by rw[HN.out,HR0.out]));have I2:=I1.uH HE.out ho zR (fun x h1 h2 h3=>by have:=tu HE.out h3;have:=HO.out;omega);have fR:=(I.fix (HF.out.2.2 w.heap.size (.inl rfl))).trans (by rw[HF.out.2.1]);have BRr:=BR6.nI fR;obtain⟨bm,vm,base,M,V,K,X,S,H⟩:=I2;have ht:t0=(bP g).length:=H.st;have eo:g.out.toNat=out:=(by have:=HO.out;omega);have kO:K out:=(by have:=H.out om;rwa[eo] at this);have RL:vz ((eS g).getD t0 0) (je g t0) (X out):=(by have:=H.last;rw[eo] at this;exact this.resolve_right (fun h=>h kO));have hAM:=RL.amap;obtain⟨ao,bo,oo,no,ko,vo,lo',hko,MO,pO⟩:=S.N.at_ out kO;have hno:no=vD g out:=(by have:=(H.kn out kO).len;omega);have dO:=HE.out.i9 (j:=out) ho;have hmS:=H.small HE.out h20 zR;have hmP:=yK HE.out (t:=t0) om;have MO':ML KR wr (NT F.FB bl bm vm) ao bo oo ((List.range no).map (uh (X out))):=(by rw[<-lo',ef];exact MO);obtain⟨xa,GA⟩:=S.A;have hTN:((List.range t0).map (amap g)).length=t0:=by simp
    have HAM:=aR (show amap g t0=(no,(eS g).getD t0 0,(List.range (no*(eS g).getD t0 0)).map (br ((eS g).getD t0 0) (uh (X out))),(List.range no).map fun r=>eO (uh (X out) r) (-1)) by rw[hAM,lo']);have okX:=(H.kn out kO).ok;have dr:=ue wr;have Sd:=S.bH dr;have HLK:=aR (show ∀wq,jm wq bm M->(Instr.lookup 107 (.map (some bm)) (.i (out:Int)) false).run Tryz.prog wq=.ok (.l ao no ko) wq from fun wq hZ=>by
     have:=hZ.look (P:=Tryz.prog) (mty:=107) (kt:=3) (et:=118) (zv:=.n) hmt hkk kr false (z:=(out:Int));rw[show ((iN (out:Int) M).map Prod.snd).getD (.n)=.l ao no ko from by show (ql (out:Int) M).getD _=_;rw[vo];rfl] at this;exact this)
    have JM:=@aiT bl g aL aH aN kL kH kN _ _ _ vm no ((eS g).getD t0 0) ao bo oo ko (uh (X out)) (NT F.FB bl bm vm) wr.drew Sd.L.B (MO'.bH KR.ok dr) (fun x hx=>by
     have h1:(X out)[x]?=some _:=aK (by rw[lo'];exact hx);rw[my h1];exact okX _ (cO h1)) hmS hmP om om
    have HJM:=aR JM;have c5:wr.drew.cell? (jj bl 5)=some (.i (out:Int)):=(by rw[<-HO.out];exact Sd.L.B.c5);have GAd:=GA.bH KA.ok dr;have HS0:=aR (show w0.S wr by have:=S.e.s;rwa[HF.out.1] at this);have hvl:=fun (b:Nat) (h:vm.ownBlock=some b)=>S.vlt h;have lbl:=S.L.B.lt;have lbm:=S.Z.lt;have hv1:=S.v1;have hz2':=S.z2;have hel:=S.e.l;rw[HF.out.1] at hz2' hel;have nRb:w.heap.size≠bl:=om;have fbR:=(S.fb w.heap.size (HF.out.2.2 _ (.inl rfl))).1;generalize hmG:(eS g).getD t0 0=m at*;have zS3:=S.z3;have HTN:=aR hTN;have HTL:=aR ht;have hAL:((List.range t0).map (amap g)).length<=1000000:=H.many HE.out zR;generalize hAG:(List.range t0).map (amap g)=AL at*;have HAG:=aR hAG;clear JM hAM RL I I1 H MO MO' hmG hAG ht hTN okX dO S hno lo' vo GA;go_wp2_with fail;refine bQ 21 (fun w'=>w'.cell? (jj bl 10)=some vm/\w'.cell? (jj bl 9)=some (.map (some bm))/\w'.cell? (jj bl 5)=some (.i (out:Int))/\jm w' bm M) kr ⟨Sd.L.B.ca,Sd.L.B.c9,c5,Sd.Z⟩ (fun hHeld=> ?_);refine tX 0 39 ?_;refine tX 1 40 ?_;refine tX 2 41 ?_;refine tX 3 42 ?_;refine tX 4 43 ?_;refine tX 5 44 ?_;refine tX 6 45 ?_;refine tX 7 46 ?_;refine tX 8 47 ?_;refine tX 9 48 ?_;refine tX 10 49 ?_;refine tX 11 50 ?_;refine tX 12 51 ?_;refine tX 13 52 ?_;refine tX 14 53 ?_;refine aa9 (i:=15) (d:=some 54) (v:=.l ao no ko) rfl kr kr kr (fun _ _ _ h=>h) kr yE ?_ ?_
    focus
     intro wq hSw;have hL:=HLK.out wq hSw.2.2.2;exact yG
    simp only[ap,la,lz,ls];refine uX 16 fun K hK=> ?_;go_simp;go_wp2_with (go_at_call 70;(with_reducible refine HJM.out.mono ?_);rintro e wm ⟨cw,kw,cb,kb,rfl,h1,h2,h3,h4,h5,h6,MW',MB',sm⟩);have Sm:=Sd.bH sm;have c5m:=(sm.cell (a:=jj bl 5) Sd.L.B.lt).trans c5;have Gm:=GAd.bH KA.ok sm;have zm:=sm.size;have zd:wr.drew.heap.size=wr.heap.size:=rfl;have sV:=cV wm (.o #[.i (no:Int),.i (m:Int),.s cw (no*m) kw,.s cb no kb] 58);have zV:=sV.size;have SV:=Sm.bH sV;have c5v:=(sV.cell (a:=jj bl 5) Sm.L.B.lt).trans c5m;refine hK.out _ _ (fun _=>⟨Sm.L.B.ca,Sm.L.B.c9,c5m,Sm.Z⟩) ?_;clear hK K hHeld;refine uX 17 fun K hK=> ?_;go_simp;refine hK.out _ _ (fun _=>⟨SV.L.B.ca,SV.L.B.c9,c5v,SV.Z⟩) ?_;clear hK K;refine uX 18 fun K hK=> ?_;have hpr:∀q,(NT F.FB bl bm vm q∨wr.drew.heap.size<=q)->(q≠bl/\q≠bm/\¬F.FB q)/\vm.ownBlock≠some q:=fun q h=>by
     rcases h with h | h
     . exact⟨⟨h.1,h.2.1,h.2.2.2⟩,h.2.2.1⟩
     . exact⟨⟨om,om,fun e=>by have:=(Sd.fb q e).2.1;omega⟩,fun e=>by have:=(hvl _ e).2;omega⟩
    refine cv (m:=1) (n:=AL.length) KA.ok (Gm.bH KA.ok sV) rfl (ML.one (p:=fun q=>(q≠bl/\q≠bm/\¬F.FB q)/\vm.ownBlock≠some q) KA.ok (c:=[.i (no:Int),.i (m:Int),.s cw (no*m) kw,.s cb no kb]) (x:=amap g t0) (by
     rw[HAM.out];exact⟨cw,kw,cb,kb,qz,by simpa using h1,by simpa using h2,hpr cw (.inr h3),hpr cb (.inr h4),h5,h6,MW'.imp KQ.ok (fun q _ hq=>hpr q hq),MB'.imp KQ.ok (fun q _ hq=>hpr q hq)⟩) 58) rfl (.inr qd) om om rfl _ _ rfl rfl rfl ?_
    intro cm km wP A9;have gP:=Gr.own A9.2.1;have BP:=SV.L.B.lV (gP.block _ SV.L.B.lt hv1);have ZP:=SV.Z.lV (gP.block _ SV.Z.lt SV.v3);have c5P:wP.cell? (jj bl 5)=some (.i (out:Int)):=by rw[<-HO.out];exact BP.c5
    refine hK.out _ _ (fun _=>⟨BP.ca,BP.c9,c5P,ZP⟩) ?_;clear hK K;refine uX 19 fun K hK=> ?_;go_simp;refine hK.out _ _ (fun _=>⟨BP.ca,BP.c9,c5P,ZP⟩) ?_;clear hK K;refine uX 20 fun K hK=> ?_;go_simp;refine hK.out _ _ (fun _=>⟨BP.ca,BP.c9,c5P,ZP⟩) ?_;clear hK K;refine uX 21 fun K hK=> ?_;have m72:=BP.ca;have f72:=BP.f 10;go_simp;refine hK.out _ _ (fun h=>absurd rfl h) ?_;clear hK K m72 f72;refine wG kr ?_ _;obtain⟨⟨xp,GP⟩,grP,hatP,hltP⟩:=A9;have zP:=gP.size;have lR:=BRr.lt;have fbV:=(SV.fb w.heap.size (HF.out.2.2 _ (.inl rfl))).1;have BRP:ki wP w.heap.size (.n):=((BRr.bH dr).bH sm |>.bH sV).nI (gP.block _ om fbV.2.2.1);have g1:Gr (fun q=>q=bl) wP (wP.setCell (jj bl 10) (.s cm (AL.length+1) km)):=Gr.put (T:=fun q=>q=bl) (Gr.refl _ _) (.inl rfl) 10 _;have BRS:=BRP.nI (g1.block _ om nRb);have BS:=BP.seta (.s cm (AL.length+1) km);have g2:Gr (fun q=>q=w.heap.size) (wP.setCell (jj bl 10) (.s cm (AL.length+1) km)) ((wP.setCell (jj bl 10) (.s cm (AL.length+1) km)).setCell (jj w.heap.size 0) (.s cm (AL.length+1) km)):=Gr.put (T:=fun q=>q=w.heap.size) (Gr.refl _ _) (.inl rfl) 0 _;have BF:=aR (BRS.gH (.s cm (AL.length+1) km));have hcm:cm≠bl/\cm≠w.heap.size:=by
     rcases hatP with h | h
     . exact⟨fun e=>hv1 (by rw[h,e]),fun e=>fbV.2.2.1 (by rw[h,e])⟩
     . exact⟨om,om⟩
    have GF:=(GP.gr KA.ok g1 (fun b h=>by simp[Value.ownBlock] at h;omega) (fun q _ h=>h.1)).gr KA.ok g2 (fun b h=>by simp[Value.ownBlock] at h;omega) (fun q _ h e=>h.2.2 (by rw[e];exact HF.out.2.2 _ (.inl rfl)));have SF:w0.S ((wP.setCell (jj bl 10) (.s cm (AL.length+1) km)).setCell (jj w.heap.size 0) (.s cm (AL.length+1) km)):=(by have a1:=HS0.out.trans (sM ((dr.tr sm).trans (sM sV om)) HS0.out.size);have a2:=Gr.since a1 gP (fun q h=>by have:=(hvl _ h).1;omega) a1.size;exact Gr.since (Gr.since a2 g1 (fun q h=>by omega) a2.size) g2 (fun q h=>by omega) (by have:=a2.size;have:=g1.size;omega));have HFIN:=aR (And.intro (GF.ml KA.ok) (And.intro GF.cap SF));have ka:=BS.ca;have krq:=BRS.c0;have kf:=BRS.f;clear GF GP grP gP g1 g2 SF hatP BP ZP c5P c5v c5m Gm GAd MW' MB' hpr Sm SV Sd BRP;go_wp2;refine bO (zw rfl underlying29 rfl kr _ _ w.heap.size _ rfl BF.out) rfl ?_;have e1:=HTN.out;have e2:=HTL.out;have e3:=HAG.out;have hfin:=HFIN.out;rw[e1,e2] at hfin⊢;refine⟨cm,km,rfl,hfin.2.1, ?_,hfin.2.2⟩;rw[gY,eJ,lO];rw[<-e3,e2] at hfin;exact hfin.1.imp KA.ok (fun _ _ _=>trivial)
end Go.Proofs.YtaeieekkddndhaaGreat
