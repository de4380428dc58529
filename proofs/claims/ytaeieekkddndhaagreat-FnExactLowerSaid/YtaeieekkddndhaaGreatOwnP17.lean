import Derived.Test.YtaeieekkddndhaaGreatOwnP16
set_option maxHeartbeats 6400000
set_option maxRecDepth 100000
namespace Go.Proofs.YtaeieekkddndhaaGreat
open Tryz Go.RowKit
theorem agJ{D:dA}{a A:Option Addr}{n m c d:Nat}{w:World}(q:D.size<=16777216)(H:tW w n D a m)(l:tW w c D A d):
 Cl 73 #[.agg #[.i D.op,.i D.a,.i D.b,.i D.k,.i D.s,.slice a D.nv m],.agg #[.i D.op,.i D.a,.i D.b,.i D.k,.i D.s,.slice A D.nv d]] w fun e x=>e=.returned (.bool true)/\w.S x:=by
 have u:=q;unfold dA.size at u;obtain⟨b,g⟩:∃b:World,b=(w.alloc (.o #[.i D.op,.i D.a,.i D.b,.i D.k,.i D.s,.l a D.nv m] 87)).alloc (.o #[.i D.op,.i D.a,.i D.b,.i D.k,.i D.s,.l A D.nv d] 87):=⟨_,rfl⟩;have h:w.S b:=by rw[g];exact (cV _ _).alloc qz _
 obtain⟨o,r,-,f⟩:=(H.bH h).LV;obtain⟨p,s,-,k⟩:=(l.bH h).LV;have j:=@xR a A n o r m c p s d D.nv D.V b om om f k;have i:=aR g;clear g;go_enter func73,ntmps73;go_wp2_with fail;rw[<-i.out];refine j.mono ?_;rintro e v ⟨rfl,t⟩;clear j i;go_wp2;go_ret;exact⟨rfl,h.tr t⟩
theorem afj{a A:Option Addr}{n m c d k i j l o:Nat}{g:Nat->dA}{w:World}(U:o<=16777216)(V:xd g o<=16777216)(H:vv w n a m c o g)(q:vv w k A i j o g):
 Cl 33 #[.slice a o d,.slice A o l] w fun e h=>e=.returned (.bool true)/\w.S h:=by
 go_enter func33,ntmps33;go_wp2;go_loopw [5] (fun x wr=>∃b:Nat,b<=o/\x=.i b/\w.S wr) (fun x _=>o-(intOf x).toNat)
 case atStart=>exact⟨0,aJ _,rfl,aF _ _⟩
 case round=>
  obtain⟨b,T,rfl,s⟩:=hrel;by_cases B:b<o
  . obtain⟨rfl,t,y,M⟩:=H b B;obtain⟨rfl,u,z,v⟩:=q b B;have Z:w.S wr.drew:=⟨s.os,s.tape,s.output,s.size,s.block⟩;have N:=M.bH s;have f:=v.bH s;have D:=N.c0;have E:=f.c0;have F:=N.c1;have G:=f.c1;have I:=N.c2;have K:=f.c2;have L:=N.c3;have O:=f.c3;have P:=N.c4;have Q:=f.c4;have R:=N.c5;have S:=f.c5;have W:=bM (A:=g) B;have X:(b:Int)<o:=om;have r:=agJ om (M.L.bH Z) (v.L.bH Z);clear N f;go_wp2_with fail
    go_region_held3 (fun h=>h.cell? (jj m (c+b*6))=some (.i (g b).op)/\h.cell? (jj m (c+b*6+1))=some (.i (g b).a)/\h.cell? (jj m (c+b*6+2))=some (.i (g b).b)/\h.cell? (jj m (c+b*6+3))=some (.i (g b).k)/\h.cell? (jj m (c+b*6+4))=some (.i (g b).s)/\h.cell? (jj m (c+b*6+5))=some (.l t (g b).nv y)/\
     h.cell? (jj i (j+b*6))=some (.i (g b).op)/\h.cell? (jj i (j+b*6+1))=some (.i (g b).a)/\h.cell? (jj i (j+b*6+2))=some (.i (g b).b)/\h.cell? (jj i (j+b*6+3))=some (.i (g b).k)/\h.cell? (jj i (j+b*6+4))=some (.i (g b).s)/\h.cell? (jj i (j+b*6+5))=some (.l u (g b).nv z)) (go_keep)
     (first
       | (go_at_call 73;(with_reducible refine r.mono ?_);rintro e w1 ⟨rfl,C⟩;have p:=Z.tr C;have Y:=(M.bH p).c0;have af:=(v.bH p).c0;have i1:=(M.bH p).c1;have aa:=(v.bH p).c1;have i2:=(M.bH p).c2;have ab:=(v.bH p).c2;have i3:=(M.bH p).c3;have ac:=(v.bH p).c3;have i4:=(M.bH p).c4;have ad:=(v.bH p).c4;have i5:=(M.bH p).c5;have ae:=(v.bH p).c5))
    all_goals go_wp2
    all_goals go_roundw
    case rel=>exact⟨b+1,om,by go_num,p⟩
    case measure=>exact yI
  . go_wp2;go_ret;exact⟨rfl,s⟩
theorem afl{G:be}{a A B f g h:Option Addr}{n m c d k i j l:Nat}{w:World}(V:G.size<=16777216)(H:rH w n G a A B m c d)(t:rH w k G f g h i j l):
 Cl 9 #[.agg (gV G a A B m c d),.agg #[.i G.inn,.i G.rounds,.slice f G.nl i,.slice g G.nh j,.slice h G.nn l,.i G.out]] w fun e w'=>e=.returned (.bool true)/\w.S w':=by
 have ts:=V;unfold be.size at ts;obtain⟨o,p⟩:∃o:World,o=(w.alloc (.o (gV G a A B m c d) 35)).alloc (.o #[.i G.inn,.i G.rounds,.l f G.nl i,.l g G.nh j,.l h G.nn l,.i G.out] 35):=⟨_,rfl⟩;have b:w.S o:=by rw[p];exact (cV _ _).alloc qz _
 have F:dL o w.heap.size (.i G.inn) (.i G.rounds) (.l a G.nl m) (.l A G.nh c) (.l B G.nn d) (.i G.out):=by rw[p];exact (dL.new w _ _ _ _ _ _ _).bH (cV _ _)
 have Z:dL o (w.heap.size+1) (.i G.inn) (.i G.rounds) (.l f G.nl i) (.l g G.nh j) (.l h G.nn l) (.i G.out):=by rw[p];have:=dL.new (w.alloc (.o (gV G a A B m c d) 35)) (.i G.inn) (.i G.rounds) (.l f G.nl i) (.l g G.nh j) (.l h G.nn l) (.i G.out) 35;simpa using this
 obtain⟨P,W,-,N⟩:=(H.bH b).LL;obtain⟨Q,X,-,O⟩:=(t.bH b).LL;obtain⟨R,aa,-,I⟩:=(H.bH b).LH;obtain⟨S,ab,-,K⟩:=(t.bH b).LH;obtain⟨T,o5,-,L⟩:=(H.bH b).LN;obtain⟨U,o6,-,M⟩:=(t.bH b).LN;have C:=@xR a f n P W m k Q X i G.nl G.Lo o om om N O;have Y:=aR p;clear p;go_enter func9,ntmps9;go_wp2_with fail;rw[<-Y.out];refine C.mono ?_;rintro e w1 ⟨rfl,q⟩;have D:=@xR A g n R aa c k S ab j G.nh G.Hi w1 om om (I.bH q) (K.bH q);have u:=F.bH q;have v:=Z.bH q;have q1:=u.c3;have q2:=v.c3;clear C Y F Z;go_wp2_with fail;refine D.mono ?_;rintro e w2 ⟨rfl,z⟩;have s:=q.tr z;have E:=@afj B h n T o5 d k U o6 l G.nn G.N w2 om om (L.bH s) (M.bH s);have x:=u.bH z;have y:=v.bH z;have r1:=x.c4;have r2:=y.c4;clear D q1 q2 u v;go_wp2_with fail;refine E.mono ?_;rintro e w3 ⟨rfl,r⟩;have p1:=(x.bH r).c5;have p2:=(y.bH r).c5;clear E r1 r2 x y;go_wp2;go_ret;exact⟨rfl,b.tr (s.trans (sM r s.size))⟩
end Go.Proofs.YtaeieekkddndhaaGreat
