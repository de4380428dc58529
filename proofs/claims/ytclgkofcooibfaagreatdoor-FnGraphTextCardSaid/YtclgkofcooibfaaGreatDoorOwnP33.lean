import Derived.Test.YtclgkofcooibfaaGreatDoorOwnP32
import Derived.Test.YtclgkofcooibfaaGreatDoorOwnP30
set_option maxHeartbeats 6400000
set_option maxRecDepth 100000
namespace Go.Proofs.YtclgkofcooibfaaGreatDoor
open Go.RowKit
theorem bj.aM{w w':World}{c d:Nat}{x y z:Value}(h:bj w d x y z)(s:cF c w w')(hn:d≠c):bj w' d x y z:=by
 have k:=s.block d h.lt (by simpa using hn);refine⟨(fa (a:=jj d 0) k).trans h.c0,(fa (a:=jj d 1) k).trans h.c1,(fa (a:=jj d 2) k).trans h.c2,fun j=> ?_⟩;have:=h.f j;unfold World.frozen? at this⊢;rw[k];exact this
theorem cF.marked{c d:Nat}{w w1 w2:World}(h:cF c w w1)(m:af w1 w2 d)(hd:w.heap.size<=d):cF c w w2:=by
 have s:=m.since (B:=w.heap.size) hd;exact⟨s.os.trans h.os,s.tape.trans h.tape,s.output.trans h.output,Nat.le_trans h.size s.size,fun q hq hn=>(s.block q hq).trans (h.block q hq hn)⟩
theorem cF.marked'{d:Nat}{w w1 w2:World}(h:cF d w w1)(m:af w1 w2 d):cF d w w2:=by
 refine h.trans ?_;exact⟨m.os,m.tape,m.output,Nat.le_of_eq m.size.symm,fun q hq hn=>m.other q (by simpa using hn)⟩
theorem cF.aY{c:Nat}{w w1 w2:World}(h:cF c w w1)(s:w1.S w2):cF c w w2:=h.trans (cF.of s)
def NumE(w w':World)(c bl wb t:Nat)(L ws:List ByteArray)(e:Ending):Prop:=
 ((∀x r,ws=x::r->(ak x).2.2.2≠0)/\e=cg t)∨
 ∃x r v,ws=x::r/\(ak x).2.2.2=0/\e=.returned v/\dM w' v (ak x).1 (ak x).2.1 (ak x).2.2.1 w.heap.size 67108864/\iy w' c bl wb L t r
theorem kv{c bl wb t:Nat}{L ws:List ByteArray}{w:World}(h:iy w c bl wb L t ws):
 Cl 127 #[.p c 0] w fun e w'=>cF c w w'/\NumE w w' c bl wb t L ws e:=by
 have HWZ:=ae h.wz;have sA:=bJ w (.cells #[.bool false,.n,.n] 44);have rA:=bj.new w (.bool false) (.n) (.n) 44;have zA:Hid ((w.alloc (.cells #[.bool false,.n,.n] 44)).heap.size=w.heap.size+1):=ae qz;have hlt:=h.lt;have hlb:=h.lb;have hlw:=h.lw;go_enter Tryz.func127,Tryz.ntmps127;go_wp2_with fail;generalize w.alloc _=wA at*;refine (@j7 c bl wb t L ws wA (h.aA sA)).mono ?_;rintro e w1 ⟨B,⟨h1,rfl⟩ | ⟨x,r,h1,rfl,R⟩⟩
 . unfold cg
   go_wp2;exact⟨rfl,(cF.of sA).trans B,Or.inl ⟨fun x r e=>by rw[h1] at e;simp at e,rfl⟩⟩
 . have hxz:=HWZ.out x (by rw[h1];simp)
   have H1:=ae h1;have B1:=(cF.of sA).trans B;have r1:=rA.aM B om;have z1:=B.size;have J:=@ri x w1 om (Nat.zero_le _) trivial;obtain⟨ng,hng⟩:∃ng,(ak x).1=ng:=⟨_,rfl⟩;obtain⟨nN,hnN⟩:∃n,(ak x).2.1=n:=⟨_,rfl⟩;obtain⟨nD,hnD⟩:∃n,(ak x).2.2.1=n:=⟨_,rfl⟩;obtain⟨cd,hcd⟩:∃n,(ak x).2.2.2=n:=⟨_,rfl⟩;rw[hng,hnN,hnD,hcd] at J;have HC:=ae hcd;have HV:Hid ((ak x).1=ng/\(ak x).2.1=nN/\(ak x).2.2.1=nD):=ae ⟨hng,hnN,hnD⟩;go_wp2_with fail;refine J.mono ?_;rintro e w2 ⟨v,rfl,⟨v1,v2,g,g',rfl,N1,N2,b1,b2,b3⟩,s2⟩;have N1':=N1;have N2':=N2;obtain⟨a1,q1,c1,Y1,rfl,-⟩:=N1;obtain⟨a2,q2,c2,Y2,rfl,-⟩:=N2;have r2:=r1.aA s2;have R2:=R.aA s2;have sB:=bJ w2 (.cells #[.bool ng,.slice a1 q1 c1,.slice a2 q2 c2] 44);have bx:=bj.new w2 (.bool ng) (.slice a1 q1 c1) (.slice a2 q2 c2) 44;have B3:=(B1.aY s2).aY sB;have z2:=s2.size
   by_cases hc0:cd=0
   . subst hc0
     have r3:=r2.aA sB;obtain⟨u0,u1,u2⟩:=r3.g;obtain⟨uf0,uf1,uf2⟩:=r3.k;go_wp2;have rC:=((r3.aE (.bool ng)).aG (.slice a1 q1 c1)).aF (.slice a2 q2 c2);refine bodyPost_ret (mu rfl _ _ _ _ _ _ rfl rC) rfl ?_;have M:af (w2.alloc (.cells #[.bool ng,.slice a1 q1 c1,.slice a2 q2 c2] 44)) _ w.heap.size:=(((af.refl _ _).setCell 0 (.bool ng)).setCell 1 (.slice a1 q1 c1)).setCell 2 (.slice a2 q2 c2);have zz:=zA.out;refine⟨B3.marked M (Nat.le_refl _),Or.inr ⟨x,r,_,H1.out,HC.out,rfl,⟨_,_,g,g',by rw[HV.out.1], ?_, ?_,om,om,b3⟩, ?_⟩⟩
     . rw[HV.out.2.1];exact (N1'.aA sB).marked M om
     . rw[HV.out.2.2];exact (N2'.aA sB).marked M om
     . exact (R2.aA sB).aI (d:=w.heap.size) ((cF.refl _ _).marked' M) om om om
   . have hcb:(cd != 0)=true:=by simpa using hc0
     have HNC:=ae hc0;go_wp2_with fail;refine (@mt c bl wb t L r _ (R2.aA sB)).mono ?_;rintro e w3 ⟨rfl,rfl⟩;unfold cg;go_wp2;exact⟨rfl,B3,Or.inl ⟨fun x' r' e=>by rw[H1.out] at e;simp at e;rw[<-e.1,HC.out];exact HNC.out,rfl⟩⟩
def gi(w:World)(p:Nat->Prop)(u:Value)(neg:Bool)(N D M:Nat):Prop:=
 ∃v1 v2 g h,u=.agg #[.bool neg,v1,v2]/\bU w v1 g N M/\bU w v2 h D M/\(N≠0->p g/\g<w.heap.size)/\(D≠0->p h/\h<w.heap.size)/\(N≠0->D≠0->g≠h)
theorem bU.lt'{w:World}{v:Value}{g N M:Nat}(h:bU w v g N M)(hN:N≠0):g<w.heap.size:=by
 obtain⟨a,m,cap,Y,h1,h2,h3,h4,h5,h6,h7,h8,h9⟩:=h
 rcases Nat.eq_zero_or_pos m with e | e
 . subst e;exact absurd h9.symm hN
 . exact gz _ _ (h5 0 e).2
theorem bU.blk{w w':World}{v:Value}{g N M:Nat}(h:bU w v g N M)(k:N≠0->w'.heap[g]?=w.heap[g]?):bU w' v g N M:=by
 obtain⟨a,m,cap,Y,h1,h2,h3,h4,h5,h6,h7,h8,h9⟩:=h
 rcases Nat.eq_zero_or_pos m with e | e
 . subst e
   exact⟨a,0,cap,Y,h1,h2,h3,h4,fun j hj=>absurd hj om,fun h=>absurd h om,h7,h8,h9⟩
 . have hN:N≠0:=by
    have:=jU Y m e (h8 e);have:=Nat.two_pow_pos (32*(m-1));omega
   have kk:=k hN;refine⟨a,m,cap,Y,h1,h2,h3,h4,fun j hj=>⟨(h5 j hj).1,(fa (a:=jj g (0+j)) kk).trans (h5 j hj).2⟩,fun h o=> ?_,h7,h8,h9⟩;have:=h6 h o;unfold World.frozen? at this⊢;rw[kk];exact this
theorem dM.w{w:World}{v:Value}{neg:Bool}{N D B M:Nat}(h:dM w v neg N D B M):gi w (fun g=>B<=g) v neg N D M:=by
 obtain⟨v1,v2,g,h',e,N1,N2,b1,b2,b3⟩:=h;exact⟨v1,v2,g,h',e,N1,N2,fun hn=>⟨b1,N1.lt' hn⟩,fun hn=>⟨b2,N2.lt' hn⟩,fun _ _=>b3⟩
theorem gi.imp{w:World}{p p':Nat->Prop}{v:Value}{neg:Bool}{N D M:Nat}(h:gi w p v neg N D M)(hp:∀g,g<w.heap.size->p g->p' g):gi w p' v neg N D M:=by
 obtain⟨v1,v2,g,h',e,N1,N2,b1,b2,b3⟩:=h;exact⟨v1,v2,g,h',e,N1,N2,fun hn=>⟨hp g (b1 hn).2 (b1 hn).1,(b1 hn).2⟩,fun hn=>⟨hp h' (b2 hn).2 (b2 hn).1,(b2 hn).2⟩,b3⟩
theorem gi.blocks{w w':World}{p:Nat->Prop}{v:Value}{neg:Bool}{N D M:Nat}(h:gi w p v neg N D M)(hz:w.heap.size<=w'.heap.size)(hb:∀g,g<w.heap.size->p g->w'.heap[g]?=w.heap[g]?):gi w' p v neg N D M:=by
 obtain⟨v1,v2,g,h',e,N1,N2,b1,b2,b3⟩:=h;exact⟨v1,v2,g,h',e,N1.blk (fun hn=>hb g (b1 hn).2 (b1 hn).1),N2.blk (fun hn=>hb h' (b2 hn).2 (b2 hn).1),fun hn=>⟨(b1 hn).1,Nat.lt_of_lt_of_le (b1 hn).2 hz⟩,fun hn=>⟨(b2 hn).1,Nat.lt_of_lt_of_le (b2 hn).2 hz⟩,b3⟩
theorem gi.aA{w w':World}{p:Nat->Prop}{v:Value}{neg:Bool}{N D M:Nat}(h:gi w p v neg N D M)(s:w.S w'):gi w' p v neg N D M:=h.blocks s.size (fun g hg _=>s.block g hg)
def xE(x:ByteArray):br:=mx (ak x).1 (ak x).2.1 (ak x).2.2.1
def iG(w:World)(p:Nat->Prop)(u:Value)(x:ByteArray):Prop:=gi w p u (ak x).1 (ak x).2.1 (ak x).2.2.1 67108864
structure cU(w:World)(lo:Nat)(v:Value)(k:Nat)(x:Nat->ByteArray)(p:Nat->Nat->Prop)(xs:List Value):Prop where
 own:w.ownsRow lo 44 3 v k xs
 at_:∀i,i<k->∃u1 u2,xs[i*3]?=some (.bool (ak (x i)).1)/\xs[i*3+1]?=some u1/\xs[i*3+2]?=some u2/\iG w (fun g=>p i g/\v.ownBlock≠some g) (.agg #[.bool (ak (x i)).1,u1,u2]) (x i)
section
variable{w w' w1:World}{lo k:Nat}{v v':Value}{x:Nat->ByteArray}{p:Nat->Nat->Prop}{xs:List Value}
theorem cU.blocks(h:cU w lo v k x p xs)(hz:w.heap.size<=w'.heap.size)(ho:∀g,v.ownBlock=some g->w'.heap[g]?=w.heap[g]?)(hb:∀i g,i<k->g<w.heap.size->p i g->w'.heap[g]?=w.heap[g]?):cU w' lo v k x p xs:=by
 refine⟨?_,fun i hi=> ?_⟩
 . obtain⟨hl,h1 | ⟨g,cap,cur,rfl,hb',hh,hr⟩⟩:=h.own
   . exact⟨hl,Or.inl h1⟩
   . exact⟨hl,Or.inr ⟨g,cap,cur,rfl,hb',(ho g (by simp[Value.ownBlock])).trans hh,hr⟩⟩
 . obtain⟨u1,u2,h1,h2,h3,h4⟩:=h.at_ i hi
   exact⟨u1,u2,h1,h2,h3,gi.blocks h4 hz (fun g hg hp=>hb i g hi hg hp.1)⟩
theorem cU.aA(h:cU w lo v k x p xs)(s:w.S w'):cU w' lo v k x p xs:=
 h.blocks s.size (fun g hg=>s.block g (h.own.lt g hg).2) (fun _ g _ hg _=>s.block g hg)
theorem cU.aM(h:cU w lo v k x p xs){c:Nat}(s:cF c w w')(hc:c<lo)(hp:∀i g,p i g->lo<=g):cU w' lo v k x p xs:=
 h.blocks s.size (fun g hg=>s.block g (h.own.lt g hg).2 (by have:=(h.own.lt g hg).1;simp;omega)) (fun i g _ hg hp'=>s.block g hg (by have:=hp i g hp';simp;omega))
theorem cU.snoc(h:cU w lo v k x p xs)(s1:w.S w1)(hs:w.heap.size<w1.heap.size)(g:w1.grownBy w' v.ownBlock){u1 u2:Value}(own:w'.ownsRow lo 44 3 v' (k+1) (xs++[.bool (ak (x k)).1,u1,u2]))
 (hat:v'.ownBlock=v.ownBlock∨v'.ownBlock=some w1.heap.size)(R:iG w (fun q=>p k q/\v.ownBlock≠some q) (.agg #[.bool (ak (x k)).1,u1,u2]) (x k)):cU w' lo v' (k+1) x p (xs++[.bool (ak (x k)).1,u1,u2]):=by
 have hl:=h.own.1
 have mv:∀ {i:Nat} {u:Value} {y:ByteArray},iG w (fun q=>p i q/\v.ownBlock≠some q) u y->iG w' (fun q=>p i q/\v'.ownBlock≠some q) u y:=fun {i u y} r=>by
  have r2:gi w (fun q=>(p i q/\v.ownBlock≠some q)/\v'.ownBlock≠some q) u _ _ _ _:=gi.imp r (fun j hj hp=>⟨hp,fun e=>by
   rcases hat with h | h
   . exact hp.2 (h.symm.trans e)
   . rw[e] at h;simp at h;omega⟩)
  have r3:=r2.blocks (w':=w') (by have:=g.size;omega) (fun j hj hp=>(g.block j om (fun e=>hp.1.2 e.symm)).trans (s1.block j hj));exact r3.imp (fun _ _ hp=>⟨hp.1.1,hp.2⟩)
 refine⟨own,fun i hi=> ?_⟩
 by_cases e:i=k
 . subst e
   refine⟨u1,u2, ?_, ?_, ?_,mv R⟩
   . rw[List.getElem?_append_right om,hl];simp
   . rw[List.getElem?_append_right om,hl];simp
   . rw[List.getElem?_append_right om,hl];simp
 . obtain⟨u1',u2',h1,h2,h3,h4⟩:=h.at_ i om
   exact⟨u1',u2',by rw[List.getElem?_append_left om];exact h1,by rw[List.getElem?_append_left om];exact h2,by rw[List.getElem?_append_left om];exact h3,mv h4⟩
end
def sliceLen:Value->Nat
 | .slice _ n _=>n
 | _=>0
def wd(ws:List ByteArray)(i:Nat):ByteArray:=ws.getD i ⟨#[]⟩
def dI(x:ByteArray):Prop:=(ak x).2.2.2=0
def vk(ws:List ByteArray)(n:Nat):Prop:=n<=ws.length/\∀i,i<n->dI (wd ws i)
theorem ac3{ws:List ByteArray}{k:Nat}{x:ByteArray}{r:List ByteArray}(h:ws.drop k=x::r):k<ws.length/\wd ws k=x/\ws.drop (k+1)=r:=by
 have hk:k<ws.length:=by
  rcases Nat.lt_or_ge k ws.length with h' | h'
  . exact h'
  . rw[List.drop_of_length_le h'] at h;cases h
 rw[List.drop_eq_getElem_cons hk] at h;simp only[List.cons.injEq] at h;refine⟨hk, ?_,h.2⟩;unfold wd;rw[List.getD_eq_getElem?_getD,List.getElem?_eq_getElem hk];exact h.1
theorem cU.imp{w:World}{lo k:Nat}{v:Value}{x:Nat->ByteArray}{p p':Nat->Nat->Prop}{xs:List Value}(h:cU w lo v k x p xs)(hp:∀i g,i<k->p i g->p' i g):cU w lo v k x p' xs:=
 ⟨h.own,fun i hi=>by
   obtain⟨u1,u2,h1,h2,h3,h4⟩:=h.at_ i hi;exact⟨u1,u2,h1,h2,h3,gi.imp h4 (fun g _ hq=>⟨hp i g hi hq.1,hq.2⟩)⟩⟩
structure qF(w:World)(lo:Nat)(v:Value)(k:Nat)(x:Nat->ByteArray)(F:Nat->Nat)(xs:List Value):Prop where
 out:cU w lo v k x (fun i q=>F i<=q/\q<F (i+1)) xs
 mono:∀i,F i<=F (i+1)
 lo:lo<=F 0
 hi:F k<=w.heap.size
theorem pM{F:Nat->Nat}(h:∀i,F i<=F (i+1)){i j:Nat}(hij:i<=j):F i<=F j:=by
 induction j with
 | zero=>have:i=0:=om
         subst this;exact Nat.le_refl _
 | succ j ih=>
   by_cases e:i=j+1
   . subst e;exact Nat.le_refl _
   . exact Nat.le_trans (ih om) (h j)
theorem jY:∃i,Tryz.prog.info? 44=some i/\i.zero=some (.agg #[.bool false,.n,.n])/\i.size=3/\i.bytes=56:=by
 have h:(Tryz.prog.info? 44).map (fun i=>(i.zero,i.size,i.bytes))=some (some (.agg #[.bool false,.n,.n]),3,56):=by kernel_rfl
 obtain⟨i,hi,h⟩:=Option.map_eq_some_iff.1 h;simp only[Prod.mk.injEq] at h;exact⟨i,hi,h.1,h.2.1,h.2.2⟩
theorem rb(w:World)(x y z:Value)(t:TypeId):∀j u,([x,y,z]:List Value)[j]?=some u->(w.alloc (.cells #[x,y,z] t)).cell? (((jj w.heap.size 0):Addr).add j)=some u:=fun j u hu=>by
 rw[Go.WideShapes.add_plain,Nat.zero_add]
 rcases j with _ | _ | _ | j
 . simp at hu;subst hu;exact (bj.new w x y z t).c0
 . simp at hu;subst hu;exact (bj.new w x y z t).c1
 . simp at hu;subst hu;exact (bj.new w x y z t).c2
 . simp at hu
theorem qY(f:Bool)(a b:Option Addr)(n c m d:Nat):∀u∈([.bool f,.slice a n c,.slice b m d]:List Value),u.oneCell'=true:=by
 intro u hu
 simp at hu
 rcases hu with rfl | rfl | rfl<;>rfl
theorem cF.low{c:Nat}{w w1 w2:World}(h:cF c w w1)(s:w1.Since w.heap.size w2):cF c w w2:=
 ⟨s.os.trans h.os,s.tape.trans h.tape,s.output.trans h.output,Nat.le_trans h.size s.size,fun q hq hn=>(s.block q hq).trans (h.block q hq hn)⟩
def aiV(w w':World)(c bl wb t n:Nat)(L ws:List ByteArray)(e:Ending):Prop:=
 (¬vk ws n/\e=cg t)∨
 (vk ws n/\∃v F xs,e=.returned v/\qF w' w.heap.size v n (wd ws) F xs/\v≠ .slice none 0 0/\iy w' c bl wb L t (ws.drop n))
theorem aaL{cnt:Int}{n c bl wb t:Nat}{L ws:List ByteArray}{w:World}(h:iy w c bl wb L t ws)(hcnt:cnt=(n:Int)∨(cnt=-1/\n=ws.length))(hn:n<=9223372036854775807):
 Cl 131 #[.p c 0,.i cnt] w fun e w'=>cF c w w'/\aiV w w' c bl wb t n L ws e:=by
 obtain⟨i0,hi,hz0,hz1,hz2⟩:=jY;have hwl:=h.wl;have hcl:=h.lt;have hbl:=h.lb;have hwb:=h.lw;have sA:=bJ w (.cells #[] 44);have oA:(w.alloc (.cells #[] 44)).ownsRow w.heap.size 44 3 (.s w.heap.size 0 0) 0 []:=pv w #[] 0 (Nat.le_refl _) (Nat.zero_le _) rfl;go_enter Tryz.func131,Tryz.ntmps131;go_wp2_with fail
 go_loopw [5] (fun u wr=>∃(k g cap:Nat) (xs:List Value) (F:Nat->Nat),u=.s g k cap/\k<=n/\k<=ws.length/\cF c w wr/\Hid (qF wr w.heap.size (.s g k cap) k (wd ws) F xs)/\Hid (∀i,i<k->dI (wd ws i))/\iy wr c bl wb L t (ws.drop k)) (fun u _=>n-sliceLen u)
 case atStart=>exact⟨0,w.heap.size,0,[],fun _=>w.heap.size,rfl,Nat.zero_le _,Nat.zero_le _,cF.of sA,ae ⟨⟨oA,fun i hi=>absurd hi om⟩,fun _=>Nat.le_refl _,Nat.le_refl _,qz⟩,ae (fun i hi=>absurd hi om),by rw[List.drop_zero];exact h.aA sA⟩
 case round=>
  obtain⟨k,g,cap,xs,F,rfl,hkn,hkw,B,O,HK,R⟩:=hrel
  have HFAIL:Hid ((∀x r,ws.drop k=x::r->(ak x).2.2.2≠0)->k<n->¬vk ws n):=ae (fun hf hkn' ha=>by
   have hk:k<ws.length:=by have:=ha.1;omega
   refine hf (wd ws k) (ws.drop (k+1)) ?_ (ha.2 k hkn');rw[List.drop_eq_getElem_cons hk];unfold wd;rw[List.getD_eq_getElem?_getD,List.getElem?_eq_getElem hk]
   rfl)
  by_cases hlt:k<n
  . have HFAIL:=ae (fun hf=>HFAIL.out hf hlt)
    rcases hcnt with hc0 | ⟨hc0,hn0⟩
    focus
     subst hc0;have hzk:(k:Int)<n:=om
    rotate_left
    focus
     subst hc0;have hzk:¬((k:Int)< -1):=om
     obtain⟨vw,cw,aw,ow,pw,rfl,-,-⟩:=R.c2;rw[List.length_drop] at cw;obtain⟨mw,hmw⟩:∃m,ws.length-k=m:=⟨_,rfl⟩;rw[hmw] at cw;have hmw0:(0:Int)<mw:=om
     have HN0:=ae hn0;clear hn0
    all_goals
     go_wp2_with fail;refine (kv R).mono ?_;rintro e w1 ⟨B1,⟨h1,rfl⟩ | ⟨x,r,v,h1,h2,rfl,RV,R1⟩⟩
     . have HNO:=ae (HFAIL.out h1)
       clear h1;unfold cg;go_wp2;exact⟨rfl,B.trans B1,Or.inl ⟨HNO.out,rfl⟩⟩
     . obtain⟨hk,hxw,hr⟩:=ac3 h1
       have HR:=ae hr;have W1:=RV.w;obtain⟨v1,v2,g1,g2,rfl,N1,N2,-,-,-⟩:=RV;obtain⟨a1,q1,c1,Y1,rfl,-⟩:=N1;obtain⟨a2,q2,c2,Y2,rfl,-⟩:=N2;have W1:iG w1 (fun q=>wr.heap.size<=q) (.agg #[.bool (ak (wd ws k)).1,.slice a1 q1 c1,.slice a2 q2 c2]) (wd ws k):=by rw[hxw];exact W1
       have HX:=ae hxw;have HOK:=ae h2;have z1:=B1.size;have O1:=O.out.out.aM B1 hcl (fun i q hq=>Nat.le_trans (Nat.le_trans O.out.lo (pM O.out.mono (Nat.zero_le i))) hq.1);have lg:=O.out.out.own.lt g rfl;have hFk:=O.out.hi;obtain⟨nb,hnb⟩:∃b,(ak x).1=b:=⟨_,rfl⟩;have HNB:Hid ((ak (wd ws k)).1=nb):=ae (by rw[HX.out];exact hnb);rw[hnb];clear h1 h2 hxw hr hnb
       go_wp2_with (at_builtin;refine wpList_append_own_at _ rfl _ _ 23 rfl w.heap.size 44 i0 _ 3 56 Tryz.underlying23 hi hz0 hz1 hz2 rfl qd _ _ _ rfl (O1.own.alloc _) (jj w1.heap.size 0) 1 1 [.bool nb,.slice a1 q1 c1,.slice a2 q2 c2] rfl rfl (rb _ _ _ _ _) (qY _ _ _ _ _ _ _) (by unfold maxLen;omega) om (by have:=B.size;simp;omega) ?_)
       intro v' w2 hown' hgrow hnn hat;replace hgrow:(w1.alloc (.cells #[.bool nb,.slice a1 q1 c1,.slice a2 q2 c2] 44)).grownBy w2 (Value.s g k cap).ownBlock:=hgrow;obtain⟨g',capn,rfl,hg1,hg2⟩:=hown'.form om;have sW:=bJ w1 (.cells #[.bool nb,.slice a1 q1 c1,.slice a2 q2 c2] 44);have zW:(w1.alloc (.cells #[.bool nb,.slice a1 q1 c1,.slice a2 q2 c2] 44)).heap.size=w1.heap.size+1:=by simp
       have z2:=hgrow.size;have hB:=B.size;have sG:w1.Since w.heap.size w2:=(sM sW (show w.heap.size<=w1.heap.size by omega)).grown hgrow om (fun q hq=>(O1.own.lt q hq).1);have B2:cF c w w2:=(B.trans B1).low sG
       have HF:∀i q,i<k->(F i<=q/\q<F (i+1))->((if i<=k then F i else w1.heap.size)<=q/\q<(if i+1<=k then F (i+1) else w1.heap.size)):=fun i q hi hq=>by
        rw[if_pos om,if_pos om];exact hq
       have O2:=(O1.imp HF).snoc sW om hgrow (by rw[HNB.out];exact hown') (by rw[zW];exact hat) (gi.imp W1 (fun q hq hp=>⟨⟨by rw[if_pos (Nat.le_refl _)];omega,by rw[if_neg om];exact hq⟩,fun e=>by simp[Value.ownBlock] at e;omega⟩))
       have OF:Hid (qF w2 w.heap.size (.s g' (k+1) capn) (k+1) (wd ws) (fun j=>if j<=k then F j else w1.heap.size) _):=ae ⟨O2,fun i=>by
        show (if i<=k then F i else w1.heap.size)<=(if i+1<=k then F (i+1) else w1.heap.size)
        by_cases e1:i+1<=k
        . rw[if_pos om,if_pos e1];exact O.out.mono i
        . rw[if_neg e1]
          by_cases e2:i<=k
          . rw[if_pos e2]
            have:=pM O.out.mono e2;omega
          . rw[if_neg e2];exact Nat.le_refl _,by show w.heap.size<=(if 0<=k then F 0 else w1.heap.size);rw[if_pos (Nat.zero_le _)];exact O.out.lo,by show (if k+1<=k then F (k+1) else w1.heap.size)<=w2.heap.size;rw[if_neg om];omega⟩
       have lR:=R1.lt;have lbR:=R1.lb;have lwR:=R1.lw;have R2:iy w2 c bl wb L t (ws.drop (k+1)):=by rw[HR.out];exact R1.blks om (sG.block c hcl) (sG.block bl hbl) (sG.block wb hwb)
       have HK2:Hid (∀i,i<k+1->dI (wd ws i)):=ae (fun i hi=>by
        by_cases e:i=k
        . subst e;unfold dI;rw[HX.out];exact HOK.out
        . exact HK.out i om)
       clear hnn hat hown' hgrow O2 O1 W1;go_wp2;go_roundw
       case rel=>exact⟨k+1,g',capn,_,_,rfl,om,om,B2,OF,HK2,R2⟩
       case measure=>simp[sliceLen];omega
  . have e:k=n:=om
    subst e
    rcases hcnt with hc0 | ⟨hc0,hn0⟩
    . subst hc0
      have hzk:¬((k:Int)<k):=om
      have hz2':((k:Int)== -1)=false:=by simp
      have O':=O;go_wp2;go_ret;exact⟨B,Or.inr ⟨⟨om,fun i hi=>HK.out i om⟩,_,F,xs,rfl,O'.out,qz,R⟩⟩
    . subst hc0
      have hzk:¬((k:Int)< -1):=om
      obtain⟨vw,cw,aw,ow,pw,rfl,-,-⟩:=R.c2;rw[List.length_drop,show ws.length-k=0 by omega] at cw;have HN0:=ae hn0;clear hn0;have O':=O;go_wp2;go_ret;exact⟨B,Or.inr ⟨⟨om,fun i hi=>HK.out i om⟩,_,F,xs,rfl,O'.out,qz,R⟩⟩
theorem cU.imp'{w:World}{lo k:Nat}{v:Value}{x:Nat->ByteArray}{p p':Nat->Nat->Prop}{xs:List Value}(h:cU w lo v k x p xs)(hp:∀i g,i<k->g<w.heap.size->p i g->p' i g):cU w lo v k x p' xs:=
 ⟨h.own,fun i hi=>by
   obtain⟨u1,u2,h1,h2,h3,h4⟩:=h.at_ i hi;exact⟨u1,u2,h1,h2,h3,gi.imp h4 (fun g hg hq=>⟨hp i g hi hg hq.1,hq.2⟩)⟩⟩
def eb:Value->Option Nat
 | .slice (some a) (_+1) _=>some a.block
 | _=>none
theorem afq{u:Value}{g:Nat}(h:eb u=some g):u.ownBlock=some g:=by
 unfold eb at h
 split at h
 . exact h
 . cases h
def oz(lo hi:Nat)(xs:List Value):Prop:=(∀u∈xs,∀g,eb u=some g->lo<=g/\g<hi)/\xs.Pairwise fun u v=>∀g,eb u=some g->eb v≠some g
theorem oz.nil(lo hi:Nat):oz lo hi []:=⟨fun u hu=>by simp at hu,List.Pairwise.nil⟩
theorem oz.append{lo hi lo' hi':Nat}{xs ys:List Value}(h:oz lo hi xs)(k:oz lo' hi' ys)(h1:hi<=lo')(h2:lo<=lo')(h3:hi<=hi'):oz lo hi' (xs++ys):=by
 refine⟨fun u hu g e=> ?_,List.pairwise_append.2 ⟨h.2,k.2,fun a ha b hb g e e'=> ?_⟩⟩
 . rcases List.mem_append.1 hu with hu | hu
   . have:=h.1 u hu g e;omega
   . have:=k.1 u hu g e;omega
 . have:=h.1 a ha g e
   have:=k.1 b hb g e';omega
theorem oz.perm{lo hi:Nat}{xs ys:List Value}(h:oz lo hi xs)(p:xs.Perm ys):oz lo hi ys:=
 ⟨fun u hu=>h.1 u (p.symm.mem_iff.1 hu),h.2.perm p (fun {_ _} hab g e e'=>hab g e' e)⟩
theorem oz.wide{lo hi lo' hi':Nat}{xs:List Value}(h:oz lo hi xs)(h1:lo'<=lo)(h2:hi<=hi'):oz lo' hi' xs:=
 ⟨fun u hu g e=>by have:=h.1 u hu g e;omega,h.2⟩
theorem bU.eb{w:World}{v:Value}{g N M q:Nat}(h:bU w v g N M)(e:eb v=some q):N≠0/\q=g:=by
 obtain⟨a,m,cap,Y,rfl,h2,h3,h4,h5,h6,h7,h8,h9⟩:=h
 rcases m with _ | m
 . cases a<;>simp[Go.Proofs.YtclgkofcooibfaaGreatDoor.eb] at e
 . obtain⟨ea,-⟩:=h5 0 om
   subst ea;have e:g=q:=by simpa [Go.Proofs.YtclgkofcooibfaaGreatDoor.eb] using e
   refine⟨?_,e.symm⟩;have:=jU Y (m+1) om (h8 om);have:=Nat.two_pow_pos (32*(m+1-1));omega
theorem gi.apt{w:World}{p:Nat->Prop}{b:Bool}{u1 u2:Value}{neg:Bool}{N D M lo hi:Nat}(h:gi w p (.agg #[.bool b,u1,u2]) neg N D M)(hp:∀g,g<w.heap.size->p g->lo<=g/\g<hi):oz lo hi [.bool b,u1,u2]:=by
 obtain⟨v1,v2,g,h',e,N1,N2,b1,b2,b3⟩:=h;simp only[Value.agg.injEq,Array.mk.injEq,List.cons.injEq,and_true] at e;obtain⟨-,rfl,rfl⟩:=e;refine⟨fun u hu q e=> ?_, ?_⟩
 . simp only[List.mem_cons,List.not_mem_nil,or_false] at hu
   rcases hu with rfl | rfl | rfl
   . simp[eb] at e
   . obtain⟨hn,rfl⟩:=N1.eb e
     exact hp _ (b1 hn).2 (b1 hn).1
   . obtain⟨hn,rfl⟩:=N2.eb e
     exact hp _ (b2 hn).2 (b2 hn).1
 . refine List.Pairwise.cons (fun v _ q e=>by simp[eb] at e) (List.Pairwise.cons (fun v hv q e e'=> ?_) (List.Pairwise.cons (fun v hv=>by simp at hv) List.Pairwise.nil))
   simp at hv
   subst hv;obtain⟨hn,rfl⟩:=N1.eb e;obtain⟨hd,rfl⟩:=N2.eb e';exact b3 hn hd rfl
theorem cU.mem{w:World}{lo k:Nat}{v:Value}{x:Nat->ByteArray}{p:Nat->Nat->Prop}{xs:List Value}(h:cU w lo v k x p xs){u:Value}(hu:u∈xs){q:Nat}(e:eb u=some q):∃i,i<k/\p i q/\v.ownBlock≠some q/\q<w.heap.size:=by
 obtain⟨j,hj,ej⟩:=List.getElem_of_mem hu;have hl:=h.own.1;have hq:j/3<k:=om
 obtain⟨u1,u2,h1,h2,h3,h4⟩:=h.at_ (j/3) hq;have hj':xs[j]?=some u:=by rw[List.getElem?_eq_getElem hj,ej]
 obtain⟨v1,v2,g,g',e1,N1,N2,b1,b2,-⟩:=h4;simp only[Value.agg.injEq,Array.mk.injEq,List.cons.injEq,and_true,true_and] at e1;obtain⟨rfl,rfl⟩:=e1;have:j=j/3*3∨j=j/3*3+1∨j=j/3*3+2:=om
 rcases this with e2 | e2 | e2
 . rw[e2,h1] at hj';simp at hj';subst hj';simp[eb] at e
 . rw[e2,h2] at hj';simp at hj';subst hj'
   obtain⟨hn,rfl⟩:=N1.eb e;exact⟨_,hq,(b1 hn).1.1,(b1 hn).1.2,(b1 hn).2⟩
 . rw[e2,h3] at hj';simp at hj';subst hj'
   obtain⟨hn,rfl⟩:=N2.eb e;exact⟨_,hq,(b2 hn).1.1,(b2 hn).1.2,(b2 hn).2⟩
theorem aaH{xs:List Value}{m:Nat}{a b c:Value}(h1:xs[m*3]?=some a)(h2:xs[m*3+1]?=some b)(h3:xs[m*3+2]?=some c):xs.take ((m+1)*3)=xs.take (m*3)++[a,b,c]:=by
 rw[show (m+1)*3=m*3+1+1+1 by omega,List.take_add_one,List.take_add_one,List.take_add_one,h1,h2,h3]
 simp
theorem qF.apt{w:World}{lo k:Nat}{v:Value}{x:Nat->ByteArray}{F:Nat->Nat}{xs:List Value}(h:qF w lo v k x F xs):oz lo w.heap.size xs:=by
 have hl:=h.out.own.1
 have key:∀m,m<=k->oz (F 0) (F m) (xs.take (m*3)):=by
  intro m
  induction m with
  | zero=>intro _;simp;exact oz.nil _ _
  | succ m ih=>
    intro hm;obtain⟨u1,u2,h1,h2,h3,h4⟩:=h.out.at_ m om;rw[aaH h1 h2 h3];exact (ih om).append (gi.apt (lo:=F m) (hi:=F (m+1)) h4 (fun g _ hp=>hp.1)) (Nat.le_refl _) (pM h.mono (Nat.zero_le _)) (h.mono m)
 have:=key k (Nat.le_refl _);rw[List.take_of_length_le om] at this;exact this.wide h.lo h.hi
structure jP(R:Nat->Prop)(w w':World):Prop where
 os:w'.os=w.os
 tape:w'.tape=w.tape
 output:w'.output=w.output
 size:w.heap.size<=w'.heap.size
 block:∀q,q<w.heap.size->¬R q->w'.heap[q]?=w.heap[q]?
theorem cU.append{w w':World}{lo k n:Nat}{v v' vr:Value}{x y:Nat->ByteArray}{p p':Nat->Nat->Prop}{xs xr:List Value}(h:cU w lo v k x p xs)(r:cU w lo vr n y p' xr)(g:w.grownBy w' v.ownBlock)(own:w'.ownsRow lo 44 3 v' (k+n) (xs++xr))
 (hat:v'.ownBlock=v.ownBlock∨v'.ownBlock=some w.heap.size)(hp:∀i q,i<n->q<w.heap.size->p' i q->p (k+i) q/\v.ownBlock≠some q):cU w' lo v' (k+n) (fun i=>if i<k then x i else y (i-k)) p (xs++xr):=by
 have hl:=h.own.1
 have mv:∀ {i:Nat} {u:Value} {z:ByteArray},iG w (fun q=>p i q/\v.ownBlock≠some q) u z->iG w' (fun q=>p i q/\v'.ownBlock≠some q) u z:=fun {i u z} r=>by
  have r2:gi w (fun q=>(p i q/\v.ownBlock≠some q)/\v'.ownBlock≠some q) u _ _ _ _:=gi.imp r (fun j hj hp=>⟨hp,fun e=>by
   rcases hat with h | h
   . exact hp.2 (h.symm.trans e)
   . rw[e] at h;simp at h;omega⟩)
  have r3:=r2.blocks (w':=w') g.size (fun j hj hp=>g.block j hj (fun e=>hp.1.2 e.symm));exact r3.imp (fun _ _ hp=>⟨hp.1.1,hp.2⟩)
 refine⟨own,fun i hi=> ?_⟩
 by_cases e:i<k
 . obtain⟨u1,u2,h1,h2,h3,h4⟩:=h.at_ i e
   simp only[if_pos e];exact⟨u1,u2,by rw[List.getElem?_append_left om];exact h1,by rw[List.getElem?_append_left om];exact h2,by rw[List.getElem?_append_left om];exact h3,mv h4⟩
 . obtain⟨u1,u2,h1,h2,h3,h4⟩:=r.at_ (i-k) om
   simp only[if_neg e];have e3:i*3-xs.length=(i-k)*3:=om
   refine⟨u1,u2, ?_, ?_, ?_,mv (gi.imp h4 (fun q hq hp'=>by
    have:=hp (i-k) q om hq hp'.1;rw[show k+(i-k)=i by omega] at this;exact this))⟩
   . rw[List.getElem?_append_right om,e3];exact h1
   . rw[List.getElem?_append_right om,show i*3+1-xs.length=(i-k)*3+1 by omega];exact h2
   . rw[List.getElem?_append_right om,show i*3+2-xs.length=(i-k)*3+2 by omega];exact h3
theorem wt(a b:List ByteArray)(i:Nat):wd (a++b) i=if i<a.length then wd a i else wd b (i-a.length):=by
 unfold wd;simp only[List.getD_eq_getElem?_getD]
 split
 . rename_i h;rw[List.getElem?_append_left h]
 . rename_i h;rw[List.getElem?_append_right om]
theorem abX{l:List ByteArray}{C i:Nat}(h:i<C):wd (l.take C) i=wd l i:=by
 unfold wd;simp only[List.getD_eq_getElem?_getD,List.getElem?_take_of_lt h]
theorem cU.congr{w:World}{lo k:Nat}{v:Value}{x x':Nat->ByteArray}{p:Nat->Nat->Prop}{xs:List Value}(h:cU w lo v k x p xs)(hx:∀i,i<k->x i=x' i):cU w lo v k x' p xs:=
 ⟨h.own,fun i hi=>by rw[<-hx i hi];exact h.at_ i hi⟩
theorem cU.lower{w:World}{lo lo' k:Nat}{v:Value}{x:Nat->ByteArray}{p:Nat->Nat->Prop}{xs:List Value}(h:cU w lo v k x p xs)(hl:lo'<=lo):cU w lo' v k x p xs:=by
 refine⟨?_,h.at_⟩;obtain⟨e,h1 | ⟨g,cap,cur,e1,hb,r⟩⟩:=h.own
 . exact⟨e,Or.inl h1⟩
 . exact⟨e,Or.inr ⟨g,cap,cur,e1,Nat.le_trans hl hb,r⟩⟩
section
variable{w w':World}{R:Nat->Prop}
theorem jP.aJ{r:Option Nat}(g:w.grownBy w' r):jP (fun q=>r=some q) w w':=⟨g.os,g.tape,g.output,g.size,fun q hq hn=>g.block q hq (fun e=>hn e.symm)⟩
theorem iy.aR{c bl wb t:Nat}{L ws:List ByteArray}(h:iy w c bl wb L t ws)(k:jP R w w')(h1:¬R c)(h2:¬R bl)(h3:¬R wb):iy w' c bl wb L t ws:=h.blks k.size (k.block c h.lt h1) (k.block bl h.lb h2) (k.block wb h.lw h3)
theorem cU.aR{lo k:Nat}{v:Value}{x:Nat->ByteArray}{p:Nat->Nat->Prop}{xs:List Value}(h:cU w lo v k x p xs)(kk:jP R w w')(ho:∀g,v.ownBlock=some g->¬R g)(hp:∀i g,p i g->¬R g):cU w' lo v k x p xs:=
 h.blocks kk.size (fun g hg=>kk.block g (h.own.lt g hg).2 (ho g hg)) (fun i g _ hg hq=>kk.block g hg (hp i g hq))
theorem cF.aR{c:Nat}{w0:World}(h:cF c w0 w)(k:jP R w w')(hR:∀q,R q->w0.heap.size<=q):cF c w0 w':=
 ⟨k.os.trans h.os,k.tape.trans h.tape,k.output.trans h.output,Nat.le_trans h.size k.size,fun q hq hn=>(k.block q (Nat.lt_of_lt_of_le hq h.size) (fun e=>by have:=hR q e;omega)).trans (h.block q hq hn)⟩
end
theorem zT(t:Nat)(L:List ByteArray):(cK t L).length<=L.length:=by
 induction L generalizing t with
 | nil=>simp[cK]
 | cons x xs ih=>
   have:=ih (t+1);rw[cK]
   split
   . simp;omega
   . simp;omega
section
variable{w w':World}{p p':Nat->Prop}{vW vB:Value}{C:Nat}{rs:List (Nat×List ByteArray)}{xW xB:List Value}
end
structure MapD where
 R:Nat
 C:Nat
 rs:List (Nat×List ByteArray)
section
variable{w w' w1:World}{lo k:Nat}{v v':Value}{D:Nat->MapD}{xs:List Value}{zs:List (List Value)}
end
end Go.Proofs.YtclgkofcooibfaaGreatDoor
