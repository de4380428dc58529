import Derived.Test.YtaeieekkddndhaaGreatOwnP24
import Derived.Test.YtaeieekkddndhaaGreatOwnP5
set_option maxHeartbeats 6400000
set_option maxRecDepth 100000
namespace Go.Proofs.YtaeieekkddndhaaGreat
open Tryz Go.RowKit
variable{w v W V:World}{n m c d k i j l o b p q t r s g h e:Nat}{a A B:Option Addr}{U:Value}{z y:Int}{G:be}{P:Nat->Prop}{Q:Rat}
def iN(z:Int):List (Int×Value)->Option (Nat×Value)
 | []=>none
 | t::E=>if t.1=z then some (0,t.2) else (iN z E).map fun p=>(p.1+1,p.2)
def qc(z:Int)(v:Value):List (Int×Value)->List (Int×Value)
 | []=>[(z,v)]
 | t::E=>if t.1=z then (z,v)::E else t::qc z v E
def aj(l:List MapEntry)(E:List (Int×Value)):Prop:=l.map (fun e=>(e.key,e.val))=E.map (fun t=>(Value.int .i64 t.1,t.2))
def jm(w:World)(b:Nat)(E:List (Int×Value)):Prop:=∃es clock,w.heap[b]?=some (.map es clock)/\MapKept.Stamped es clock/\aj es.toList E/\∀t∈E,(Lit.int .i64 t.1).wf=true
theorem jm.lt{E:List (Int×Value)}(h:jm w n E):n<w.heap.size:=by
 obtain⟨c,a,hb,-⟩:=h;exact (dM.1 hb).1
theorem jm.lV{w w':World}{E:List (Int×Value)}(h:jm w n E)(e:w'.heap[n]?=w.heap[n]?):jm w' n E:=by
 obtain⟨c,a,hb,d⟩:=h;exact⟨c,a,e.trans hb,d⟩
theorem jm.bH{w w':World}{E:List (Int×Value)}(h:jm w b E)(s:w.S w'):jm w' b E:=h.lV (s.block b h.lt)
theorem jm.made(w:World):jm (w.alloc (.map #[] 0)) w.heap.size []:=⟨#[],0,(MapKept.heap_alloc w _).1,⟨qz,qz,qz⟩,rfl,qz⟩
theorem cX:∀ {l:List MapEntry} {E:List (Int×Value)} (i:Nat),aj l E->Instr.findNow (.int .i64) (.i z) l i=some ((iN z E).map fun p=>(p.1+i,p.2))
 | [],E,i,h=>by
   cases E with
   | nil=>rfl
   | cons t E=>simp[aj] at h
 | e::l,E,i,h=>by
   cases E with
   | nil=>simp[aj] at h
   | cons t E=>
     simp only[aj,dG,List.cons.injEq,Prod.mk.injEq] at h;obtain⟨⟨c,d⟩,f⟩:=h;have g:=cX (i+1) (show aj l E from f);unfold Instr.findNow iN;rw[c]
     by_cases a:t.1=z
     . simp[Instr.sameNow,a,d]
     . have b:¬z=t.1:=fun h=>a h.symm
       simp only[Instr.sameNow,jG,a,iO];rw[pR b];simp only[g];cases iN z E with
       | none=>rfl
       | some p=>simp;omega
theorem agp:∀ {E:List (Int×Value)} {j:Nat} {v:Value},iN z E=some (j,v)->E[j]?=some (z,v)
 | [],_,_,h=>by simp[iN] at h
 | t::E,j,v,h=>by
   unfold iN at h
   split at h
   . next e=>simp at h;obtain⟨rfl,rfl⟩:=h;rw[<-e];rfl
   . obtain⟨p,a,e⟩:=eE.1 h
     simp only[Prod.mk.injEq] at e;obtain⟨rfl,rfl⟩:=e;have:=agp (E:=E) (j:=p.1) (v:=p.2) a
     simpa using this
theorem ael:∀ {E:List (Int×Value)},iN z E=none->z∉E.map Prod.fst
 | [],_=>by simp
 | t::E,h=>by
   unfold iN at h
   split at h
   . simp at h
   . next e=>
     have:=ael (E:=E) (by simpa using h);simp only[dG,fW,not_or];exact⟨fun h=>e h.symm,this⟩
theorem eh{v:Value}:∀ {E:List (Int×Value)} {j:Nat} {u:Value},iN z E=some (j,u)->qc z v E=E.set j (z,v)
 | [],_,_,h=>by simp[iN] at h
 | t::E,j,u,h=>by
   unfold iN at h;unfold qc
   split at h
   . next e=>simp at h;obtain⟨rfl,rfl⟩:=h;rw[aY e];rfl
   . next e=>
     obtain⟨p,b,a⟩:=eE.1 h;simp only[Prod.mk.injEq] at a;obtain⟨rfl,rfl⟩:=a;rw[aM e,eh (E:=E) (j:=p.1) (u:=p.2) b]
     rfl
theorem ei{u:Value}:∀ {E:List (Int×Value)},iN z E=none->qc z u E=E++[(z,u)]
 | [],_=>rfl
 | t::E,h=>by
   unfold iN at h;unfold qc
   split at h
   . simp at h
   . next e=>
     rw[aM e,ei (E:=E) (by simpa using h)]
     rfl
section
variable{P:Program}{w:World}{b:Nat}{E:List (Int×Value)}{mty kt et:TypeId}{z:Int}{v zv:Value}
theorem jm.look(h:jm w b E)(e:P.underlying mty=some (.map kt et))(c:P.underlying kt=some (.int .i64))(j:(zeroValue et).run P w=.ok zv w)(f:Bool):
 (Instr.lookup mty (.map (some b)) (.i z) f).run P w=.ok (if f then .tuple #[((iN z E).map Prod.snd).getD zv,.bool (iN z E).isSome] else ((iN z E).map Prod.snd).getD zv) w:=by
 obtain⟨g,k,hb,-,i,-⟩:=h;have d:(Instr.checkKey g.isEmpty 10000 kt (.i z)).run P w=.ok () w:=mC (k:=.i z) c (by simp[MapKept.IsKey]) _ 9999;have a:=cX (z:=z) 0 i;cases hl:iN z E with
 | none=>
   rw[hl] at a;simp[Instr.lookup,lS e,iM hb,d,jL c a,j,Result.andThen]
 | some p=>
   rw[hl] at a;simp[Instr.lookup,lS e,iM hb,d,jL c a,Result.andThen]
theorem jm.put(h:jm w b E)(G:P.underlying mty=some (.map kt et))(n:P.underlying kt=some (.int .i64))(I:(Lit.int .i64 z).wf=true)(u:Value):
 ∃r,(Instr.mapUpdate mty (.map (some b)) (.int .i64 z) u).run P w=.ok () r/\jm r b (qc z u E)/\w.grownBy r (some b):=by
 obtain⟨d,g,hb,H,c,K⟩:=h;have C:(Instr.checkKey false 10000 kt (.int .i64 z)).run P w=.ok () w:=mC (k:=.int .i64 z) n (by simp[MapKept.IsKey]) _ 9999;have f:=cX (z:=z) 0 c;have y:∀o,w.grownBy { w with heap:=w.heap.setIfInBounds b o } (some b):=fun o=>⟨rfl,rfl,rfl,qz,fun q _ Q=>(lE hb).2 q (fun e=>Q (by rw[e]))⟩;cases hl:iN z E with
 | none=>
   rw[hl] at f;refine⟨{ w with heap:=w.heap.setIfInBounds b (.map (d.push { key:=.int .i64 z,val:=u,born:=g }) (g+1)) }, ?_,⟨_,_,(lE hb).1,MapKept.stamped_push H (fun x S e=> ?_), ?_, ?_⟩,y _⟩
   . simp[Instr.mapUpdate,lS G,iM hb,C,jL n f,mV _ hb,Result.andThen]
   . have A:(x.key,x.val)∈d.toList.map (fun e=>(e.key,e.val)):=dT.2 ⟨x,S,rfl⟩;rw[c] at A;obtain⟨t,a,s⟩:=dT.1 A;simp only[Prod.mk.injEq] at s;rw[<-s.1] at e;simp at e;exact ael hl (dT.2 ⟨t,a,e⟩)
   . rw[ei hl];unfold aj at c⊢;simp[c]
   . rw[ei hl];intro t a;rcases iX.1 a with a | a
     . exact K t a
     . simp at a;subst a;exact I
 | some p=>
   obtain⟨j,v⟩:=p;rw[hl] at f;have F:=agp hl;have N:d.toList[j]?.map (fun e=>(e.key,e.val))=some (Value.int .i64 z,v):=(by have:=congrArg (fun l=>l[j]?) c;simp only[cY,F] at this;exact this);obtain⟨L,M,i⟩:=eE.1 N;simp only[Prod.mk.injEq] at i;have m:d[j]?=some L:=(by simpa using M);have R:Instr.sameBits 10000 (.int .i64 z) (.int .i64 z)=true:=(by simp[Instr.sameBits]);refine⟨{ w with heap:=w.heap.setIfInBounds b (.map (d.modify j (fun e=>{ e with key:=.int .i64 z,val:=u })) g) }, ?_,⟨_,_,(lE hb).1,MapKept.stamped_modify H j _ (fun _ _=>rfl) (fun T _ D=> ?_), ?_, ?_⟩,y _⟩
   . simp[Instr.mapUpdate,lS G,iM hb,C,jL n f,mV _ hb,Result.andThen,m,i.1,Instr.keyThatStays,R]
   . rw[m] at D;cases D;exact i.1.symm
   . rw[eh hl];unfold aj at c⊢;apply jF;intro k;have B:=congrArg (fun l=>l[k]?) c;simp only[cY] at B;simp only[cY,tK,Array.getElem?_modify,List.getElem?_set];have O:j<E.length:=(bG.1 F).1;by_cases e:j=k
     . subst e;simp[m,O]
     . simp only[e,iO];simpa using B
   . rw[eh hl];intro t a;rcases List.mem_or_eq_of_mem_set a with a | rfl
     . exact K t a
     . exact I
end
theorem jm.owns{E:List (Int×Value)}(h:jm w n E)(u:E.length<=1000000):∃(D:DataW Unit),w.ownsMap Tryz.prog 3 (fun _=>some (.nil,[])) n E.length D/\(intKeys D).Perm (E.map Prod.fst)/\Maps.size D<=1000000:=by
 obtain⟨c,m,hb,q,f,r⟩:=h;have hl:c.size=E.length:=by have:=congrArg List.length f;simpa using this
 have o:∀x∈c.toList,∃t∈E,x.key=.int .i64 t.1:=fun x d=>by have j:(x.key,x.val)∈c.toList.map (fun e=>(e.key,e.val)):=dT.2 ⟨x,d,rfl⟩;rw[f] at j;obtain⟨t,a,i⟩:=dT.1 j;simp only[Prod.mk.injEq] at i;exact⟨t,a,i.1.symm⟩
 have k:∀x∈c.toList,∀t∈E,x.key=.int .i64 t.1->WideElems.rd Tryz.prog 3 (fun _=>some ((.nil:DataW Unit),[])) x=some (.int .i64 t.1,.nil):=fun x _ t a e=>by unfold WideElems.rd;rw[e,Maps.keyOf_int_mk underlying3 (r t a)];rfl
 refine⟨_,⟨c,m,hb,⟨by unfold maxLen;omega,q,fun x d=> ?_⟩,om,rfl⟩, ?_, ?_⟩
 . obtain⟨t,a,e⟩:=o x d;exact⟨_,k x d t a e⟩
 . show ((List.foldr DataW.insert [] _).map _).Perm _;refine ((WideShapes.sorted_perm _).map _).trans ?_;rw[sU];have s:∀(l:List MapEntry) (F:List (Int×Value)),(∀x∈l,x∈c.toList)->(∀t∈F,t∈E)->aj l F->l.map ((fun p:Lit×DataW Unit=>_root_.Go.intOf p.1) ∘ WideElems.rg Tryz.prog 3 (fun _=>some ((.nil:DataW Unit),[])))=F.map Prod.fst:=by
    intro l
    induction l with
    | nil=>
      intro F _ _ h;cases F with
      | nil=>rfl
      | cons t F=>simp[aj] at h
    | cons x l ih=>
      intro F d a h;cases F with
      | nil=>simp[aj] at h
      | cons t F=>
        simp only[aj,dG,List.cons.injEq,Prod.mk.injEq] at h;rw[dG,dG,ih F (fun y g=>d y (iA _ g)) (fun y g=>a y (iA _ g)) h.2];have b:=k x (d x (iQ ..)) t (a t (iQ ..)) h.1.1;simp only[Function.comp,WideElems.rg,b,gI,_root_.Go.intOf]
   have e:=s c.toList E (fun _ h=>h) (fun _ h=>h) f;rw[e]
 . show (List.foldr DataW.insert [] _).length<=_;rw[length_sorted];simp;omega
def KT:LK (Int×Rat):=⟨169,163,4,64,.agg #[.int .i64 0,.bool false,.slice none 0 0,.slice none 0 0],fun w p c t=>∃x y,c=[.int .i64 t.1,.bool (qn t.2),x,y]/\fJ w p (.agg #[.bool (qn t.2),x,y]) t.2⟩
theorem KT.ok:KT.Ok where
 und:=underlying163
 info:=by
  have h:(Tryz.prog.info? 169).map (fun i=>(i.zero,i.size,i.bytes))=some (some (.agg #[.i 0,.bool false,.n,.n]),4,64):=by kernel_rfl
  obtain⟨i,f,h⟩:=eE.1 h;simp only[Prod.mk.injEq] at h;exact⟨i,f,h.1,h.2.1,h.2.2⟩
 zs:=rfl
 pos:=by decide
 b:=by decide
 len:=by rintro w p c x ⟨u,v,rfl,-⟩;rfl
 one:=by rintro w p c x ⟨u,v,rfl,h⟩;obtain⟨j,q,l,k,o,m,-,-,-,-,-,-,a,-⟩:=h;simp only[ag3,fM] at a;obtain⟨rfl,rfl⟩:=a;intro u d;simp at d;rcases d with rfl | rfl | rfl | rfl<;>rfl
 move:=by rintro w s p c x ⟨u,v,e,h⟩ n hb;exact⟨u,v,e,h.blocks hb⟩
 imp:=by rintro w p r c x ⟨u,v,e,h⟩ g;exact⟨u,v,e,h.imp g⟩
def KR:LK Row:=KV KT 118
theorem aki:∃i,Tryz.prog.info? 163=some i/\i.zero=some (.n)/\i.size=1/\i.bytes=24:=by
 have h:(Tryz.prog.info? 163).map (fun i=>(i.zero,i.size,i.bytes))=some (some (.n),1,24):=by kernel_rfl
 obtain⟨i,a,h⟩:=eE.1 h;simp only[Prod.mk.injEq] at h;exact⟨i,a,h.1,h.2.1,h.2.2⟩
theorem KR.ok:KR.Ok:=KV.ok KT.ok _ underlying118 aki
theorem acb{u:Value}(R:mH w u Q):Cl 146 #[u] w fun e q=>e=.returned (.bool (decide (Q=0)))/\w.S q:=by
 obtain⟨a,n,k,b,m,l,i,o,j,p,X,Y,rfl,R,g,r⟩:=R;refine (ov).mono ?_;rintro e q ⟨rfl,s⟩;refine⟨?_,s⟩;have h:=jr R.pX;rw[g] at h;have f:Q=0↔Q.num.natAbs=0:=⟨fun e=>by rw[e];rfl,fun e=>by
  have:Q.num=0:=om;exact Rat.num_eq_zero.1 this⟩
 by_cases d:n=0
 . have c:=f.2 om;simp[d,c]
 . have c:¬Q=0:=fun e=>d (by have:=f.1 e;omega);simp[d,c]
theorem dC{w:World}:Cl 156 #[] w fun e a=>∃u,e=.returned u/\fJ a (fun g=>w.heap.size<=g) u 0/\w.S a:=by
 refine (af1).mono ?_;rintro e a ⟨v,rfl,V,s⟩;exact⟨v,rfl,pe.rp (q:=0) V,s⟩
theorem rt{w:World}:Cl 108 #[] w fun e p=>∃u,e=.returned u/\fJ p (fun g=>w.heap.size<=g) u 1/\w.S p:=by
 obtain⟨n,b⟩:∃x:World,x=w.alloc (.o #[.bool false,.s (w.heap.size+1) 1 1,.s (w.heap.size+1+1) 1 1] 83):=⟨_,rfl⟩;obtain⟨o,eb⟩:∃x:World,x=n.alloc (.o #[.int .u32 1] 135):=⟨_,rfl⟩;have j:w.S n:=by rw[b];exact cV _ _
 have d:n.S o:=by rw[eb];exact cV _ _
 have k:n.heap.size=w.heap.size+1:=by rw[b];simp
 have m:o.heap.size=w.heap.size+1+1:=by rw[eb];simp[k]
 have f:=cV o (.o #[.int .u32 1] 135);have l:cR n w.heap.size (.bool false) (.s (w.heap.size+1) 1 1) (.s (w.heap.size+1+1) 1 1):=by rw[b];exact cR.new w _ _ _ _
 have a:=mO n;rw[<-eb,k] at a;have c:=mO o;rw[m] at c;have h:=(l.bH d).bH f;have a:=a.bH f;have i:=(j.tr d).trans (sM f (j.tr d).size);rw[eb,b] at a c h i;go_enter func108,ntmps108;go_wp2;refine bO (re rfl _ _ _ _ _ _ rfl h) rfl ?_;exact⟨_,rfl,pe.rp (q:=1) (B:=w.heap.size) (M:=67108864) ⟨_,_,w.heap.size+1,w.heap.size+1+1,rfl,a,c,om,om,om⟩,i⟩
theorem fJ.flip{u:Value}(h:fJ w P (.agg #[.bool (qn Q),u,U]) Q):fJ w P (.agg #[.bool (qn (-Q)),u,U]) (-Q):=by
 obtain⟨a,n,f,b,m,g,c,i,d,j,X,Y,e,R,o,r,k,l⟩:=h;simp only[ag3,fM] at e;obtain⟨rfl,rfl⟩:=e;exact⟨a,n,f,b,m,g,c,i,d,j,X,Y,rfl,R,by rw[qM,qP];exact o,by rw[Rat.neg_den];exact r,k,l⟩
theorem pm{u:Value}(R:fJ w P (.agg #[.bool (qn Q),u,U]) Q):
 Cl 149 #[.agg #[.bool (qn Q),u,U]] w fun e y=>e=.returned (.agg #[.bool (qn (-Q)),u,U])/\w.S y:=by
 obtain⟨a,n,c,b,m,f,-,-,-,-,-,-,C,-⟩:=id R;simp only[ag3,fM] at C;obtain⟨rfl,rfl⟩:=C;have H:=cV w (.o #[.bool (qn Q),.l a n c,.l b m f] 83);have B:=cR.new w (.bool (qn Q)) (.l a n c) (.l b m f) 83;have V:(w.alloc (.o #[.bool (qn Q),.l a n c,.l b m f] 83)).heap.size=w.heap.size+1:=by simp
 have D:=dw Q;have r:=(aF _ (w.alloc (.o #[.bool (qn Q),.l a n c,.l b m f] 83))).alloc zR yJ;have l:=cR.new (w.alloc (.o #[.bool (qn Q),.l a n c,.l b m f] 83)) (.bool false) (.n) (.n) 83;rw[V] at l;have g:=B.bH r;have A:=H.tr r;have F:(n=0)↔Q.num.natAbs=0:=by obtain⟨W,n',aa,Z,m',ab,ba,oa,bb,ob,X,Y,e,N,x,x2,-⟩:=R;simp only[Value.agg.injEq,Array.mk.injEq,List.cons.injEq,and_true,fM,Value.slice.injEq] at e;obtain⟨⟨-,rfl,-⟩,-⟩:=e;have h:=jr N.pX;rw[x] at h;omega
 have t:=aR D;have M:=aR F;clear D F R H B r;go_enter func149,ntmps149;generalize hv:qn Q=v at*;generalize hu:qn (-Q)=d at*;obtain⟨c0,c1,c2⟩:=g.g;have f0:=g.f 0;cases v with
 | true=>
   have i:d=false:=(by have:=t.out;simpa using this);subst i;have G:=(cR.new (w.alloc (.o #[.bool false,.l a n c,.l b m f] 83)) (.bool false) (.l a n c) (.l b m f) 83);have I:=((aF w.heap.size w).alloc zR (.o #[.bool false,.l a n c,.l b m f] 83)).alloc qz (.o #[.bool false,.l a n c,.l b m f] 83);have z:=aR G;have K:=aR I;rw[show (w.alloc (.o #[.bool false,.l a n c,.l b m f] 83)).heap.size=w.heap.size+1 by simp] at z;clear G I g l A;go_wp2;refine bO (re rfl _ _ (w.heap.size+1) _ _ _ rfl z.out) rfl ?_;exact⟨rfl,K.out⟩
 | false=>
   have J:=fun w=>@ov false a b n c m f w;have i:d= !((n:Int)==0):=by
    have E:=t.out;have k:=M.out;rw[E];by_cases h:n=0
    . have:=k.1 h;simp[h,this]
    . have q:0<Q.num.natAbs:=by
       have:Q.num.natAbs≠0:=fun e=>h (k.2 e);omega
      have S:¬(n:Int)=0:=om;rw[oW q,pR S];rfl
   have L:=aR i;clear i;go_wp2_with (go_at_call 146;(with_reducible refine (J _).mono ?_);rintro e w2 ⟨rfl,s⟩;have j:=g.bH s;have T:=l.bH s;obtain⟨d0,d1,d2⟩:=j.g;have g0:=j.f 0;have o:=T.off (d:=w.heap.size) om 0 (.bool (!((n:Int)==0)));obtain⟨e0,e1,e2⟩:=o.g;have ef:=o.f;have O:=A.tr s;have p:=j.gH (.bool (!((n:Int)==0)));obtain⟨h0,E,k⟩:=p.g);refine bO (re rfl _ _ (w.heap.size+1) _ _ _ rfl (((o.gH (.bool (!((n:Int)==0)))).gM (.l a n c)).gZ (.l b m f))) rfl ?_;exact⟨by rw[L.out],(((O.setCell (a:=jj w.heap.size 0) zR _).setCell (a:=jj (w.heap.size+1) 0) (show w.heap.size<=w.heap.size+1 by omega) _).setCell (a:=jj (w.heap.size+1) 1) (show w.heap.size<=w.heap.size+1 by omega) _).setCell (a:=jj (w.heap.size+1) 2) (show w.heap.size<=w.heap.size+1 by omega) _⟩
theorem afQ(z:Int)(a:List Rat)(Q:Rat):cL z (a++[Q])=cL z a++cL (z+a.length) [Q]:=by
 induction a generalizing z with
 | nil=>simp[cL]
 | cons f a ih=>
   simp only[mY,cL,ih,fS];rw[show z+((a.length+1:Nat):Int)=z+1+(a.length:Int) by omega];split<;>rfl
theorem dB(z:Int)(a:List Rat):(cL z a).length<=a.length:=by
 induction a generalizing z with
 | nil=>simp[cL]
 | cons f a ih=>
   have:=ih (z+1);simp only[cL];split
   . simp;omega
   . simp;omega
theorem ti{z:Int}{a:Option Addr}{bx n m c:Nat}{P:Nat->Prop}{h:Nat->Rat}{w:World}(S:dQ w P a bx n m h)(hn:m<=1000000)(ag:-1<=z)(ah:z<=1000000000):
 Cl 107 #[.i z,.slice a m c] w fun e F=>∃K k W,e=.returned (.s K (cL z ((List.range m).map h)).length k)/\GL KT P F w.heap.size (.s K (cL z ((List.range m).map h)).length k) (cL z ((List.range m).map h)) W/\w.S F:=by
 have sA:=cV w (.o #[] 169);have X:GL KT P (w.alloc (.o #[] 169)) w.heap.size (.s w.heap.size 0 0) [] []:=GL.new KT _ w;go_enter func107,ntmps107;go_wp2;go_loopw [5,11] (fun aa q wr=>∃j:Nat,j<=m/\q=.i (j:Int)/\w.S wr/\∃K k W N,aa=.s K N k/\(cL z ((List.range j).map h)).length=N/\GL KT P wr w.heap.size (.s K N k) (cL z ((List.range j).map h)) W) (fun _ q _=>m-(intOf q).toNat)
 case atStart=>exact⟨0,aJ _,rfl,sA,w.heap.size,0,[],0,rfl,rfl,X⟩
 case round=>
  obtain⟨j,hj,rfl,s,K,k,W,N,rfl,i,G⟩:=hrel;have lt:=G.lt;have zs:=s.size;have ad:N<=j:=by have:=dB z ((List.range j).map h);rw[i] at this;simpa using this
  have p:=aR i;clear i;by_cases al:j<m
  . obtain⟨rfl,x1,y1,B⟩:=S j al;have C:=(B.R.imp (p':=fun q=>P q/\q<w.heap.size) (fun q D hp=>⟨hp,D⟩));obtain⟨r,A,u,t,y,v,-,-,-,-,-,-,M,-⟩:=id B.R;simp only[ag3,fM] at M;obtain⟨rfl,rfl⟩:=M;have o:=B.bH s;have d0:=o.c0;have d1:=o.c1;have d2:=o.c2;have hz:(j:Int)<m:=om;have x:=aR (show cL z ((List.range (j+1)).map h)=cL z ((List.range j).map h)++cL (z+(j:Int)) [h j] by rw[ie,afQ];simp);have d:=cV wr (.o #[.bool (qn (h j)),.l r A u,.l t y v] 83);have L:=cR.new wr (.bool (qn (h j))) (.l r A u) (.l t y v) 83;have T:=acb ((o.R.read).bH d);have C:=C.blocks (w':=wr) (fun q D _=>(sM s zR).block q D);generalize h j=f at*;obtain⟨ai,aj,ak⟩:=L.g;go_wp2_with fail;generalize wr.alloc _=wW at*;refine T.mono ?_;rintro e w3 ⟨rfl,Z⟩;have Q:=L.bH Z;obtain⟨e0,e1,e2⟩:=Q.g;have zW:=d.size;have z3:=Z.size;have H:=(G.bH KT.ok d).bH KT.ok Z;have I:=(s.tr d).trans (sM Z (s.tr d).size);by_cases b:f=0
    . have l:decide (f=0)=true:=oW b;rw[l];have g:=aR b;clear b l;go_wp2;go_roundw
      case rel=>exact⟨j+1,om,by go_num,I,K,k,W,N,rfl,by rw[x.out,cL,aY g.out];simpa [cL] using p.out,by rw[x.out,cL,aY g.out];simpa [cL] using H⟩
      case measure=>exact yI
    . have l:decide (f=0)=false:=decide_eq_false b;rw[l];have g:=aR b;clear b l;have q1:IntKind.i64.wrap (z+(j:Int))=z+(j:Int):=fO om om;have E:=cV w3 (.o #[.i (z+(j:Int)),.bool (qn f),.l r A u,.l t y v] 169);have U:=(C.bH d).bH Z;go_wp2_with (at_builtin;refine kv ?_);intro _;refine jg (m:=1) KT.ok (H.bH KT.ok E) p.out (ML.one (p:=fun q=>P q/\q≠K) KT.ok (c:=[.i (z+(j:Int)),.bool (qn f),.l r A u,.l t y v]) (x:=(z+(j:Int),f)) ⟨_,_,rfl,U.imp (fun ac _ O=>⟨O.1,by have:=O.2;omega⟩)⟩ 169) rfl rfl _ _ rfl rfl rfl om ?_;rintro V k' F ⟨⟨ab,R⟩,Y,ae,af⟩;have zV:=E.size;go_wp2;go_roundw
      case rel=>exact⟨j+1,om,by go_num,eI (I.tr E) Y lt.1 om,V,k',ab,N+1,rfl,by rw[x.out,cL,aM g.out,aT,p.out];rfl,by rw[x.out,cL,aM g.out];exact R⟩
      case measure=>exact yI
  . have e:j=m:=om;subst e;have i:=p.out;go_wp2;go_ret;subst i;first | exact⟨K,k,W,rfl,G,s⟩ | exact⟨K,k,rfl,⟨W,G⟩,s⟩
structure c9(w:World)(p:Nat->Prop)(b o:Nat)(z:Int)(q:Rat)(x y:Value):Prop where
 c0:w.cell? ⟨b,o,none⟩=some (.int .i64 z)
 c1:w.cell? ⟨b,o+1,none⟩=some (.bool (qn q))
 c2:w.cell? ⟨b,o+2,none⟩=some x
 c3:w.cell? ⟨b,o+3,none⟩=some y
 R:fJ w p (.agg #[.bool (qn q),x,y]) q
theorem c9.bH{w w':World}{q:Rat}{u:Value}(h:c9 w P b n z q u U)(s:w.S w'):c9 w' P b n z q u U:=
 have l:=aG _ _ h.c0
 ⟨(s.cell (a:=jj b n) l).trans h.c0,(s.cell (a:=jj b (n+1)) l).trans h.c1,(s.cell (a:=jj b (n+2)) l).trans h.c2,(s.cell (a:=jj b (n+3)) l).trans h.c3,h.R.bH s⟩
theorem ML.ter{L:Row}{t:Int×Rat}(h:ML KT w P a n m L)(f:L[c]?=some t):a=jp n m/\∃x y,c9 w P n (m+c*4) t.1 t.2 x y:=by
 obtain⟨e,b,⟨x,y,rfl,R⟩,d⟩:=h c t f;exact⟨e,x,y,d 0 _ rfl,d 1 _ rfl,d 2 _ rfl,d 3 _ rfl,R⟩
theorem ajL{r:Row}{t:Int×Rat}(h:r[n]?=some t):jz (r.take (n+1))=jz (r.take n)++[(t.1,-t.2)]:=by
 unfold jz;have a:=(bG.1 h).1;rw[kF a,eJ];have e:=(bG.1 h).2;rw[e];rfl
theorem uT{a:Option Addr}{n m c d:Nat}{P:Nat->Prop}(r:Row){w:World}(H:ML KT w P a n m r)(S:r.length=c)(hn:c<=1000000000):
 Cl 150 #[.slice a c d] w fun e o=>∃b k A,e=.returned (.s b c k)/\GL KT P o w.heap.size (.s b c k) (jz r) A/\w.S o:=by
 have sA:=cV w (.o #[] 169);have gA:GL KT P (w.alloc (.o #[] 169)) w.heap.size (.s w.heap.size 0 0) [] []:=GL.new KT _ w;have E:=aR S;clear S;go_enter func150,ntmps150;go_wp2;go_loopw [3,9] (fun ad q wr=>∃j:Nat,j<=c/\q=.i (j:Int)/\w.S wr/\∃b k A,ad=.s b j k/\GL KT P wr w.heap.size (.s b j k) (jz (r.take j)) A) (fun _ q _=>c-(intOf q).toNat)
 case atStart=>exact⟨0,aJ _,rfl,sA,w.heap.size,0,[],rfl,gA⟩
 case round=>
  obtain⟨j,hj,rfl,s,b,k,A,rfl,G⟩:=hrel;have lt:=G.lt;have zs:=s.size;by_cases ab:j<c
  . obtain⟨t,K⟩:∃t,r[j]?=some t:=⟨_,aK (by rw[E.out];exact ab)⟩;obtain⟨rfl,x1,y1,h⟩:=H.ter K;obtain⟨z,g⟩:=t;simp only at h;have ac:=aR (ajL K);have aa:=aR (show (jz (r.take j)).length=j by unfold jz;rw[bS,jR,E.out];omega);have F:=(h.R.imp (p':=fun q=>P q/\q<w.heap.size) (fun q I hp=>⟨hp,I⟩));obtain⟨i,x,Z,l,v,p,-,-,-,-,-,-,Q,-⟩:=id h.R;simp only[ag3,fM] at Q;obtain⟨rfl,rfl⟩:=Q;have B:=h.bH s;have d0:=B.c0;have d1:=B.c1;have d2:=B.c2;have d3:=B.c3;have hz:(j:Int)<c:=om;have y:=cV wr (.o #[.i z,.bool (qn g),.l i x Z,.l l v p] 169);have O:=fZ.new wr (.i z) (.bool (qn g)) (.l i x Z) (.l l v p) 169;have F:=F.blocks (w':=wr) (fun q I _=>(sM s zR).block q I);clear K h;go_wp2_with fail;generalize wr.alloc _=M at*;have C:=ue M;have bD:=O.bH C;have N:=(F.bH y).bH C;have U:=(G.bH KT.ok y).bH KT.ok C;have J:=pm N;obtain⟨ai,aj,ak,al⟩:=bD.g;have zW:=y.size;have lW:=O.lt;have zd:M.drew.heap.size=M.heap.size:=rfl
    go_region_held3 (fun o=>o.cell? (jj wr.heap.size 0)=some (.i z)/\o.cell? (jj wr.heap.size 1)=some (.bool (qn g))/\o.cell? (jj wr.heap.size 2)=some (.l i x Z)/\o.cell? (jj wr.heap.size 3)=some (.l l v p)) (go_keep)
     (first
       | (go_at_call 149;(with_reducible refine J.mono ?_);rintro e w5 ⟨rfl,f⟩;have X:=bD.bH f;obtain⟨k0,k1,k2,k3⟩:=X.g;have V:=U.bH KT.ok f;have W:=(N.bH f).flip;have z5:=f.size;have L:=cV w5 (.o #[.i z,.bool (qn (-g)),.l i x Z,.l l v p] 169))
       | (refine mr (m:=1) KT.ok (V.bH KT.ok L) aa.out (ML.one (p:=fun q=>P q/\q≠b) KT.ok (c:=[.i z,.bool (qn (-g)),.l i x Z,.l l v p]) (x:=(z,-g)) ⟨_,_,rfl,W.imp (fun af _ R=>⟨R.1,by have:=R.2;omega⟩)⟩ 169) rfl rfl _ _ rfl rfl rfl om ?_
          rintro Y k' o ⟨⟨ae,T⟩,u,ag,ah⟩;have D:wr.heap.size≠b:=om;have y0:=cK u k0 D;have y1:=cK u k1 D;have y2:=cK u k2 D;have y3:=cK u k3 D))
    all_goals go_wp2
    all_goals go_roundw
    case rel=>have zV:=L.size;exact⟨j+1,om,by go_num,eI (s.trans (sM (y.trans (sM (C.tr (f.trans (sM L f.size))) y.size)) s.size)) u lt.1 om,Y,k',ae,rfl,by rw[ac.out];exact T⟩
    case measure=>exact yI
  . have e:j=c:=om;subst e;have er:r.take j=r:=dV (by rw[E.out];exact aC _);rw[er] at G;go_wp2;go_ret;exact⟨b,k,A,rfl,G,s⟩
def EM(w:World)(p:Nat->Prop):List (Int×Value)->Row->Prop
 | [],[]=>True
 | t::E,m::M=>t.1=m.1/\(∃x y,t.2=.agg #[.bool (qn m.2),x,y])/\fJ w p t.2 m.2/\EM w p E M
 | _,_=>False
theorem EM.keys:∀ {E:List (Int×Value)} {M:Row},EM w P E M->E.map Prod.fst=M.map Prod.fst
 | [],[],_=>rfl
 | t::E,m::M,h=>by rw[dG,dG,h.1,EM.keys h.2.2.2]
 | [],_::_,h=>h.elim
 | _::_,[],h=>h.elim
theorem EM.imp{P p':Nat->Prop}:∀ {E:List (Int×Value)} {M:Row},EM w P E M->(∀q,q<w.heap.size->P q->p' q)->EM w p' E M
 | [],[],_,_=>trivial
 | _::_,_::_,h,hp=>⟨h.1,h.2.1,h.2.2.1.imp hp,EM.imp h.2.2.2 hp⟩
 | [],_::_,h,_=>h.elim
 | _::_,[],h,_=>h.elim
theorem EM.move{w w':World}:∀ {E:List (Int×Value)} {M:Row},EM w P E M->(∀q,q<w.heap.size->P q->w'.heap[q]?=w.heap[q]?)->EM w' P E M
 | [],[],_,_=>trivial
 | _::_,_::_,h,hp=>⟨h.1,h.2.1,h.2.2.1.blocks hp,EM.move h.2.2.2 hp⟩
 | [],_::_,h,_=>h.elim
 | _::_,[],h,_=>h.elim
theorem EM.bH{w w':World}{E:List (Int×Value)}{M:Row}(h:EM w P E M)(s:w.S w'):EM w' P E M:=h.move (fun q a _=>s.block q a)
theorem EM.look:∀ {E:List (Int×Value)} {M:Row},EM w P E M->(z∈M.map Prod.fst/\∃j x y,iN z E=some (j,.agg #[.bool (qn (eO M z)),x,y])/\fJ w P (.agg #[.bool (qn (eO M z)),x,y]) (eO M z))∨(z∉M.map Prod.fst/\iN z E=none/\eO M z=0)
 | [],[],_=>.inr ⟨qz,rfl,rfl⟩
 | t::E,m::M,h=>by
   obtain⟨f,⟨x,y,g⟩,i,k⟩:=h;rw[jc]
   by_cases e:m.1=z
   . rw[aY e]
     refine .inl ⟨by rw[dG,<-e];exact iQ ..,0,x,y, ?_, ?_⟩
     . unfold iN
       rw[aY (f.trans e),g]
     . rw[g] at i;exact i
   . rw[aM e]
     have d:¬t.1=z:=fun h=>e (f.symm.trans h)
     rcases EM.look k with ⟨a,j,l,n,b,c⟩ | ⟨a,b,c⟩
     . refine .inl ⟨by rw[dG];exact iA _ a,j+1,l,n, ?_,c⟩
       unfold iN;rw[aM d,b]
       rfl
     . refine .inr ⟨by rw[dG,fW];rintro (h | h);exact e h.symm;exact a h, ?_,c⟩
       unfold iN;rw[aM d,b]
       rfl
 | [],_::_,h=>h.elim
 | _::_,[],h=>h.elim
theorem EM.put{u:Value}:∀ {E:List (Int×Value)} {M:Row},EM w P E M->fJ w P (.agg #[.bool (qn (eO M z+Q)),u,U]) (eO M z+Q)->EM w P (qc z (.agg #[.bool (qn (eO M z+Q)),u,U]) E) (uO z Q M)
 | [],[],_,h=>by
   have e:eO [] z+Q=Q:=by show (0:Rat)+Q=Q;rw[jM]
   rw[e] at h⊢;exact⟨rfl,⟨u,U,rfl⟩,h,trivial⟩
 | t::E,m::M,h,hq=>by
   obtain⟨a,d,f,b⟩:=h
   by_cases e:m.1=z
   . rw[jc,aY e] at hq⊢
     rw[qc,aY (a.trans e),uO,aY e];exact⟨rfl,⟨u,U,rfl⟩,hq,b⟩
   . have c:¬t.1=z:=fun h=>e (a.symm.trans h)
     rw[jc,aM e] at hq⊢;rw[qc,aM c,uO,aM e];exact⟨a,d,f,EM.put b hq⟩
 | [],_::_,h,_=>h.elim
 | _::_,[],h,_=>h.elim
theorem ajO{f:Rat}{E r:Row}{t:Int×Rat}(h:r[n]?=some t):wR f E (r.take (n+1))=uO t.1 (f*t.2) (wR f E (r.take n)):=by
 have a:=(bG.1 h).1;rw[kF a,ajP,(bG.1 h).2]
theorem aj3{r:Row}{t:Int×Rat}(a:(r.map Prod.fst).Nodup)(h:r[n]?=some t):eO (r.take n) t.1=0:=by
 refine qo (fun c=> ?_);have b:t∈r.drop n:=by
  have:(r.drop n)[0]?=some t:=by rw[pM];exact h
  exact cO this
 rw[<-tI n r,eJ,List.nodup_append] at a;exact a.2.2 t.1 c t.1 (dT.2 ⟨t,b,rfl⟩) rfl
theorem ah4{r:Row}(a:(r.map Prod.fst).Nodup)(n:Nat):((r.take n).map Prod.fst).Nodup:=by
 rw[List.map_take];exact a.sublist (List.take_sublist _ _)
theorem aei:∀(m:Nat) (l:List Nat),l.Nodup->(∀x∈l,x<m)->l.length<=m
 | 0,l,_,h=>by
   cases l with
   | nil=>simp
   | cons x l=>exact absurd (h x (iQ ..)) om
 | m+1,l,nd,h=>by
   have c:=aei m (l.erase m) (nd.erase m) (fun x b=>by
    have a:=(nd.mem_erase_iff).1 b;have:=h x a.2;omega)
   have:=List.length_erase (a:=m) (l:=l)
   split at this<;>omega
theorem ic.len{r:Row}(h:ic n r):r.length<=n+1:=by
 have f:=aei (n+1) ((r.map Prod.fst).map fun z=>(z+1).toNat) (by
  rw[List.nodup_iff_pairwise_ne,List.pairwise_map];refine (List.nodup_iff_pairwise_ne.1 h.nd).imp_of_mem (fun {a b} ha hb hne e=>hne ?_);obtain⟨x,c,rfl⟩:=dT.1 ha;obtain⟨y,d,rfl⟩:=dT.1 hb;have:=h.lo x c;have:=h.lo y d;omega) (fun x c=>by
  obtain⟨z,g,rfl⟩:=dT.1 c;obtain⟨y,d,rfl⟩:=dT.1 g;have:=h.lo y d;omega)
 simpa using f
theorem ajH{E:Row}{a:List Int}(h:a[n]?=some z):uS E (a.take (n+1))=uS E (a.take n)++cL z [eO E z]:=by
 have b:=(bG.1 h).1;rw[kF b,ajI,(bG.1 h).2]
def MixR(m n:Nat)(b:Rat)(W:Nat->Rat)(X:Nat->Row)(P:Nat->Prop)(w:World)(e:Ending)(w':World):Prop:=
 ∃c k xs r,e=.returned (.slice (some ⟨c,0,none⟩) r.length k)/\GL KT (fun q=>P q∨w.heap.size<=q) w' w.heap.size (.slice (some ⟨c,0,none⟩) r.length k) r xs/\ic m r/\(∀h,ij h r=il b W (fun t=>ij h (X t)) n)/\(∀z:Int,-1<=z->z<m->eO r z=il (if z=-1 then b else 0) W (fun t=>eO (X t) z) n)/\w.Since w.heap.size w'
theorem cC{n m c:Nat}{Q:Rat}{u U:Value}{a:Option Addr}{d k i:Nat}{A:Option Addr}{j or l:Nat}{W:Nat->Rat}{X:Nat->Row}{P:Nat->Prop}{w:World}
 (fm:fJ w P (.agg #[.bool (qn Q),u,U]) Q)(HW:dQ w (fun _=>True) a d k m W)(HX:ML KR w (fun _=>True) A j or ((List.range c).map X))(hn:m<=c)(e4:c<=1000000)(hm:n<=999999)(ok:∀t,t<m->ic n (X t))(hl:∀t,t<m->(X t).length<=1000001)
 (qS:∀(z:Int) dr,-1<=z->z<n->dr<=m->Qb (il (if z=-1 then Q else 0) W (fun t=>eO (X t) z) dr) 1048640)(qW:∀t,t<m->Qb (W t) 1048640)(qX:∀t,t<m->∀x∈X t,Qb x.2 1048640):
 Calls Tryz.prog 147 #[.agg #[.bool (qn Q),u,U],.slice a m i,.slice A c l] w fun e r=>MixR n m Q W X P w e r:=by
 have e3:= @run_makeMap Tryz.prog;have aq:Tryz.prog.underlying 209=some (.map 3 83):=by kernel_rfl
 have hk:=underlying3;have ct:=Tryz.zeroValue83;obtain⟨a8,n8,Z,b8,m8,d8,-,-,-,-,-,-,e8,-⟩:=id fm;simp only[ag3,fM] at e8;obtain⟨rfl,rfl⟩:=e8;have K:=cV w (.o #[.bool (qn Q),.l a8 n8 Z,.l b8 m8 d8] 83);have bA:=cR.new w (.bool (qn Q)) (.l a8 n8 Z) (.l b8 m8 d8) 83;have zA:(w.alloc (.o #[.bool (qn Q),.l a8 n8 Z,.l b8 m8 d8] 83)).heap.size=w.heap.size+1:=by simp
 have az:=jm.made (w.alloc (.o #[.bool (qn Q),.l a8 n8 Z,.l b8 m8 d8] 83));rw[zA] at az;have s0:=(aF _ (w.alloc (.o #[.bool (qn Q),.l a8 n8 Z,.l b8 m8 d8] 83))).alloc zR (.map #[] 0);have b0:=bA.bH s0;have S0:=K.tr s0;obtain⟨w1,e1,a0,g1⟩:=az.put (P:=Tryz.prog) aq hk (z:=-1) qd (.agg #[.bool (qn Q),.l a8 n8 Z,.l b8 m8 d8]);have S1:=eI S0 g1 om (by have:=S0.size;omega);have B0:=b0.c0;have B1:=b0.c1;have B2:=b0.c2;go_enter func147,ntmps147;go_wp2;have bg:EM w1 (fun q=>(P q/\q<w.heap.size)∨w.heap.size+1<q) (qc (-1) (.agg #[.bool (qn Q),.l a8 n8 Z,.l b8 m8 d8]) []) (sg Q W X 0):=⟨rfl,⟨_,_,rfl⟩,((fm.imp (p':=fun q=>P q/\q<w.heap.size) (fun q L hp=>⟨hp,L⟩)).blocks (fun q L _=>S1.block q L)).imp (fun q _ L=>.inl L),trivial⟩;have fj:=S1.size;have cu:=a0.lt;clear B0 B1 B2 e1 az g1 b0 s0 K bA zA S0;generalize dl:w.heap.size+1=o at*;have ev:w.heap.size<o:=om;clear dl;have an:=aR ok;have c2:=aR qS;have c3:=aR qW;have c4:=aR qX;have c1:=aR hl;clear ok qS qW qX hl;go_loopw [22] (fun q wr=>∃b:Nat,b<=m/\q=.int .i64 b/\w.Since w.heap.size wr/\o<wr.heap.size/\∃E,jm wr o E/\EM wr (fun q=>(P q/\q<w.heap.size)∨o<q) E (sg Q W X b)) (fun q _=>m-(intOf q).toNat)
 case atStart=>exact⟨0,aJ _,rfl,S1,cu,_,a0,bg⟩
 clear bg a0 cu
 case round=>
  obtain⟨b,hi,rfl,ah,lb,E,MZ,ac⟩:=hrel;by_cases ag:b<m
  . obtain⟨rfl,xf,yf,CF⟩:=HW b ag;obtain⟨a6,n6,c6,b6,m6,d6,-,-,-,-,-,-,e6,-⟩:=id CF.R;simp only[ag3,fM] at e6;obtain⟨rfl,rfl⟩:=e6;have D1:=CF.bH ah;have d0:=D1.c0;have d1:=D1.c1;have d2:=D1.c2;have I:(b:Int)<m:=om;have sW:=cV wr (.o #[.bool (qn (W b)),.l a6 n6 c6,.l b6 m6 d6] 83);have bW:=cR.new wr (.bool (qn (W b))) (.l a6 n6 c6) (.l b6 m6 d6) 83;have RF:=(D1.R.read).bH sW;have JZ:=acb RF;have ea:=c3.out b ag;have de:=aR (show W b=0->sg Q W X (b+1)=sg Q W X b from fun e=>by rw[sg,aY e]);have di:=aR (show ¬W b=0->sg Q W X (b+1)=wR (W b) (sg Q W X b) (X b) from fun e=>by rw[sg,aM e]);generalize cg:W b=f at*;have en:=aR cg;clear cg;go_wp2_with fail;generalize wr.alloc _=wW at*;refine JZ.mono ?_;rintro e w3 ⟨rfl,s3⟩;have B3:=bW.bH s3;have zW:=sW.size;have z3:=s3.size;have lW:=bW.lt;have S3:=(ah.tr sW).trans (sM s3 (ah.tr sW).size);have M3:=(MZ.bH sW).bH s3;have av:=(ac.bH sW).bH s3;have R3:=RF.bH s3;by_cases D:f=0
    . have hd:=oW D;rw[hd];have HV:=aR D;clear D hd;go_wp2;go_roundw
      case rel=>exact⟨b+1,om,by go_num,S3,om,E,M3,by rw[de.out HV.out];exact av⟩
      case measure=>exact yI
    . have hd:=decide_eq_false D;rw[hd];have HV:=aR D;clear D hd;obtain⟨eX,_,⟨aX,bX,oX,kX,rfl,ez,-,MX⟩,dn⟩:=HX b (X b) (by rw[cY,fK (show b<c by omega)];rfl);subst eX;have cX:=dn 0 _ rfl;rw[show or+b*KR.sz+0=or+b by show or+b*1+0=_;omega] at cX;have ep:=(S3.cell (a:=⟨j,or+b,none⟩) (aG _ _ cX)).trans cX;have fd:(b:Int)<c:=om;have ba:=an.out b ag;have lX:=c1.out b ag;have eY:=aR (di.out HV.out);have ec:=aR (c4.out b ag);have d4:=aR (fun (z:Int) (h1:-1<=z) (h2:z<n)=>show Qb (eO (sg Q W X b) z) 1048640 by rw[aln (m:=n) (fun t ht=>an.out t om)];exact c2.out z b h1 h2 om);generalize ch:X b=bm at*;have eo:=aR ch;clear ch;generalize ce:sg Q W X b=O at*;have eh:=aR ce;clear ce MZ ac sW s3 JZ d0 d1 d2 D1 bW;generalize wr.heap.size=bf at*;generalize cl:bm.length=ln at*;have bj:=aR cl;clear cl;go_wp2;go_loopw [34] (fun q bb=>∃t:Nat,t<=ln/\q=.int .i64 t/\Gr (fun q=>q=o) w3 bb/\∃E,jm bb o E/\EM bb (fun q=>(P q/\q<w.heap.size)∨o<q) E (wR f O (bm.take t))) (fun q _=>ln-(intOf q).toNat)
      case atStart=>exact⟨0,aJ _,rfl,Gr.refl _ _,E,M3,av⟩
      clear M3 av;obtain⟨t,ht,rfl,g4,E4,bq,ax⟩:=hrel;generalize wr=c7 at*;have S4:=Gr.since S3 g4 (fun q L=>by omega) (by have:=S3.size;omega);have z4:=g4.size;by_cases dt:t<ln
      . obtain⟨tm,aa⟩:∃x,bm[t]?=some x:=⟨_,aK (by rw[bj.out];exact dt)⟩;obtain⟨dj,xt,yt,TC⟩:=MX.ter aa;subst dj;obtain⟨z,a7⟩:=tm;simp only at TC;have aj:=ba.lo (z,a7) (cO aa);simp only at aj;have ed:=ec.out (z,a7) (cO aa);obtain⟨a5,n5,c5,b5,m5,d5,-,-,-,-,-,-,e5,-⟩:=id TC.R;simp only[ag3,fM] at e5;obtain⟨rfl,rfl⟩:=e5;have T4:=TC.bH S4;have t0:=T4.c0;have t1:=T4.c1;have t2:=T4.c2;have t3:=T4.c3;have d3:(t:Int)<ln:=om;have dg:=aR (ajO (f:=f) (E:=O) aa);have eV:=aR (show eO (wR f O (bm.take t)) z=eO O z by rw[alm (ah4 ba.nd t),aj3 ba.nd aa,mS,jH]);have cq:(Lit.int .i64 z).wf=true:=by
         show (decide (IntKind.i64.min<=z)&&decide (z<=IntKind.i64.max))=true;rw[show IntKind.i64.min=-9223372036854775808 from rfl,show IntKind.i64.max=9223372036854775807 from rfl,oW om,oW om];rfl
        have cz:=aR cq;have em:=aR aa;clear cq aa;have N:=cV c7 (.o #[.int .i64 z,.bool (qn a7),.l a5 n5 c5,.l b5 m5 d5] 169);have bB:=fZ.new c7 (.int .i64 z) (.bool (qn a7)) (.l a5 n5 c5) (.l b5 m5 d5) 169;have bc:=B3.lV (g4.block _ B3.lt om);go_upto_region 9 with fail;generalize c7.alloc _=p at*;have a1:=bq.bH N;have ay:=ax.bH N;have b1:=T4.R.read.bH N;have LK:=a1.look (P:=Tryz.prog) aq hk (ct p) true (z:=z);have zB:=N.size;have lB:=bB.lt;have fi:=bB.c0;have bu:=(CF.R.read.bH S4).bH N;rcases ay.look (z:=z) with ⟨-,j7,x7,y7,af,fl⟩ | ⟨-,af,co⟩
        focus
         rw[af] at LK;simp only[jG,kJ,gI,Option.isSome_some] at LK;rw[eV.out] at LK fl;have qv:=d4.out z aj.1 aj.2;have a2:=aR (show eO (wR f O (bm.take t)) z=eO O z from eV.out);clear eV;generalize eO O z=v at*;obtain⟨s,C,y,Y,B,V,-,-,-,-,-,-,e7,-⟩:=id fl;simp only[ag3,fM] at e7;obtain⟨rfl,rfl⟩:=e7;go_wp2_with fail;have g:=cV p (.o #[.bool (qn v),.l s C y,.l Y B V] 83);have BT:=cR.new p (.bool (qn v)) (.l s C y) (.l Y B V) 83;generalize p.alloc _=G at*;have RT:=fl.read.bH g;have gT:=g4.trans (Gr.of (N.tr g)) (T':=fun _=>False) (fun _ _ h=>h.elim);have bZ:=bB.bH g;have bF:=(bc.bH N).bH g;have bs:=a1.bH g;have bh:=ay.bH g;have bz:=bu.bH g;have b2:=b1.bH g;have zT:=g.size;clear LK fl g
        rotate_left
        focus
         rw[af] at LK;simp only[jG,Option.map_none,Option.getD_none,Option.isSome_none] at LK;obtain⟨v,D⟩:∃v:Rat,v=0:=⟨0,rfl⟩;have a2:=aR (show eO (wR f O (bm.take t)) z=v by rw[D];exact co);have qv:Qb v 1048640:=(by rw[D];exact vJ (.inl rfl));have bp:=aR D;clear D co eV;have sC:=cV p (.o #[.bool false,.slice none 0 0,.slice none 0 0] 83);have bC:=cR.new p (.bool false) (.slice none 0 0) (.slice none 0 0) 83;go_wp2_with fail;generalize p.alloc _=wC at*;refine (@dC wC).mono ?_;rintro e T ⟨u6,rfl,fk,s6⟩;rw[<-bp.out] at fk;obtain⟨s,C,y,Y,B,V,-,-,-,-,-,-,e7,-⟩:=id fk;subst e7;have B6:=bC.bH s6;obtain⟨k0,k1,k2⟩:=B6.g;have kf:=B6.f;have zC:=sC.size;have z6:=s6.size;have lC:=bC.lt;have BT:=((B6.gH (.bool (qn v))).gM (.l s C y)).gZ (.l Y B V);have gS:Gr (fun q=>q=p.heap.size) T _:=((Gr.put (T:=fun q=>q=p.heap.size) (Gr.refl _ _) (.inl rfl) 0 (.bool (qn v))).put (.inl rfl) 1 (.l s C y)).put (.inl rfl) 2 (.l Y B V);have b3:=sC.tr s6;go_wp2_with fail;generalize ((T.setCell ⟨p.heap.size,0,none⟩ (.bool (qn v))).setCell ⟨p.heap.size,1,none⟩ (.l s C y)).setCell ⟨p.heap.size,2,none⟩ (.l Y B V)=G at*;have g:=Gr.since b3 gS (fun q L=>by omega) om;have RT:=(fk.blocks (w':=G) (fun q L hp=>gS.block q L om)).read;have gT:=g4.trans (Gr.of (N.tr g)) (T':=fun _=>False) (fun _ _ h=>h.elim);have bZ:=bB.bH g;have bF:=(bc.bH N).bH g;have bs:=a1.bH g;have bh:=ay.bH g;have bz:=bu.bH g;have b2:=b1.bH g;have zT:=g.size;clear LK fk g k0 k1 k2 kf B6 gS b3 s6 sC bC
        all_goals
         have H:=ue G;have ca:=bZ.bH H;have b4:=bF.bH H;have bd:=BT.bH H;have JP:=acl (K:=1048640) v f a7 _ _ _ G.drew (aJ _) trivial (RT.bH H) (bz.bH H) (b2.bH H) qv ea ed;obtain⟨j0,j1,j2,j3⟩:=ca.g;obtain⟨j4,j5,j6⟩:=b4.g;obtain⟨j7,j8,j9⟩:=bd.g;have ff:=bF.lt;have zd:G.drew.heap.size=G.heap.size:=rfl;have dy:=cz.out
         go_region_held3 (fun r=>r.cell? ⟨c7.heap.size,0,none⟩=some (.int .i64 z)/\r.cell? ⟨c7.heap.size,1,none⟩=some (.bool (qn a7))/\r.cell? ⟨c7.heap.size,2,none⟩=some (.l a5 n5 c5)/\r.cell? ⟨c7.heap.size,3,none⟩=some (.l b5 m5 d5)/\r.cell? ⟨bf,0,none⟩=some (.bool (qn f))/\r.cell? ⟨bf,1,none⟩=some (.l a6 n6 c6)/\r.cell? ⟨bf,2,none⟩=some (.l b6 m6 d6)/\r.cell? ⟨p.heap.size,0,none⟩=some (.bool (qn v))/\r.cell? ⟨p.heap.size,1,none⟩=some (.l s C y)/\r.cell? ⟨p.heap.size,2,none⟩=some (.l Y B V)) (go_keep)
          (first
            | (go_at_call 171
               (with_reducible refine JP.mono ?_);rintro e w5 ⟨u5,rfl,R5,F⟩;obtain⟨a9,n9,c9,b9,m9,d9,-,-,-,-,-,-,e9,-⟩:=id R5;subst e9;have dd:=ca.bH F;have dc:=b4.bH F;have cv:=bd.bH F;obtain⟨k0,k1,k2,k3⟩:=dd.g;obtain⟨k4,k5,k6⟩:=dc.g;obtain⟨k7,k8,k9⟩:=cv.g;obtain⟨T,fb,db,S⟩:=((bs.bH H).bH F).put (P:=Tryz.prog) aq hk dy (.agg #[.bool (qn (v+f*a7)),.l a9 n9 c9,.l b9 m9 d9]);have l0:=iv S k0 om;have l1:=iv S k1 om;have l2:=iv S k2 om;have l3:=iv S k3 om;have l4:=iv S k4 om;have l5:=iv S k5 om;have l6:=iv S k6 om;have l7:=iv S k7 om;have l8:=iv S k8 om;have l9:=iv S k9 om))
         all_goals go_wp2
         all_goals go_roundw
         case rel=>have cx:=(((bh.bH H).bH F).move (w':=T) (fun q L hp=>fw S L om));have fk:=((R5.imp (p':=fun q=>(P q/\q<w.heap.size)∨o<q) (fun q _ L=>.inr om)).blocks (w':=T) (fun q L hp=>fw S L om));rw[<-a2.out] at fk;have EP:=cx.put fk;rw[a2.out] at EP;exact⟨t+1,om,by go_num,(gT.trans (Gr.of (H.tr F)) (T':=fun _=>False) (fun _ _ h=>h.elim)).trans (Gr.gb S) (fun q _ h=>h),_,db,by rw[dg.out];exact EP⟩
         case measure=>exact yI
      . have et:t=ln:=om;subst et;have d3:¬(t:Int)<t:=om;have er:bm.take t=bm:=dV (by rw[bj.out];exact aC _);rw[er,<-eY.out] at ax;go_wp2;go_roundw
        case rel=>exact⟨b+1,om,by go_num,S4,om,E4,bq,ax⟩
        case measure=>exact yI
  . have ei:b=m:=om;subst ei;have fc:¬(b:Int)<b:=om;have ak:ic n (sg Q W X b):=am9 an.out;have eC:=aR (fun z=>aln (b:=Q) (w:=W) (X:=X) (k:=b) an.out z);have dh:=aR (fun h=>anO h Q W X b);generalize sg Q W X b=M at*;have kM:=ac.keys;have lM:E.length=M.length:=(by have:=congrArg List.length kM;simpa using this);have fe:M.length<=1000000:=(by have:=ak.len;omega);obtain⟨DD,cm,a3,dx⟩:=MZ.owns om;rw[kM] at a3;have K:=cV wr (.o #[] 169);have gA:GL KT (fun q=>(P q/\q<w.heap.size)∨o<q) (wr.alloc (.o #[] 169)) wr.heap.size (.l (some ⟨wr.heap.size,0,none⟩) 0 0) [] []:=GL.new KT _ wr;have cn:=cm.alloc (.o #[] 169);have MA:=MZ.bH K;have EA:=ac.bH K;have SA:=ah.tr K;have zA:=K.size;have bn:=aR cn;have bo:=aR a3;clear cm cn a3 HX HW;go_wp2_with fail;generalize wr.alloc _=wA at*;refine (@anQ (some o) wA).mono ?_;rintro e wk ⟨rfl,cc⟩;have JS:=akJ o _ DD _ wA bn.out (by unfold maxLen;omega) om;have sK:=cV wA (.o #[.map (some o)] 209);rw[<-cc] at JS sK;clear cc;go_wp2_with fail;refine JS.mono ?_;rintro e w5 ⟨v,b7,rfl,a4,au,dw,ae⟩;have F:wk.Since wk.heap.size w5:=⟨ae.os,ae.tape,ae.output,ae.size,ae.block⟩;have ck:(b7.mergeSort fun x ab=>decide (x<=ab)).Perm (M.map Prod.fst):=(List.mergeSort_perm _ _).trans (a4.trans bo.out);have ds:(b7.mergeSort fun x ab=>decide (x<=ab)).length=b7.length:=(List.mergeSort_perm _ _).length_eq;have fa:b7.length=M.length:=by have:=(a4.trans bo.out).length_eq;simpa using this
    obtain⟨ad,gg,ao,rfl,cj,ey⟩:∃ad gg ao,v=.l ad b7.length ao/\(∀R z,(b7.mergeSort fun x ab=>decide (x<=ab))[R]?=some z->ad=some ⟨gg,0,none⟩/\w5.cell? ⟨gg,R,none⟩=some (.int .i64 z))/\wk.heap.size<=gg:=by
     have ag:=au.lt;have dp:= @World.ownsRow.cells _ _ _ _ _ _ _ au;rcases au.2 with ⟨e1,e2⟩ | ⟨cd,ao,eq,e1,e2,-⟩
     . refine⟨none,wk.heap.size,0,by rw[e1,e2],fun R z I=> ?_,aC _⟩;have:=(bG.1 I).1;omega
     . subst e1;refine⟨_,cd,ao,rfl,fun R z I=>⟨rfl, ?_⟩,e2⟩;have:=dp (g:=cd) rfl R (.int .i64 z) (by rw[cY,I];rfl);rw[Go.WideShapes.add_plain] at this;rwa[aZ] at this
    generalize dq:(b7.mergeSort fun x ab=>decide (x<=ab))=ks at*;have cy:=aR cj;have am:=aR ck;have bi:=aR ds;generalize hN:b7.length=ai at*;clear dq cj ck au dw a4 ae JS;have zK:=sK.size;have z5:=F.size;have al:=sK.tr F;have S5:=SA.tr al;have M5:=MA.bH al;have E5:=((ac.imp (p':=fun q=>((P q/\q<w.heap.size)∨o<q)/\q<wr.heap.size) (fun q h1 h2=>⟨h2,h1⟩)).bH K).bH al;have g5:=gA.bH KT.ok al;have lA:=gA.lt;generalize dm:wr.heap.size=c0 at*;clear hN dm K EA MA ac MZ SA sK F al gA bn dx;go_wp2;go_loopw [14,63] (fun ef q T=>∃R:Nat,R<=ai/\q=.int .i64 R/\Gr (fun q=>q=c0) w5 T/\∃c8 dr xs d7,ef=.l (some ⟨c8,0,none⟩) d7 dr/\(uS M (ks.take R)).length=d7/\d7<=R/\(c8=c0∨w5.heap.size<=c8)/\GL KT (fun q=>(P q/\q<w.heap.size)∨o<q) T c0 (.l (some ⟨c8,0,none⟩) d7 dr) (uS M (ks.take R)) xs) (fun _ q _=>ai-(intOf q).toNat)
    case atStart=>exact⟨0,aJ _,rfl,Gr.refl _ _,c0,0,[],0,rfl,rfl,aC _,.inl rfl,g5⟩
    clear g5;obtain⟨R,hj,rfl,S,c8,dr,xs,d7,rfl,hL,es,ex,G6⟩:=hrel;generalize wr=T at*;have z6:=S.size;have fg:=G6.lt;have S6:w.Since w.heap.size T:=Gr.since S5 S (fun q L=>by have:=ah.size;omega) (by have:=S5.size;omega);have HL:=aR hL;clear hL;by_cases du:R<ai
    . obtain⟨z,I⟩:∃z,ks[R]?=some z:=⟨_,aK (by rw[bi.out];exact du)⟩;obtain⟨dk,ci⟩:=cy.out R z I;subst dk;have ew:=S.cell ci om;have cs:z∈M.map Prod.fst:=(am.out.mem_iff).1 (cO I);have aj:-1<=z/\z<n:=by
       obtain⟨x,hx,e⟩:=dT.1 cs;rw[<-e];exact ak.lo x hx
      have cb:=aR (ajH (E:=M) I);clear I ci;have M6:=M5.lV (S.block _ M5.lt om);have E6:=E5.move (w':=T) (fun q L hp=>S.block q L om);have LK:=M6.look (P:=Tryz.prog) aq hk (ct T) false (z:=z);rcases E6.look (z:=z) with ⟨-,j7,x7,y7,af,fl⟩ | ⟨h1,-⟩;rotate_left
      . exact absurd cs h1
      rw[af] at LK;simp only[gX,iO,kJ,gI] at LK;generalize cp:eO M z=v at*;obtain⟨s,C,y,Y,B,V,-,-,-,-,-,-,e7,-⟩:=id fl;simp only[ag3,fM] at e7;obtain⟨rfl,rfl⟩:=e7;have dz:(R:Int)<ai:=om;have sV:=cV T (.o #[.bool (qn v),.l s C y,.l Y B V] 83);have QV:dQ (T.alloc (.o #[.bool (qn v),.l s C y,.l Y B V] 83)) (fun q=>((P q/\q<w.heap.size)∨o<q)/\q<c0) (some ⟨T.heap.size,0,none⟩) T.heap.size 0 1 (fun _=>v):=(show ML KQ _ _ _ _ _ ((List.range 1).map fun _=>v) from ML.one KQ.ok (c:=[.bool (qn v),.l s C y,.l Y B V]) (x:=v) ⟨_,_,rfl,fl⟩ 83).fn;have JP:=@ti z (some ⟨T.heap.size,0,none⟩) T.heap.size 0 1 1 _ (fun _=>v) _ QV om aj.1 om;have bp:=aR cp;have lP:=dB z ((List.range 1).map fun _:Nat=>v);simp only[bS,cT] at lP;have df:=aR (show (List.range 1).map (fun _:Nat=>v)=[v] from rfl);rw[df.out] at JP lP;clear cp af QV E6 M6;generalize cf:cL z [v]=pl at*;have el:=aR cf;clear cf;go_wp2_with fail;generalize T.alloc _=wV at*;refine JP.mono ?_;rintro e w8 ⟨Z,k8,x8,rfl,G8,s8⟩;have zV:=sV.size;have z8:=s8.size;have fh:=G8.lt;have da:=(G8.ml KT.ok).imp KT.ok (p':=fun q=>((P q/\q<w.heap.size)∨o<q)/\q≠c8) (fun q _ L=>⟨L.1.1,by have:=L.1.2;omega⟩);have GR:=(G6.bH KT.ok sV).bH KT.ok s8;go_wp2_with (at_builtin;refine kv ?_);intro _;refine jg KT.ok GR HL.out da rfl rfl _ _ rfl rfl rfl om ?_;rintro c' k' r ⟨⟨eg,G'⟩,gr,eu,e0⟩;go_wp2;go_roundw
      case rel=>exact⟨R+1,om,by go_num,(S.trans (Gr.of (sV.tr s8)) (T':=fun _=>False) (fun _ _ h=>h.elim)).trans (Gr.gb gr) (fun q L e=>by omega),c',k',eg,d7+pl.length,rfl,by rw[cb.out,aT,HL.out],om,om,by rw[cb.out];exact G'⟩
      case measure=>exact yI
    . have ej:R=ai:=om;subst ej;have dz:¬(R:Int)<R:=om;have ek:ks.take R=ks:=dV (by rw[bi.out];exact aC _);rw[ek] at G6 HL;have hL:=HL.out;have ee:=aR (aiL ak am.out);have rV:=aR (fun h=>(fr h ak am.out).trans (dh.out h));have rC:=aR (fun (z:Int) (h1:-1<=z) (h2:z<n)=>(anG ak am.out z h1 h2).trans (eC.out z));have zs:=ah.size;have G9:=aR (show GL KT (fun q=>P q∨w.heap.size<=q) T w.heap.size (.l (some ⟨c8,0,none⟩) d7 dr) (uS M ks) xs from⟨(G6.imp KT.ok (P':=fun q=>P q∨w.heap.size<=q) (fun q _ L=>by rcases L with h | h;exact .inl h.1;exact .inr om)).own.mono om,(G6.imp KT.ok (P':=fun q=>P q∨w.heap.size<=q) (fun q _ L=>by rcases L with h | h;exact .inl h.1;exact .inr om)).at_⟩);have S9:=aR S6;clear G6 hL;go_wp2;go_ret;have hL:=HL.out;subst hL;exact⟨c8,dr,xs,uS M ks,rfl,G9.out,ee.out,rV.out,rC.out,S9.out⟩
theorem abQ{n:Nat}{a:Option Addr}{m c d:Nat}{A:Option Addr}{k i j:Nat}(B b:Row){l nb:Nat}{w:World}(HA:ML KT w (fun _=>True) a m c B)(HB:ML KT w (fun _=>True) A k i b)(ha:B.length=l)(hb:b.length=nb)(ak:l<=d)(lb:nb<=j)(hm:n<=999999)(ac:ic n B)(ad:ic n b)
 (qA:∀z,Qb (eO B z) 1048640)(af:∀z,Qb (eO B z+eO b z) 1048640)(tA:∀x∈B,Qb x.2 1048640)(tB:∀x∈b,Qb x.2 1048640):
 Cl 151 #[.slice a l d,.slice A nb j] w fun e w'=>∃Z D N r,e=.returned (.s Z r.length D)/\GL KT (fun q=>w.heap.size<=q) w' w.heap.size (.s Z r.length D) r N/\ic n r/\(∀h,ij h r=ij h B+ij h b)/\(∀z:Int,-1<=z->z<n->eO r z=eO B z+eO b z)/\w.S w':=by
 have al:=ac.len;have am:=ad.len;have O:=aR ha;have P:=aR hb;have ag:=aR qA;have ah:=aR af;have ai:=aR tA;have aj:=aR tB;clear ha hb qA af tA tB;go_enter func151,ntmps151;go_wp2_with fail;refine (dC).mono ?_;rintro e w1 ⟨u1,rfl,S,L⟩;go_wp2_with fail;refine (rt).mono ?_;rintro e w2 ⟨u2,rfl,T,F⟩;go_wp2_with fail;refine (rt).mono ?_;rintro e C ⟨u3,rfl,U,H⟩;obtain⟨a1,n1,c1,b1,m1,d1,-,-,-,-,-,-,e1,-⟩:=id S;subst e1;obtain⟨f,v,X,E,s,o,-,-,-,-,-,-,e2,-⟩:=id T;subst e2;obtain⟨g,y,Y,W,u,p,-,-,-,-,-,-,e3,-⟩:=id U;subst e3;have z1:=L.size;have z2:=F.size;have z3:=H.size;have S3:=(L.tr F).trans (sM H (L.tr F).size);have R:dQ (C.alloc (.o #[.bool (qn (1:Rat)),.l f v X,.l E s o,.bool (qn (1:Rat)),.l g y Y,.l W u p] 83)) (fun _=>True) (jp C.heap.size 0) C.heap.size 0 2 (fun _=>1):=(show ML KQ _ _ _ _ _ ((List.range 2).map fun _=>(1:Rat)) from ML.two KQ.ok (c:=[.bool (qn (1:Rat)),.l f v X,.l E s o]) (d:=[.bool (qn (1:Rat)),.l g y Y,.l W u p]) (x:=(1:Rat)) (y:=(1:Rat)) ⟨_,_,rfl,(T.bH H).imp (fun _ _ _=>trivial)⟩ ⟨_,_,rfl,U.imp (fun _ _ _=>trivial)⟩ 83).fn;have s4:=cV C (.o #[.bool (qn (1:Rat)),.l f v X,.l E s o,.bool (qn (1:Rat)),.l g y Y,.l W u p] 83);have z4:(C.alloc (.o #[.bool (qn (1:Rat)),.l f v X,.l E s o,.bool (qn (1:Rat)),.l g y Y,.l W u p] 83)).heap.size=C.heap.size+1:=by simp
 have I:=S3.tr s4;have Q:ML KR ((C.alloc (.o #[.bool (qn (1:Rat)),.l f v X,.l E s o,.bool (qn (1:Rat)),.l g y Y,.l W u p] 83)).alloc (.o #[.l a l d,.l A nb j] 163)) (fun _=>True) (jp (C.heap.size+1) 0) (C.heap.size+1) 0 ((List.range 2).map fun t=>if t=0 then B else b):=by have h:=ML.two KR.ok (w:=C.alloc (.o #[.bool (qn (1:Rat)),.l f v X,.l E s o,.bool (qn (1:Rat)),.l g y Y,.l W u p] 83)) (p:=fun _=>True) (c:=[.l a l d]) (d:=[.l A nb j]) (x:=B) (y:=b) ⟨a,m,c,d,by rw[O.out],by rw[O.out];exact ak,fun _=>trivial,HA.bH KT.ok I⟩ ⟨A,k,i,j,by rw[P.out],by rw[P.out];exact lb,fun _=>trivial,HB.bH KT.ok I⟩ 163;rw[z4] at h;exact h
 have M:=(aF _ (C.alloc (.o #[.bool (qn (1:Rat)),.l f v X,.l E s o,.bool (qn (1:Rat)),.l g y Y,.l W u p] 83))).alloc zR (.o #[.l a l d,.l A nb j] 163);have V:=I.tr M;have z5:=V.size;have p0:∀z:Int,(if z=-1 then (0:Rat) else 0)=0:=fun z=>by split<;>rfl
 have pA:∀z:Int,il 0 (fun _=>1) (fun t=>eO (if t=0 then B else b) z) 1=eO B z:=fun z=>by simp only[il,jG];rw[jM,kG]
 have ae:∀z:Int,il 0 (fun _=>1) (fun t=>eO (if t=0 then B else b) z) 2=eO B z+eO b z:=fun z=>by have:=pA z;rw[il,this];rw[aM qd,kG]
 have pV:∀h,il 0 (fun _=>1) (fun t=>ij h (if t=0 then B else b)) 2=ij h B+ij h b:=fun h=>by simp only[il,jG];rw[aM qd,jM,kG,kG]
 have J:=@cC n 2 2 0 _ _ (jp C.heap.size 0) C.heap.size 0 2 (jp (C.heap.size+1) 0) (C.heap.size+1) 0 2 (fun _=>1) (fun t=>if t=0 then B else b) (fun q=>w.heap.size<=q) _ ((((S.bH F).bH H).bH s4).bH M) (R.bH M) Q om om hm (fun t _=>by split;exact ac;exact ad) (fun t _=>by split<;>omega)
  (fun z D aa ab hk=>by
    rw[p0];rcases (show D=0∨D=1∨D=2 by omega) with rfl | rfl | rfl
    . exact vJ (.inl rfl)
    . rw[pA];exact ag.out z
    . rw[ae];exact ah.out z) (fun _ _=>vJ (.inr rfl)) (fun t _=>by split;exact ai.out;exact aj.out)
 have HJ:=aR J;clear J R Q;go_wp2_with fail;refine HJ.out.mono ?_;rintro e w6 ⟨Z,D,N,r,rfl,G,ok,hV,hC,s6⟩;have HV:=aR hV;have HC:=aR hC;clear hV hC;go_wp2;go_ret;refine⟨Z,D,N,r,rfl,⟨(G.imp KT.ok (P':=fun q=>w.heap.size<=q) (fun q _ K=>by rcases K with h | h;exact h;omega)).own.mono om,(G.imp KT.ok (P':=fun q=>w.heap.size<=q) (fun q _ K=>by rcases K with h | h;exact h;omega)).at_⟩,ok,fun h=>(HV.out h).trans (pV h),fun z aa ab=>(HC.out z aa ab).trans ?_,V.tr s6⟩;rw[p0];exact ae z
theorem aid{n:Nat}{w:World}(hn:n<=1000000):
 Cl 67 #[.i (n:Int)] w fun e A=>∃c k b,e=.returned (.s c n k)/\GL KR (fun q=>w.heap.size<=q) A w.heap.size (.s c n k) ((List.range n).map fun (e:Nat)=>cL (e:Int) [1]) b/\w.S A:=by
 have U:=cV w (.o #[] 163);have N:GL KR (fun q=>w.heap.size<=q) (w.alloc (.o #[] 163)) w.heap.size (.s w.heap.size 0 0) [] []:=GL.new KR _ w;go_enter func67,ntmps67;go_wp2;go_loopw [3,7] (fun u q wr=>∃j:Nat,j<=n/\q=.i (j:Int)/\w.S wr/\∃c k b,u=.s c j k/\GL KR (fun q=>w.heap.size<=q) wr w.heap.size (.s c j k) ((List.range j).map fun (e:Nat)=>cL (e:Int) [1]) b) (fun _ q _=>n-(intOf q).toNat)
 case atStart=>exact⟨0,aJ _,rfl,U,w.heap.size,0,[],rfl,N⟩
 case round=>
  obtain⟨j,Y,rfl,s,c,k,b,rfl,G⟩:=hrel;have T:=G.lt;have zs:=s.size;by_cases Z:j<n
  . have hz:(j:Int)<n:=om;go_wp2_with fail;refine (@rt wr).mono ?_;rintro e a ⟨u2,rfl,D,x⟩;obtain⟨h,t,l,i,r,o,-,-,-,-,-,-,M,-⟩:=id D;subst M;have y:=cV a (.o #[.bool (qn (1:Rat)),.l h t l,.l i r o] 83);have C:dQ (a.alloc (.o #[.bool (qn (1:Rat)),.l h t l,.l i r o] 83)) (fun g=>wr.heap.size<=g) (jp a.heap.size 0) a.heap.size 0 1 (fun _=>1):=(show ML KQ _ _ _ _ _ ((List.range 1).map fun _=>(1:Rat)) from ML.one KQ.ok (c:=[.bool (qn (1:Rat)),.l h t l,.l i r o]) (x:=(1:Rat)) ⟨_,_,rfl,D⟩ 83).fn;have B:=@ti (j:Int) (jp a.heap.size 0) a.heap.size 0 1 1 _ (fun _=>1) _ C om om om;rw[show (List.range 1).map (fun _:Nat=>(1:Rat))=[1] from rfl] at B;have R:=aR (ie (fun (e:Nat)=>cL (e:Int) [1]) j);generalize P:cL (j:Int) [1]=v at*;clear P C;go_wp2_with fail;generalize a.alloc _=wV at*;refine B.mono ?_;rintro e V ⟨m,p,x8,rfl,d,E⟩;have z2:=x.size;have zV:=y.size;have z8:=E.size;have ab:=d.lt;have L:=d.cap;have f:=(x.tr y).trans (sM E (x.tr y).size);have H:=G.bH KR.ok f;have I:=d.ml KT.ok;have z:=cV V (.o #[.s m v.length p] 163);have zX:=z.size;go_wp2_with (at_builtin;refine kv ?_);intro _;refine jg (m:=1) KR.ok (H.bH KR.ok z) qz (ML.one (p:=fun q=>w.heap.size<=q/\q≠c) KR.ok (c:=[.s m v.length p]) (x:=v) ⟨_,m,0,p,rfl,L,fun _=>⟨om,om⟩,I.imp KT.ok (fun q _ Q=>by have:=Q.1;exact⟨om,om⟩)⟩ 163) rfl rfl _ _ rfl rfl rfl om ?_;rintro K S A ⟨⟨W,F⟩,O,X,aa⟩;go_wp2;go_roundw
    case rel=>exact⟨j+1,om,by go_num,eI (s.tr (f.trans (sM z f.size))) O T.1 om,K,S,W,rfl,by rw[R.out];exact F⟩
    case measure=>exact yI
  . have e:j=n:=om;subst e;go_wp2;go_ret;exact⟨c,k,b,rfl,G,s⟩
def Apv{α:Type}(K:LK α)(P:Nat->Prop)(w:World)(base:Nat)(v:Value)(n:Nat)(L:List α)(g' cap':Nat)(w':World):Prop:=
 (∃xs',GL K P w' base (.slice (some ⟨g',0,none⟩) n cap') L xs')/\w.grownBy w' v.ownBlock/\(v.ownBlock=some g'∨g'=w.heap.size)/\g'<w'.heap.size
theorem afI{α:Type}{K:LK α}{u:Value}{L v:List α}{o:List Value}(b:K.Ok)(G:GL K P w n u L o)(A:L.length=d)(M:ML K w (fun q=>P q/\u.ownBlock≠some q) (jp m c) m c v)(z:v.length=k)(r:u≠ .n∨k≠0)(E:d+k<=1099511627776)(y:n<=w.heap.size)(i:Nat)(l:TypeId):
 ∃e f W,(Builtin.append_ #[K.S,K.S] l #[u,.slice (jp m c) k i]).run Tryz.prog w=.ok (.s e (d+k) f) W/\Apv K P w n u (d+k) (L++v) e f W:=by
 obtain⟨X,F,H,I,N⟩:=b.info;obtain⟨T,O,Q,R,S⟩:=M.row b;have hb:=b.b;subst A z
 obtain⟨V,W,B,g,Y,t,a⟩:=run_append_own_at (P:=Tryz.prog) w n K.S l K.T X K.z K.sz K.bt b.und F H I N b.zs b.pos u L.length o G.own (jj m c) v.length i T O (fun j Z C=>by rw[Go.WideShapes.add_plain];exact Q j Z C) R (by unfold maxLen;omega)
  (aU (dF E hb) qd) y
 have s:=g;obtain⟨-,⟨p,-⟩ | ⟨e,f,U,rfl,-⟩⟩:=s
 . have:=t.1 p;rcases r with h | h
   . exact absurd this.1 h
   . exact absurd this.2 h
 . refine⟨e,f,W,B,⟨_,G.app b Y g a (fun X x D=>S X x D)⟩,Y, ?_,(g.lt e rfl).2⟩;rcases a with a | a
   . exact .inl (by rw[<-a];rfl)
   . simp[Value.ownBlock] at a;exact Or.inr a
theorem ama{α:Type}{K:LK α}{u:Value}{L v:List α}{E:List Value}{g:Array Oper}{H:List Oper}{o:Oper}{a:Act}{Q:Exit->Act->World->Prop}(D:K.Ok)(G:GL K P w n u L E)(t:L.length=d)(M:ML K w (fun q=>P q/\u.ownBlock≠some q) (jp m c) m c v)(r:v.length=k)(j:u≠ .n∨k≠0)(C:d+k<=1099511627776)(l:n<=w.heap.size)(p:o.guard=none)(s x:Operand)(N:o.op=.call { callee:=.builtin .append,args:= #[s,x],argTypes:= #[K.S,K.S] })
 (z:a.eval s=u)(B:a.eval x=.l (jp m c) k i)
 (h:∀e b f,Apv K P w n u (d+k) (L++v) e b f->wpList Tryz.prog g Q H (a.put o.dst (.s e (d+k) b)) f):wpList Tryz.prog g Q (o::H) a w:=by
 refine wpList_plain p fun F I=> ?_;obtain⟨e,b,f,y,A⟩:=afI D G t M r j C l i o.type;unfold Oper.wp execOp;simp only[N,resolve,invoke,builtin,Sem.run_bind,Sem.run_pure,tG,tN,dG,kC,z,B,y];exact I _ _ (h e b f A)
theorem cv{α:Type}{K:LK α}{u:Value}{L v:List α}{D:List Value}{g:Array Oper}{o:Oper}{a:Act}{Q:Exit->Act->World->Prop}(C:K.Ok)(G:GL K P w c u L D)(p:L.length=n)(M:ML K w (fun q=>P q/\u.ownBlock≠some q) (jp d k) d k v)(l:v.length=m)(H:u≠ .n∨m≠0)(B:n+m<=1099511627776)(j:c<=w.heap.size){E:Prop}{F:Act->World->Prop}(I:o.guard=none)(s x:Operand)(r:o.op=.call { callee:=.builtin .append,args:= #[s,x],argTypes:= #[K.S,K.S] })
 (N:a.eval s=u)(z:a.eval x=.l (jp d k) m i)
 (h:∀e b f,Apv K P w c u (n+m) (L++v) e b f->F (a.put o.dst (.s e (n+m) b)) f):if Region.wanted o (yielded g a.tmps)=true then Oper.wp Tryz.prog o a w F Q else E:=by
 have y:Region.wanted o (yielded g a.tmps)=true:=by simp[Region.wanted,I]
 rw[aY y];obtain⟨e,b,f,t,A⟩:=afI C G p M l H B j i o.type;unfold Oper.wp execOp;simp only[r,resolve,invoke,builtin,Sem.run_bind,Sem.run_pure,tG,tN,dG,kC,N,z,t];exact h e b f A
theorem GL.none{α:Type}(K:LK α)(P:Nat->Prop)(w:World)(n:Nat):GL K P w n (.n) [] []:=⟨⟨qz,.inl ⟨rfl,rfl⟩⟩,fun i x a=>by simp at a⟩
theorem dQ.setAt{p:Nat->Rat}{u:Value}(h:dQ w (fun g=>g≠n/\P g) (jp n 0) n 0 m p)(M:aV w v n)(a:∀o,o<c*3∨c*3+2<o->v.cell? (jj n o)=w.cell? (jj n o))
 (L:fJ w (fun g=>g≠n/\P g) (.agg #[.bool (qn Q),u,U]) Q)(b:v.cell? (jj n (c*3))=some (.bool (qn Q)))(d:v.cell? (jj n (c*3+1))=some u)(f:v.cell? (jj n (c*3+2))=some U):
 dQ v (fun g=>g≠n/\P g) (jp n 0) n 0 m (fun j=>if j=c then Q else p j):=fun j k=>by
 refine⟨rfl, ?_⟩
 by_cases e:j=c
 . subst e
   simp only[jG];exact⟨u,U,by rw[aZ];exact b,by rw[aZ];exact d,by rw[aZ];exact f,L.marked M (fun h=>h.1 rfl)⟩
 . obtain⟨-,l,r,i⟩:=h j k
   simp only[aM e];exact⟨l,r,(a _ om).trans i.c0,(a _ om).trans i.c1,(a _ om).trans i.c2,i.R.marked M (fun h=>h.1 rfl)⟩
theorem ahb{n:Nat}{w:World}(S:n<=1048576):
 Cl 116 #[.i (n:Int)] w fun e a=>e=.returned (.s w.heap.size n n)/\rZ a w.heap.size (n*3)/\dQ a (fun g=>g≠w.heap.size/\w.heap.size<=g) (jp w.heap.size 0) w.heap.size 0 n (fun _=>0)/\w.S a:=by
 have R:=qy (P:=Tryz.prog) 32 83 _ 3 56 underlying32 ck .i64 .i64 n om om;have D:=cV w (.o (madeCells #[.bool false,.n,.n] (n*3)) 83);have C:=rZ.new w #[.bool false,.n,.n] (n*3) 83;go_enter func116,ntmps116;go_wp2;go_loopw [9] (fun i wr=>∃k:Nat,k<=n/\i=.i k/\w.S wr/\rZ wr w.heap.size (n*3)/\dQ wr (fun g=>g≠w.heap.size/\w.heap.size<=g) (jp w.heap.size 0) w.heap.size 0 k (fun _=>0)) (fun i _=>n-(intOf i).toNat)
 case atStart=>exact⟨0,aJ _,rfl,D,C,fun i y=>absurd y om⟩
 case round=>
  obtain⟨k,O,rfl,s,r,T⟩:=hrel;have zs:=s.size;have V:=r.lt;by_cases Q:k<n
  . have U:(k:Int)<n:=om;go_wp2_with fail;refine (dC).mono ?_;rintro e E ⟨X,rfl,f,c⟩;obtain⟨l,B,p,m,A,t,-,-,-,-,-,-,u,-⟩:=id f;subst u;have b:rZ E w.heap.size (n*3):=⟨aS r.lt c.size,fun o h=>by obtain⟨v,z⟩:=r.cell o h;exact⟨v,(c.cell (a:=jj w.heap.size o) r.lt).trans z⟩,fun o=>(c.frozen (a:=jj w.heap.size o) r.lt).trans (r.f o)⟩;obtain⟨Z,K⟩:=b.cell (k*3) om;obtain⟨q,L⟩:=b.cell (k*3+1) om;obtain⟨P,M⟩:=b.cell (k*3+2) om;have W:=b.f;obtain⟨Y,x,d,j,G,H,I,F⟩:=cr b (q:=k*3) om (.bool (qn (0:Rat))) (.l l B p) (.l m A t);go_wp2;rw[<-x];go_roundw
    case rel=>exact⟨k+1,om,by go_num,(s.tr c).trans (d.since zR),j,(T.bH c).putP d (fun o h=>F o om) (f.imp (fun g _ N=>⟨om,om⟩)) G H I⟩
    case measure=>exact yI
  . have e:k=n:=om;subst e;go_wp2;go_ret;exact⟨rfl,r,T,s⟩
theorem aix:
 Cl 118 #[.agg #[.i z,.i y,.slice a n m],.slice A c d] w fun e b=>e=.returned (.agg #[.i z,.i y,.slice a n m,.slice A c d])/\w.S b:=by
 have i:=cV w (.o #[.i z,.i y,.l a n m] 166);have h:=fZ.new (w.alloc (.o #[.i z,.i y,.l a n m] 166)) (.i z) (.i y) (.l a n m) (.l A c d) 58;have l:=i.alloc i.size (.o #[.i z,.i y,.l a n m,.l A c d] 58);rw[show (w.alloc (.o #[.i z,.i y,.l a n m] 166)).heap.size=w.heap.size+1 by simp] at h;have j:=aR h;have k:=aR l;go_enter func118,ntmps118;go_wp2;refine bO (qI rfl underlying58 rfl kr _ _ (w.heap.size+1) _ _ _ _ rfl j.out) rfl ?_;exact⟨rfl,k.out⟩
theorem alQ{n m:Nat}{c d:Nat}{a:Option Addr}{k i:Nat}{j or l o:Nat}{P:Nat->Prop}{L R:List Rat}{O:List Value}{w:World}(B:cR w n (.i (c:Int)) (.i (d:Int)) (.l a k i))(G:GL KQ P w m (.l a k i) L O)(p:L.length=k)(M:ML KQ w (fun q=>P q/\(Value.slice a k i).ownBlock≠some q) (jp j or) j or R)(N:R.length=l)(Z:1<=l)(hz:k+l<=1000000000000)(hb:m<=w.heap.size)(hj:c<=1000000000)(I:¬P n)(u:(Value.slice a k i).ownBlock≠some n)(K:n<w.heap.size):
 Cl 117 #[.p n 0,.slice (jp j or) l o] w fun e C=>e=.returned (.tuple #[])/\∃b f s,cR C n (.i ((c+1:Nat):Int)) (.i (d:Int)) (.s b (k+l) f)/\GL KQ P C m (.s b (k+l) f) (L++R) s/\((Value.slice a k i).ownBlock=some b∨w.heap.size<=b)/\Gr (fun q=>q=n∨(Value.slice a k i).ownBlock=some q) w C:=by
 obtain⟨Q,S,U⟩:=B.g;go_enter func117,ntmps117;go_wp2_with (at_builtin;refine kv ?_);intro _;refine ama KQ.ok G p M N (.inr om) om hb rfl _ _ rfl rfl rfl ?_;rintro b f C ⟨⟨s,x⟩,g,t,aa⟩;have E:=B.lV (g.block n K (fun e=>u e.symm));have V:=E.c2;have Y:=E.f 2;have T:=E.gZ (.s b (k+l) f);have W:=T.c0;have X:=T.f 0;have v:=T.gH (.i ((c:Int)+1));have F:=(((show Gr (fun q=>q=n∨(Value.slice a k i).ownBlock=some q) w C from⟨g.os,g.tape,g.output,g.size,fun q r p=>g.block q r (fun e=>p (.inr e.symm))⟩).put (.inl (.inl rfl)) 2 (.s b (k+l) f)).put (.inl (.inl rfl)) 0 (.i ((c:Int)+1)));have y:=x.gr KQ.ok (T:=fun q=>q=n) ((Gr.put (T:=fun q=>q=n) (Gr.refl _ _) (.inl rfl) 2 (.s b (k+l) f)).put (.inl rfl) 0 (.i ((c:Int)+1))) (fun ab hb=>by
  simp[Value.ownBlock] at hb;subst hb;rcases t with h | h
  . exact fun e=>u (by rw[h,e])
  . omega) (fun q _ r e=>I (e▸r))
 have z:=aR v;have A:=aR y;have D:=aR F;have H:=aR (show (Value.slice a k i).ownBlock=some b∨w.heap.size<=b by rcases t with h | h;exact .inl h;exact .inr om);go_wp2;go_end0;exact⟨rfl,b,f,s,z.out,A.out,H.out,D.out⟩
def wI(op a b:Int):List Int:=if op=4 then [a,b] else [a]
theorem abS{b k s:Int}{u:Value}:
 Cl 60 #[.agg #[.i z,.i y,.i b,.i k,.i s,u]] w fun e a=>∃c n,e=.returned (.s c n n)/\w.heap.size<=c/\(wI z y b).length=n/\ML KI a (fun _=>True) (jp c 0) c 0 (wI z y b)/\w.S a:=by
 have g:=cV w (.o #[.i z,.i y,.i b,.i k,.i s,u] 87);have j:(w.alloc (.o #[.i z,.i y,.i b,.i k,.i s,u] 87)).heap.size=w.heap.size+1:=by simp
 by_cases h:z=4
 . have i:=g.alloc g.size (.o #[.i y,.i b] 3);have m:=ML.two (K:=KI) (w:=w.alloc (.o #[.i z,.i y,.i b,.i k,.i s,u] 87)) (p:=fun _=>True) KI.ok (c:=[.i y]) (d:=[.i b]) (x:=y) (y:=b) rfl rfl 3;rw[j] at m;have l:=aR m;have o:=aR i;clear m i g j;subst h;go_enter func60,ntmps60;go_wp2;go_ret;exact⟨w.heap.size+1,2,rfl,oI _,rfl,l.out,o.out⟩
 . have i:=g.alloc g.size (.o #[.i y] 3);have m:=ML.one (K:=KI) (w:=w.alloc (.o #[.i z,.i y,.i b,.i k,.i s,u] 87)) (p:=fun _=>True) KI.ok (c:=[.i y]) (x:=y) rfl 3;rw[j] at m;have l:=aR m;have o:=aR i;clear m i g j;go_enter func60,ntmps60;go_wp2;go_ret;unfold wI;rw[aM h];exact⟨w.heap.size+1,1,rfl,oI _,rfl,l.out,o.out⟩
def owL(op:Int)(k dim:Nat):List Nat:=
 if op=2 then [dim] else if op=3 then [2*dim] else if op=5 then (ig k).map fun c=>dim/k*(c/2*3+c % 2*2) else []
def aox(L:List Int)(w:World)(e:Ending)(w':World):Prop:=
 ∃a b n k,e=.returned (.slice a n k)/\L.length=n/\ML KI w' (fun _=>True) a b 0 L/\w.Since w.heap.size w'
theorem afU{z y b s:Int}{n m:Nat}{u:Value}{w:World}(r:z=5->1<=n/\n<=1000)(hd:m<=1000):
 Calls Tryz.prog 64 #[.agg #[.int .i64 z,.int .i64 y,.int .i64 b,.int .i64 (n:Int),.int .i64 s,u],.int .i64 (m:Int)] w (aox ((owL z n m).map fun af:Nat=>(af:Int)) w):=by
 have g:=cV w (.cells #[.int .i64 z,.int .i64 y,.int .i64 b,.int .i64 n,.int .i64 s,u] 87);have i:(w.alloc (.cells #[.int .i64 z,.int .i64 y,.int .i64 b,.int .i64 n,.int .i64 s,u] 87)).heap.size=w.heap.size+1:=by simp
 have U:∀d:Int,∃a:ML KI ((w.alloc (.cells #[.int .i64 z,.int .i64 y,.int .i64 b,.int .i64 n,.int .i64 s,u] 87)).alloc (.cells #[.int .i64 d] 3)) (fun _=>True) (some ⟨w.heap.size+1,0,none⟩) (w.heap.size+1) 0 [d],w.Since w.heap.size ((w.alloc (.cells #[.int .i64 z,.int .i64 y,.int .i64 b,.int .i64 n,.int .i64 s,u] 87)).alloc (.cells #[.int .i64 d] 3)):=fun d=>by have a:=ML.one (K:=KI) (w:=w.alloc (.cells #[.int .i64 z,.int .i64 y,.int .i64 b,.int .i64 n,.int .i64 s,u] 87)) (p:=fun _=>True) KI.ok (c:=[.int .i64 d]) (x:=d) rfl 3;rw[i] at a;exact⟨a,g.alloc g.size _⟩
 have L:=aR U;clear U;by_cases o:z=2
 . have A:=aR g;clear g i r;subst o;go_enter func64,ntmps64;go_wp2;go_ret;obtain⟨a,l⟩:=L.out m;exact⟨_,w.heap.size+1,1,1,rfl,rfl,a,l⟩
 by_cases B:z=3
 . have A:=aR g;clear g i r o;subst B;go_enter func64,ntmps64;go_wp2;go_ret;obtain⟨a,l⟩:=L.out ((2*m:Nat):Int);have eq:IntKind.i64.wrap (2*(m:Int))=((2*m:Nat):Int):=(by rw[fO om om];omega);first | exact⟨_,w.heap.size+1,1,1,rfl,rfl,a,l⟩ | (rw[eq];exact⟨_,w.heap.size+1,1,1,rfl,rfl,a,l⟩) | (rw[dR] at a l;exact⟨_,w.heap.size+1,1,1,rfl,rfl,a,l⟩)
 by_cases P:z=5
 . clear o B;subst P;obtain⟨k1,k2⟩:=r rfl;have sB:=g.alloc g.size (.cells #[] 3);have M:=GL.new KI (fun _=>True) (w.alloc (.cells #[.int .i64 5,.int .i64 y,.int .i64 b,.int .i64 n,.int .i64 s,u] 87));have bx:dL (w.alloc (.cells #[.int .i64 5,.int .i64 y,.int .i64 b,.int .i64 n,.int .i64 s,u] 87)) w.heap.size (.int .i64 5) (.int .i64 y) (.int .i64 b) (.int .i64 n) (.int .i64 s) u:=dL.new w _ _ _ _ _ _ _;obtain⟨D,f⟩:∃D,D=m/n:=⟨_,rfl⟩;have ab:D<=1000:=(by rw[f];exact aU (iV _ _) hd);have hq:Int.tdiv (m:Int) (n:Int)=D:=(by rw[f];rfl);have C:owL 5 n m=(ig n).map fun c=>D*(c/2*3+c % 2*2):=by rw[f];rfl
   rw[C];have am:=ade n;have HD:=aR f;have ah:=aR C;clear f C;have al:¬(n:Int)=0:=om;rw[i] at M;have bB:=dL.lV bx ((aF _ (w.alloc (.cells #[.int .i64 5,.int .i64 y,.int .i64 b,.int .i64 n,.int .i64 s,u] 87))).alloc zR (.cells #[] 3) |>.block w.heap.size (by rw[i];omega));go_enter func64,ntmps64;go_wp2;go_loopw [5,6] (fun ae q wr=>∃c:Nat,c<=n/\q=.int .i64 c/\w.Since w.heap.size wr/\dL wr w.heap.size (.int .i64 5) (.int .i64 y) (.int .i64 b) (.int .i64 n) (.int .i64 s) u/\∃h t V N j,ae=.slice (some ⟨h,0,none⟩) N t/\j.length=N/\j++ig c=ig n/\GL KI (fun _=>True) wr (w.heap.size+1) (.slice (some ⟨h,0,none⟩) N t) (j.map fun c=>((D*(c/2*3+c % 2*2):Nat):Int)) V) (fun _ q _=>(intOf q).toNat)
   case atStart=>exact⟨n,aC _,rfl,sB,bB,w.heap.size+1,0,[],0,[],rfl,rfl,rfl,M⟩
   case round=>
    obtain⟨c,hc,rfl,x,H,h,t,V,N,j,rfl,Q,E,G⟩:=hrel;have lt:=G.lt;have zs:=x.size;have K:=aR E;have ai:N<=1000:=(by have:=congrArg List.length E;rw[aT] at this;omega);have v:=aR Q;clear E Q;have b3:=H.c3;by_cases T:1<c
    . have ad:(c:Int)>1:=om;have J:=@xm c;obtain⟨F,hF⟩:∃F,F=c/2*3+c % 2*2:=⟨_,rfl⟩;have ac:F<=3000:=om;obtain⟨Z,p⟩:∃Z,Z=D*F:=⟨_,rfl⟩;have aj:Z<=3000000:=(by rw[p];exact aU (dF ab ac) qd);have S:IntKind.i64.wrap ((D:Int)*((c:Int)/2*3+(c:Int) % 2*2))=(Z:Int):=(by rw[show ((c:Int)/2*3+(c:Int) % 2*2)=(F:Int) by omega,<-dR,<-p];exact fO om om);have R:wrap64 ((D:Int)*((c:Int)/2*3+(c:Int) % 2*2))=(Z:Int):=(by rw[<-IntWalk.i64_left];exact S);clear S;have ao:=aR R;clear R;have k:=cV wr (.cells #[.int .i64 Z] 3);have X:=aR hF;have Y:=aR p;clear hF p;go_wp2_with (at_builtin;refine kv ?_);intro _;rw[ao.out];refine jg (m:=1) KI.ok (G.bH KI.ok k) (by rw[bS];exact v.out) (ML.one (p:=fun q=>True/\q≠h) KI.ok (c:=[.int .i64 Z]) (x:=(Z:Int)) rfl 3) rfl rfl _ _ rfl rfl rfl om ?_;rintro c' k' w' ⟨⟨ag,I⟩,O,ak,an⟩;have z3:=k.size;have s4:=eI (x.trans (sM k x.size)) O om om;have W:dL w' w.heap.size (.int .i64 5) (.int .i64 y) (.int .i64 b) (.int .i64 n) (.int .i64 s) u:=(H.lV (k.block _ om)).lV (O.block _ om (by simp;omega));go_wp2_with fail;refine (xm om).mono ?_;rintro e w5 ⟨rfl,rfl⟩;go_wp2;go_roundw
      case rel=>refine⟨c/2+c % 2,om,by go_num,s4,W,c',k',ag,N+1,j++[c],rfl,by rw[aT,v.out];rfl,by rw[dZ,<-K.out,tv T];rfl, ?_⟩;rw[eJ];rw[Y.out,X.out] at I;exact I
      case measure=>exact yI
    . have ad:¬(c:Int)>1:=om;have aa:=G.ml KI.ok;have e:j=ig n:=(by have:=K.out;rwa[sH T,iJ] at this);go_wp2;go_ret;refine⟨some ⟨h,0,none⟩,h,N,t,rfl,by rw[bS,<-e];exact v.out, ?_,x⟩;rw[<-e];exact aa.imp KI.ok (fun _ _ _=>trivial)
 . have A:=aR g;clear g i r;go_enter func64,ntmps64;go_wp2;go_ret;unfold owL;rw[aM o,aM B,aM P];exact⟨none,0,0,0,rfl,rfl,ML.nil _ _ _ _ _,A.out⟩
theorem y9(G:be){a:Nat}(h:a<=b):∃r,jv G b=jv G a++r:=by
 induction b with
 | zero=>exact⟨[],by rw[Nat.le_zero.1 h,iJ]⟩
 | succ b ih=>
   by_cases e:a=b+1
   . exact⟨[],by rw[e,iJ]⟩
   . obtain⟨r,d⟩:=ih om;rw[mt,d];by_cases c:fo G (b+1)=true
     . rw[aY c,dZ];exact⟨_,rfl⟩
     . rw[aM c];exact⟨r,rfl⟩
theorem uJ(h:¬fo G (i+1)=true):dH G (i+1)=dH G i:=by
 show dH G i++fQ G i=_;unfold fQ;rw[aM h,iJ]
theorem acS{g:be}:∀(d:Nat) {i:Nat},n-i=d->i<=n->(jv g i).length<(jv g n).length->∃c,i<=c/\c<n/\fo g (c+1)=true/\jv g c=jv g i/\dH g c=dH g i/\(jv g n)[(jv g i).length]?=some ((c+1:Nat):Int):=by
 intro d
 induction d with
 | zero=>intro i j k h;rw[show i=n by omega] at h;omega
 | succ d ih=>
   intro i j k h;by_cases f:fo g (i+1)=true
   . obtain⟨r,s⟩:=y9 g (a:=i+1) (b:=n) om;refine⟨i,aC _,om,f,rfl,rfl, ?_⟩;rw[s,mt,aY f,dZ,bK zR,uD];rfl
   . have e:jv g (i+1)=jv g i:=(by rw[mt,aM f]);obtain⟨c,t,l,m,o,p,q⟩:=ih (i:=i+1) om om (by rw[e];exact h);exact⟨c,om,l,m,o.trans e,p.trans (uJ f),by rw[<-e];exact q⟩
theorem ajM{g:be}:∀(d:Nat) {i:Nat},n-i=d->i<=n->(jv g i).length=(jv g n).length->dH g n=dH g i:=by
 intro d
 induction d with
 | zero=>intro i h j _;rw[show i=n by omega]
 | succ d ih=>
   intro i h j f;have c:¬fo g (i+1)=true:=fun c=>by obtain⟨r,k⟩:=y9 g (a:=i+1) (b:=n) om;rw[k,mt,aY c,aT,aT] at f;simp at f;omega
   have e:jv g (i+1)=jv g i:=(by rw[mt,aM c]);exact (ih (i:=i+1) om om (by rw[e];exact f)).trans (uJ c)
theorem ajz(E:iy G):dH G G.out.toNat=bP G:=by
 unfold bP;have b:∀d,G.out.toNat+d<=G.nn->dH G (G.out.toNat+d)=dH G G.out.toNat:=by
  intro d
  induction d with
  | zero=>intro _;rfl
  | succ d ih=>intro h;exact (uJ (i:=G.out.toNat+d) (fun a=>by have:G.out.toNat+d+1<=G.out.toNat:=tu E a;omega)).trans (ih om)
 have e:=E.o1;have c:=E.o0;have:=b (G.nn-G.out.toNat) om;rw[show G.out.toNat+(G.nn-G.out.toNat)=G.nn by omega] at this;exact this.symm
theorem vF(G:be){a:Nat}(h:a<=b):∃r,dH G b=dH G a++r:=by
 induction b with
 | zero=>exact⟨[],by rw[Nat.le_zero.1 h,iJ]⟩
 | succ b ih=>
   by_cases e:a=b+1
   . exact⟨[],by rw[e,iJ]⟩
   . obtain⟨r,c⟩:=ih om;exact⟨r++fQ G b,by show dH G b++fQ G b=_;rw[c,dZ]⟩
theorem aeh(E:iy G)(k:n<G.nn)(l:fo G (n+1)=true):
 owL (G.N n).op (G.N n).k.toNat (vD G (G.N n).a.toNat)=(fQ G n).map fun s=>si G s.1 s.2:=by
 have N:=E.nd k;unfold owL fQ;rw[aY l];by_cases a:(G.N n).op=2
 . rw[aY a,aY (.inl a)];simp[si,a]
 by_cases b:(G.N n).op=3
 . rw[aM a,aY b,aY (.inr b)];simp[si,b]
 have f:¬((G.N n).op=2∨(G.N n).op=3):=fun h=>by rcases h with h | h;exact a h;exact b h
 by_cases d:(G.N n).op=5
 . simp only[aM a,aM b,aM f,aY d,sU];refine fG fun c _=> ?_;have j:vD G (G.N n).a.toNat/(G.N n).k.toNat=vD G (n+1):=by
    obtain⟨m,e⟩:=N.sh.c5 d;rw[e];exact Nat.mul_div_cancel _ om
   simp only[Function.comp,si,cF,a,b,iO];rw[j,cJ 3,cJ 2]
 . simp only[aM a,aM b,aM f,aM d,kC]
theorem aml(E:iy G){x:Nat}(k:n<G.nn)(e:fo G (n+1)=true)(f:(owL (G.N n).op (G.N n).k.toNat (vD G (G.N n).a.toNat))[j]?=some x):
 (eS G).getD ((dH G n).length+j+1) 0=ga G (n+1) (n+1)+x/\(dH G n).length+j<(bP G).length:=by
 rw[aeh E k e,cY] at f;obtain⟨s,d,rfl⟩:=eE.1 f;have l:=(bG.1 d).1;obtain⟨r,m⟩:=vF G (a:=n+1) (b:=G.nn) om;have hl:(bP G)[(dH G n).length+j]?=some s:=by unfold bP;rw[m,show dH G (n+1)=dH G n++fQ G n from rfl,dZ,bK om,show (dH G n).length+j-(dH G n).length=j by omega,bJ l];exact d
 refine⟨?_,(bG.1 hl).1⟩;rw[kx hl];have h:s.1=n+1:=by
  have:=cO d;unfold fQ at this;rw[aY e] at this;split at this
  . simp at this;rw[this]
  . split at this
    . obtain⟨c,-,rfl⟩:=dT.1 this;rfl
    . cases this
 unfold mD;rw[h]
theorem amx(E:iy G)(a:n<G.nn)(b:fo G (n+1)=true):
 (dH G (n+1)).length=(dH G n).length+(owL (G.N n).op (G.N n).k.toNat (vD G (G.N n).a.toNat)).length:=by
 rw[aeh E a b,bS,show dH G (n+1)=dH G n++fQ G n from rfl,aT]
theorem acW(G:be):(eS G).getD ((bP G).length+1) 0=vD G G.out.toNat:=by
 unfold eS;rw[List.getD_cons_succ,List.getD,bK qz,bS,uD];rfl
theorem NdP.k0(N:NdP G n):0<=(G.N n).k/\(G.N n).k<=1000:=by
 have:=N.sh.f.k;unfold wg at this;split at this<;>omega
theorem dX(E:iy G)(n:Nat):(eS G).getD n 0<=2100000:=by
 rw[List.getD];cases h:(eS G)[n]? with
 | none=>exact aJ _
 | some x=>exact ep E x (cO h)
theorem afD(E:iy G)(e:n<=(bP G).length+1):mu (eS G) n<=4500000000000000000:=by
 have a:=afE (ep E) n;have b:=vH E (aC G.nn);have d:=E.head.n;have c:n<=1000001:=by have:(bP G).length<=1000*G.nn:=b;omega
 exact aU a (aU (aP _ c) qd)
theorem ale(u U c d e f:Value)(w:World):(Instr.field 87 (.agg #[u,U,c,d,e,f]) 1).run Tryz.prog w=.ok U w:=by kernel_rfl
theorem aej(G:be)(n:Nat):(jv G n).length<=n:=by
 unfold jv;rw[bS];exact aU (qJ _ _) (by rw[cT];exact aC _)
def lwT(g:be)(t:Nat):Nat:=(eS g).getD t 0
def szT(g:be)(t:Nat):Nat:=mu (eS g) t
theorem amR{bl:Nat}{g:be}(E:iy g){lo:Nat}{aL aH aN:Option Addr}{kL kH kN K kd bu ku:Nat}{wd:Int}{vk vm:Value}(L:Low w bl g lo aL aH aN kL kH kN K kd bu ku wd vk vm):
 Cl 28 #[.p bl 0] w fun e o=>e=.returned (.i (jw g:Int))/\w.S o:=by
 have b2:=E.head.n;have o0:=E.o0;have o1:=E.o1;have i1:=E.head.i1;have i2:=E.head.i2;obtain⟨a,am⟩:∃n:Nat,g.out=n:=⟨g.out.toNat,om⟩;obtain⟨ar,ah⟩:∃n:Nat,g.inn=n:=⟨g.inn.toNat,om⟩;have ho:a<=g.nn:=om;have ao:lwT g 0=ar:=by show g.inn.toNat=ar;omega
 have b:=aR E;have HO:=aR am;have a6:=aR ao;have c0:=L.B.c0;rw[ah] at c0;have ba:=c0;have X:=agh E (L.bH ((aF w.heap.size w).drew));have ab:=ajz E;rw[show g.out.toNat=a by omega] at X ab;have HA:=aR ab;clear am ah E ao o0 o1 ab;go_enter func28,ntmps28;go_wp2_with fail;go_region;all_goals go_wp2_with fail
 refine X.mono ?_;rintro e w1 ⟨cc,kc,xc,rfl,GC,s1⟩;have sx:w.S w1:=((aF w.heap.size w).drew).trans s1;have MC:=GC.ml KI.ok;clear X s1 c0 ba GC;have b1:=aej g a;generalize hn:(jv g a).length=n at*;have HN:=aR hn;clear hn;have L1:=L.bH sx;have HS:=aR sx;clear sx L;go_wp2;go_loopw [3,4,18] (fun u af q wr=>∃r i:Nat,r<=n/\i<=a/\(jv g i).length=r/\q=.i (r:Int)/\w1.S wr/\u=.i (szT g (dH g i).length:Int)/\af=.i (lwT g (dH g i).length:Int)) (fun _ _ q _=>n-(intOf q).toNat)
 case atStart=>exact⟨0,0,aJ _,aJ _,rfl,rfl,aF _ _,rfl,by rw[show (dH g 0).length=0 from rfl,a6.out]⟩
 case round=>
  obtain⟨r,i0,hr,ag,B,rfl,V,rfl,rfl⟩:=hrel;have c:=L1.bH V;have Mr:=MC.bH KI.ok V;by_cases bz:r<n
  . obtain⟨i,M,N,s,h4,h5,h6⟩:=acS (g:=g) (n:=a) _ rfl ag (by rw[HN.out];omega);rw[<-h5];have an:(jv g i).length=r:=(by rw[h4];exact B);rw[B] at h6;have P:i<g.nn:=om;have y:=b.out.nd P;obtain⟨k0,S⟩:=y.k0;have a0:=y.a0;have ai:=y.ai;have h:=amx b.out P s;have R:=fun j x=>aml (j:=j) (x:=x) b.out P s;have c1:=(Mr.int h6).2;rw[aZ] at c1;have ac:(g.N i).op=5->1<=(g.N i).k.toNat:=fun aa=>(y.sh.c5 aa).1;obtain⟨f,ak⟩:∃ae:Nat,(g.N i).k=ae:=⟨(g.N i).k.toNat,om⟩;obtain⟨d,aj⟩:∃ae:Nat,(g.N i).a=ae:=⟨(g.N i).a.toNat,om⟩;have bs:f<=1000:=om;have da:=(b.out.i9 (j:=d) om).2;rw[show (g.N i).k.toNat=f by omega,show (g.N i).a.toNat=d by omega] at h R;rw[show (g.N i).k.toNat=f by omega] at ac;obtain⟨u,C⟩:∃u,u=i+1:=⟨_,rfl⟩;rw[<-C] at c1 R h;have JC:=@pu bl g b.out lo aL aH aN kL kH kN K kd bu ku wd vk vm u wr c om;have b3:=yz b.out (i:=u) (j:=u) om;have JD:∀t,wr.S t->Cl 61 #[.p bl 0,.i (u:Int)] t fun e o=>∃a1 S,e=.returned (.agg #[.i (g.N i).op,.i (d:Int),.i (g.N i).b,.i (f:Int),.i (g.N i).s,.l a1 (g.N i).nv S])/\t.S o:=fun t sq=>by
     have:=bF b.out C (c.bH sq) P;rw[ak,aj] at this;exact this.mono fun e o ⟨a1,S,M,N,s⟩=>⟨a1,S,M,s⟩
    have HJ:=aR JD;have a2:=aR h;have az:=aR R;have av:=aR ac;have ay:=aR an;have bj:(r:Int)<n:=om;have bm:(d:Int)<((g.nn+1:Nat):Int):=om;have bn:(d:Int)<(g.nn:Int)+1:=om;have dm:=c.d (j:=d) om;have bq:=aR dm;have Q:d<=g.nn:=om;have HH:=aR (show fo g (i+1)=true/\i<a/\u=i+1 from⟨s,N,C⟩)
    have T0:=aR (show (dH g i).length+(owL (g.N i).op f (vD g d)).length<=(bP g).length by
     have:=h;obtain⟨r',bi⟩:=vF g (a:=i+1) (b:=g.nn) om;have e2:(bP g).length=(dH g (i+1)++r').length:=(by rw[<-bi];rfl);rw[aT] at e2;rw[C] at this;omega)
    clear JD h R ac an ak aj y M s h4 h5 h6 B dm N C a0 ai k0;generalize (g.N i).op=G at*;generalize (g.N i).b=nb at*;generalize (g.N i).s=ns at*;generalize (g.N i).nv=nv at*;generalize (dH g i).length=T at*;generalize ga g u u=O at*;generalize hD:vD g d=D at*;have H:=aR hD;clear hD;go_wp2_with fail;refine JC.mono ?_;rintro e p ⟨rfl,U⟩;have b4:=aR U;clear JC;have c6:=((c.bH U).bH ((aF p.heap.size p).drew)).B.c6;have dj:=((c.bH U).bH ((aF p.heap.size p).drew)).d Q;rw[H.out] at dj;have Sd:=U.tr ((aF p.heap.size p).drew);have J1:=HJ.out p.drew Sd;go_wp2_with fail;have bc:∀(a9:Option Addr) (bp:Nat) (w:World),(Instr.field 87 (.agg #[.i G,.i (d:Int),.i nb,.i (f:Int),.i ns,.l a9 nv bp]) 1).run Tryz.prog w=.ok (.i (d:Int)) w:=fun _ _ _=>ale _ _ _ _ _ _ _
    go_region_held3 (fun o=>o.cell? (jj bl 6)=some (.s K (g.nn+1) kd)/\o.cell? (jj K d)=some (.i (D:Int))) (go_keep)
     (first
       | (go_at_call 61;(with_reducible refine J1.mono ?_);rintro e w3 ⟨a3,k3,rfl,s3⟩;have I:=Sd.tr s3;have p6:=(c.bH I).B.c6;have pd:=(c.bH I).d Q;rw[H.out] at pd;have J2:=aR (HJ.out w3 I))
       | (go_at_call 61
          (have J3:=J2.out
           with_reducible refine J3.mono ?_)
          rintro e w4 ⟨a4,k4,rfl,s4⟩;have Y:=I.tr s4;have q6:=(c.bH Y).B.c6;have au:=(c.bH Y).d Q;rw[H.out] at au)
       | (go_at_call 64;(with_reducible refine (@afU G (d:Int) nb ns f D _ w4 (fun aa=>⟨av.out aa,om⟩) om).mono ?_);rintro e w5 ⟨a5,b5,n5,k5,rfl,al,M5,s5⟩;have Z:=Y.tr s5;have r6:=(c.bH Z).B.c6;have rd:=(c.bH Z).d Q;rw[H.out] at rd;have ax:=aR al;clear al))
    all_goals go_wp2
    generalize ad:(owL G f D).length=m at*;have bb:m=n5:=(by have:=ax.out;rwa[bS,ad] at this);subst bb;have aw:=aR ad;have b0:m<=1000000:=(by have M:=T0.out;have N:(bP g).length<=1000*g.nn:=vH b.out (aC g.nn);omega);clear ad J1 J2 bc c6 dj p6 pd q6 au r6 rd;go_loopw [3,4,40] (fun u af q wx=>wx=w5/\∃j:Nat,j<=m/\q=.i (j:Int)/\u=.i (szT g (T+j):Int)/\af=.i (lwT g (T+j):Int)) (fun _ _ q _=>m-(intOf q).toNat)
    case atStart=>exact⟨rfl,0,aJ _,rfl,rfl,rfl⟩
    case round=>
     obtain⟨rfl,j,hj,rfl,rfl,rfl⟩:=hrel;by_cases bf:j<m
     . obtain⟨x,hx⟩:∃x,(owL G f D)[j]?=some x:=⟨_,aK (by rw[aw.out];exact bf)⟩;obtain⟨e1,e2⟩:=az.out j x hx;have aq:((owL G f D).map fun x:Nat=>(x:Int))[j]?=some (x:Int):=(by rw[cY,hx];rfl);obtain⟨ea,cx⟩:=M5.int aq;rw[aZ] at cx;subst ea;have k:lwT g (T+j+1)=O+x:=e1;have bw:O+x<=2100000:=(by rw[<-k];exact dX b.out _);have bg:lwT g (T+j)<=2100000:=dX b.out _;have l:szT g (T+j+1)=szT g (T+j)+(O+x)*(lwT g (T+j)+1):=by
        have:szT g (T+j+1)=szT g (T+j)+lwT g (T+j+1)*(lwT g (T+j)+1):=rfl;rw[this,k]
       have A:szT g (T+j+1)<=4500000000000000000:=afD b.out om;have v:=@aez (O+x) (lwT g (T+j)) wr om om;generalize hF:(O+x)*(lwT g (T+j)+1)=F at*;rw[show ((O+x:Nat):Int)=O+(x:Int) from rM _ _] at v;have E1:=aR k;have W:=aR l;have bh:szT g (T+j)+F<=4500000000000000000:=(by rw[<-l];exact A);clear e1 k l A hF hx aq e2;generalize szT g (T+j)=a8 at*;generalize lwT g (T+j)=a7 at*;have bo:(j:Int)<m:=om;go_wp2_with fail;refine v.mono ?_;rintro e w6 ⟨rfl,rfl⟩;clear v;go_wp2;go_roundw
       case rel=>exact⟨by first | rfl | trivial,j+1,om,by go_num,by rw[<-fH,W.out];go_num,by rw[<-fH,E1.out];go_num⟩
       case measure=>exact yI
     . have ej:j=m:=om;subst ej;have bo:¬(j:Int)<j:=om;go_wp2;go_roundw
       case rel=>obtain⟨y1,y2,y3⟩:=HH.out;have y4:(dH g (i+1)).length=T+j:=(by have:=a2.out;rw[y3] at this;exact this);exact⟨r+1,i+1,om,om,by rw[mt,aY y1,aT,ay.out];rfl,by go_num,V.tr Z,by rw[y4],by rw[y4]⟩
       case measure=>exact yI
  . have er:r=n:=om;subst er;have h:=ajM (g:=g) (n:=a) _ rfl ag (by rw[HN.out];exact B);have T1:(dH g i0).length=(bP g).length:=(by rw[<-h,HA.out]);rw[T1];have bj:¬(r:Int)<r:=om;have c5:=c.B.c5;rw[HO.out] at c5;have c6:=c.B.c6;have dv:=c.d (j:=a) ho;have br:=(b.out.i9 (j:=a) ho).2;have bg:lwT g (bP g).length<=2100000:=dX b.out _;have k:lwT g ((bP g).length+1)=vD g a:=(by have:=acW g;rwa[show g.out.toNat=a by have:=HO.out;omega] at this);have l:jw g=szT g (bP g).length+vD g a*(lwT g (bP g).length+1):=(by have:jw g=szT g (bP g).length+lwT g ((bP g).length+1)*(lwT g (bP g).length+1):=rfl;rw[this,k]);have A:jw g<=4500000000000000000:=afD b.out zR;have bm:(a:Int)<((g.nn+1:Nat):Int):=om;have bn:(a:Int)<(g.nn:Int)+1:=om;have v:=fun t=>@aez (vD g a) (lwT g (bP g).length) t om om;generalize hF:vD g a*(lwT g (bP g).length+1)=F at*;have bh:szT g (bP g).length+F<=4500000000000000000:=(by rw[<-l];exact A);have W:=aR l;have z:=aR (HS.out.trans (sM V HS.out.size));clear k l A hF T1 h B;generalize szT g (bP g).length=a8 at*;generalize lwT g (bP g).length=a7 at*;generalize vD g a=D at*;go_wp2_with fail;go_quiet ((go_at_call 65;exact Calls.quiet_of_same (v _)));go_wp2;go_ret;exact⟨by rw[W.out];go_num,z.out.os,z.out.tape,z.out.output,z.out.size,z.out.block⟩
structure b5(w:World)(bl:Nat)(g:be)(lo:Nat)(aL aH aN:Option Addr)(kL kH kN bd kd bu ku:Nat)(wd:Int)(vk vm:Value)(f:Nat->Nat):Prop where
 B:Lob w bl g aL aH aN kL kH kN (.slice (some ⟨bd,0,none⟩) (g.nn+1) kd) (.slice (some ⟨bu,0,none⟩) (g.nn+1) ku) wd vk vm
 G:rH w lo g aL aH aN kL kH kN
 D:Ints w (some ⟨bd,0,none⟩) bd 0 (g.nn+1) (fun j=>(vD g j:Int))
 U:w.rowIs bu 3 (g.nn+1) (fun j=>.int .i64 (f j:Int))
section
variable{w w':World}{bl lo:Nat}{g:be}{aL aH aN:Option Addr}{kL kH kN bd kd bu ku:Nat}{vk vm:Value}{wd:Int}{f:Nat->Nat}
theorem b5.u(h:b5 w bl g lo aL aH aN kL kH kN bd kd bu ku wd vk vm f)(a:j<=g.nn):w.cell? (jj bu j)=some (.i (f j:Int)):=h.U.cell (i:=j) om
end
theorem anJ(bl:Nat)(G:be)(n:Nat)(a A B:Option Addr)(m c d k i j l:Nat)(wd:Int)(u U:Value)(X:Nat->Nat)(_:G.nn<=1000)(o b:Nat)(D:b=o+1)(w:World)(L:b5 w bl G n a A B m c d k i j l wd u U X)(q:o<G.nn):
 Cl 61 #[.p bl 0,.i (b:Int)] w fun e x=>∃f g,e=.returned (.agg #[.i (G.N o).op,.i (G.N o).a,.i (G.N o).b,.i (G.N o).k,.i (G.N o).s,.slice f (G.N o).nv g])/\w.S x:=by
 obtain⟨y,Q,-,h⟩:=L.G.LN;obtain⟨p,f,g,r⟩:=h o q;subst p;have s:=cV w (.o #[.i (G.N o).op,.i (G.N o).a,.i (G.N o).b,.i (G.N o).k,.i (G.N o).s,.l f (G.N o).nv g] 87);have bx:=dL.new w (.i (G.N o).op) (.i (G.N o).a) (.i (G.N o).b) (.i (G.N o).k) (.i (G.N o).s) (.l f (G.N o).nv g) 87;have E:(o:Int)<(G.nn:Int):=om;have F:(b:Int)-1=(o:Int):=om;have C:=L.B.c4;obtain⟨I,K,M,N,O,P⟩:=r.g;have t:=aR bx;have v:=aR s;have z:=L.B.lt;have H:=r.lt;go_enter func61,ntmps61;go_wp2;refine bO (ol rfl underlying87 rfl kr _ _ w.heap.size _ _ _ _ _ _ rfl t.out) rfl ?_;exact⟨f,g,rfl,v.out⟩
theorem aib(bl:Nat)(G:be)(n:Nat)(a A B:Option Addr)(m c d k i j l:Nat)(wd:Int)(u U:Value)(X:Nat->Nat)(_:G.nn<=1000)(o:Nat)(y:G.out=o)(b:Nat)(w:World)(L:b5 w bl G n a A B m c d k i j l wd u U X)(t:b<=G.nn)(f:Bool)(hb:f=true↔b=o∨X b≠0):
 Cl 59 #[.p bl 0,.i (b:Int)] w fun e E=>e=.returned (.bool f)/\E=w:=by
 have s:=L.B.c5;have F:=L.B.c7;have C:=L.u t;rw[y] at s;have H:(b:Int)<((G.nn+1:Nat):Int):=om;have I:(b:Int)<(G.nn:Int)+1:=om;have p:=aR hb;clear y hb;generalize X b=x at*;by_cases q:b=o
 . have g:=aR (show f=true from p.out.2 (.inl q));subst q;go_enter func59,ntmps59;go_wp2;go_ret;exact⟨by rw[g.out];rfl,rfl⟩
 . have v:¬(b:Int)=o:=om;by_cases r:x=0
   . have g:=aR (show f=false from Bool.eq_false_iff.2 (fun h=>by rcases p.out.1 h with h | h;exact q h;exact h r));subst r;go_enter func59,ntmps59;go_wp2;go_ret;exact⟨by rw[g.out];show Ending.returned (.bool ((b:Int)==(o:Int)))=_;rw[pR v],rfl⟩
   . have g:=aR (show f=true from p.out.2 (.inr r));have z:¬(x:Int)=0:=om;go_enter func59,ntmps59;go_wp2;go_ret;exact⟨by rw[g.out];show Ending.returned (.bool ((b:Int)==(o:Int) ||((x:Int) != 0)))=_;rw[pR v,nG.2 z];rfl,rfl⟩
def iz(g:be)(i j:Nat):Nat:=if i<bL g j then bL g j else 0
theorem cj(E:iy G)(h:bL G j≠0):j<bL G j/\fo G (bL G j)=true/\qm G (bL G j-1) j=true/\bL G j<=G.nn:=by
 obtain⟨k,b,c,d,a⟩:=eu (g:=G) (i:=G.nn) (j:=j) h;have e:bL G j=k+1:=b;have:=E.src c a;rw[e];exact⟨om,d,by rw[cF];exact a,om⟩
theorem agy(E:iy G)(n:Nat):iz G G.out.toNat n=0:=by
 unfold iz;rw[aM];intro h;have:=tu E (cj E (j:=n) om).2.1;omega
theorem aeT(G:be)(n:Nat):iz G 0 n=bL G n:=by
 unfold iz;split<;>omega
theorem aeU(E:iy G):fo G i=true↔i=G.out.toNat∨iz G i i≠0:=by
 rw[eo E];refine or_congr Iff.rfl ?_;unfold iz;constructor
 . intro h;rw[aY (cj E h).1];exact h
 . intro h;split at h
   . exact h
   . exact absurd rfl h
theorem ahP(E:iy G)(h:¬fo G (k+1)=true)(n:Nat):iz G k n=iz G (k+1) n:=by
 unfold iz;by_cases e:bL G n=k+1
 . exact absurd (e▸(cj E (j:=n) om).2.1) h
 . split<;>split<;>omega
theorem agx(E:iy G)(b:k<G.nn)(h:fo G (k+1)=true)(n:Nat):iz G k n=if qm G k n=true then max (iz G (k+1) n) (k+1) else iz G (k+1) n:=by
 unfold iz;by_cases a:qm G k n=true
 . have:=uW b h a;rw[aY a];split<;>split<;>omega
 . rw[aM a];by_cases e:bL G n=k+1
   . have:=(cj E (j:=n) om).2.2.1;rw[e,cF] at this;exact absurd this a
   . split<;>split<;>omega
theorem Lob.new(w:World)(G:be)(n:Nat)(e:G.out=n)(a A B:Option Addr)(m c d:Nat)(u U j b:Value)(T:TypeId):Lob (w.alloc (.cells #[.i G.inn,.i G.rounds,.slice a G.nl m,.slice A G.nh c,.slice B G.nn d,.i (n:Int),u,U,.i G.inn,j,b] T)) w.heap.size G a A B m c d u U G.inn j b:=
 ⟨by simp[go_sem],by simp[go_sem],by simp[go_sem],by simp[go_sem],by simp[go_sem],by rw[e];simp[go_sem],by simp[go_sem],by simp[go_sem],by simp[go_sem],by simp[go_sem],by simp[go_sem],fun k=>by simp[go_sem]⟩
def mxF(f:Nat->Nat)(i:Nat)(S:List Int)(j:Nat):Nat:=if (j:Int)∈S then max (f j) i else f j
theorem alh(X:Nat->Nat)(n:Nat)(S:List Int)(m c:Nat):mxF X n (S++[(m:Int)]) c=if c=m then max (mxF X n S m) n else mxF X n S c:=by
 unfold mxF;by_cases e:c=m
 . subst e;simp;split<;>omega
 . have:¬(c:Int)=m:=om;simp[e,this]
theorem amm(a:(G.N n).a=m)(hb:(G.N n).b=c)(d:Nat):(d:Int)∈wI (G.N n).op m c↔qm G n d=true:=by
 unfold wI qm;rw[a,hb];by_cases h:(G.N n).op=4
 . simp[h];omega
 . simp[h];omega
theorem aeQ(G:be)(E:iy G)(n:Nat)(a A B:Option Addr)(m c d k i:Nat)(w:World)(bh:rH w n G a A B m c d)(bd:Ints w (jp k 0) k 0 (G.nn+1) (fun j=>(vD G j:Int))):
 Cl 27 #[.agg #[.i G.inn,.i G.rounds,.slice a G.nl m,.slice A G.nh c,.slice B G.nn d,.i G.out],.s k (G.nn+1) i] w fun e w'=>∃bl Z,e=.returned (.p bl 0)/\w.heap.size<=bl/\w.heap.size<=Z/\bl≠Z/\Low w' bl G n a A B m c d k i Z (G.nn+1) G.inn (.map none) (.n)/\w.S w':=by
 have ar:=E.head.n;have aq:=run_make_row' (P:=Tryz.prog) 44 3 (.i 0) 8 underlying44 kr rfl .i64 .i64 (G.nn+1) om om;rw[show ((G.nn+1:Nat):Int)=(G.nn:Int)+1 from rfl] at aq;have o0:=E.o0;have o1:=E.o1;obtain⟨o,Q⟩:∃a8:Nat,G.out=a8:=⟨G.out.toNat,om⟩;have ho:o<=G.nn:=om;have af:G.out.toNat=o:=om;have F:=aR E;have HO:=aR Q;have HT:=aR af;obtain⟨O,eA⟩:∃x,x=w.alloc (.o #[.i G.inn,.i G.rounds,.l a G.nl m,.l A G.nh c,.l B G.nn d,.i (o:Int)] 35):=⟨_,rfl⟩;have sA:w.S O:=by rw[eA];exact cV _ _
 have zA:O.heap.size=w.heap.size+1:=by rw[eA];simp
 obtain⟨C,P⟩:∃x,x=O.alloc (.o (madeCells #[.i 0] (G.nn+1)) 3):=⟨_,rfl⟩;have sB:O.S C:=by rw[P];exact cV _ _
 have zB:C.heap.size=w.heap.size+1+1:=by rw[P];simp[zA]
 have rB:C.rowIs (w.heap.size+1) 3 (G.nn+1) (fun _=>.i 0):=by rw[P,<-zA];exact World.rowIs_made O (.i 0) (G.nn+1) 3
 obtain⟨u,eC⟩:∃x,x=C.alloc (.o #[.i G.inn,.i G.rounds,.l a G.nl m,.l A G.nh c,.l B G.nn d,.i (o:Int),.s k (G.nn+1) i,.s (w.heap.size+1) (G.nn+1) (G.nn+1),.i G.inn,.map none,.n] 109):=⟨_,rfl⟩;have sC:C.S u:=by rw[eC];exact cV _ _
 have lC:Lob u (w.heap.size+1+1) G a A B m c d (.s k (G.nn+1) i) (.s (w.heap.size+1) (G.nn+1) (G.nn+1)) G.inn (.map none) (.n):=by rw[eC,<-zB];exact Lob.new C G o Q a A B m c d _ _ _ _ _
 have rC:u.rowIs (w.heap.size+1) 3 (G.nn+1) (fun j=>.i (iz G o j:Int)):=(rB.of_block (sC.block _ om)).congr (fun j _=>by rw[<-af,agy F.out];rfl);have SC:=(sA.tr sB).trans (sM sC om);have T:=ue u;have ak:=aR (show w.S u.drew/\Lob u.drew (w.heap.size+1+1) G a A B m c d (.s k (G.nn+1) i) (.s (w.heap.size+1) (G.nn+1) (G.nn+1)) G.inn (.map none) (.n)/\u.drew.rowIs (w.heap.size+1) 3 (G.nn+1) (fun j=>.i (iz G o j:Int)) from⟨SC.tr T,lC.bH T,rC.of_block (T.block _ rC.lt)⟩);clear E o0 o1 af sA zA sB zB rB sC lC rC SC T;subst eC;subst P;subst eA;rw[Q];clear Q;go_enter func27,ntmps27;go_wp2_with fail;go_region;all_goals go_wp2_with fail
 clear aq;go_loopw [6] (fun q wr=>∃b:Nat,b<=o/\q=.i (b:Int)/\w.S wr/\Lob wr (w.heap.size+1+1) G a A B m c d (.s k (G.nn+1) i) (.s (w.heap.size+1) (G.nn+1) (G.nn+1)) G.inn (.map none) (.n)/\wr.rowIs (w.heap.size+1) 3 (G.nn+1) (fun j=>.i (iz G b j:Int))) (fun q _=>(intOf q).toNat)
 case atStart=>exact⟨o,Nat.le_refl _,rfl,ak.out⟩
 case round=>
  clear ak;obtain⟨b,hi,rfl,r,H,y⟩:=hrel;have zr:=r.size;have lr:=H.lt;have Y:b5 wr (w.heap.size+1+1) G n a A B m c d k i (w.heap.size+1) (G.nn+1) G.inn (.map none) (.n) (iz G b):=⟨H,bh.bH r,bd.bH r,y⟩;by_cases h0:0<b
  . obtain⟨f,hk⟩:∃f,b=f+1:=⟨b-1,om⟩;have bc:(b:Int)>0:=om;have ac:f<G.nn:=om;have JN:=aib _ _ _ _ _ _ _ _ _ _ _ _ _ _ _ _ (iz G b) ar o HO.out b wr Y om (fo G b) (by have:=aeU F.out (i:=b);rwa[HT.out] at this);have ae:=fun h=>ahP F.out (k:=f) h;have ag:=fun h=>agx F.out (k:=f) ac h;rw[<-hk] at ae ag;have aw:=aR ae;have a1:=aR ag;clear ae ag;have a7:(b:Int)-1=(f:Int):=om;have s:=aR hk;clear hk;go_wp2_with fail;refine JN.mono ?_;rintro e w2 ⟨rfl,rfl⟩;clear JN;cases hy:fo G b
    . have V:=aR (show ¬fo G b=true by rw[hy];decide);clear hy a7;go_wp2;go_roundw
      case rel=>exact⟨f,by have:=s.out;omega,by have:=s.out;go_num,r,H,y.congr (fun j _=>by rw[aw.out V.out])⟩
      case measure=>have:=s.out;simp[intOf];omega
    . have V:=aR hy;clear hy;have I:=F.out.nd ac;have a0:=I.a0;have ai:=I.ai;have b0:=I.b0;have bi:=I.bi;obtain⟨M,D⟩:∃ah:Nat,(G.N f).a=ah:=⟨(G.N f).a.toNat,om⟩;obtain⟨R,ab⟩:∃ah:Nat,(G.N f).b=ah:=⟨(G.N f).b.toNat,om⟩;have SM:=aR (fun j=>amm D ab j);have W:=anJ _ _ _ _ _ _ _ _ _ _ _ _ _ _ _ _ (iz G b) ar f b s.out w2 Y ac;rw[D,ab] at W;have ao:M<=G.nn:=om;have a4:R<=G.nn:=om;clear D ab a0 ai b0 bi I;go_wp2_with fail;refine W.mono ?_;rintro e w3 ⟨a3,k3,rfl,N⟩;clear W;go_wp2_with fail;refine (abS).mono ?_;rintro e w4 ⟨L,p,rfl,a9,ad,M4,s4⟩;have z3:=N.size;have S4:=(r.tr N).trans (sM s4 om);have L4:=(H.bH N).bH s4;have R4:=(y.of_block (N.block _ y.lt)).of_block (s4.block _ (Nat.lt_of_lt_of_le y.lt N.size));have bb:p<=2:=by rw[<-ad];unfold wI;split<;>simp
      have am:∀t (z:Int),(wI (G.N f).op M R)[t]?=some z->∃g:Nat,z=g/\g<=G.nn:=fun t z l=>by
       have:=List.mem_of_getElem? l;unfold wI at this;split at this
       . simp at this;rcases this with h | h
         . exact⟨M,h,ao⟩
         . exact⟨R,h,a4⟩
       . simp at this;exact⟨M,this,ao⟩
      have av:=aR am;have aj:=aR ad;clear am ad;generalize wI (G.N f).op M R=S at*;go_wp2;go_loopw [33] (fun q U=>∃t:Nat,t<=p/\q=.i (t:Int)/\w.S U/\ML KI U (fun _=>True) (jp L 0) L 0 S/\Lob U (w.heap.size+1+1) G a A B m c d (.s k (G.nn+1) i) (.s (w.heap.size+1) (G.nn+1) (G.nn+1)) G.inn (.map none) (.n)/\U.rowIs (w.heap.size+1) 3 (G.nn+1) (fun j=>.i (mxF (iz G b) b (S.take t) j:Int))) (fun q _=>p-(intOf q).toNat)
      case atStart=>exact⟨0,Nat.zero_le _,rfl,S4,M4,L4,R4.congr (fun j _=>by simp[mxF])⟩
      case round=>
       obtain⟨t,ht,rfl,sx,Mx,X,K⟩:=hrel;by_cases a5:t<p
       . obtain⟨z,l⟩:∃z,S[t]?=some z:=⟨_,List.getElem?_eq_getElem (by rw[aj.out];exact a5)⟩;obtain⟨g,rfl,ba⟩:=av.out t z l;have cz:=(Mx.int l).2;rw[Nat.zero_add] at cz;have c7:=X.c7;have cu:=K.cell (i:=g) om;have cf:=K.frozen g;have au:∀j,mxF (iz G b) b (S.take (t+1)) j=if j=g then max (mxF (iz G b) b (S.take t) g) b else mxF (iz G b) b (S.take t) j:=fun j=>by
          rw[List.take_add_one,l];exact alh _ _ _ _ _
         have ax:=aR au;have a6:(t:Int)<p:=om;have bf:(g:Int)<((G.nn+1:Nat):Int):=om;have bg:(g:Int)<(G.nn:Int)+1:=om;clear au l;generalize hv:mxF (iz G b) b (S.take t) g=v at*;have HV:=aR hv;clear hv;go_wp2_with fail;go_region;all_goals go_wp2
         have a2:L≠w.heap.size+1:=om;have q1:max (v:Int) (b:Int)=((max v b:Nat):Int):=om;rw[q1];have Mf:ML KI wr (fun _=>False) (jp L 0) L 0 S:=Mx;have al:∀q,q≠w.heap.size+1->((wr.setCell (jj (w.heap.size+1) g) (.i ((max v b:Nat):Int))).drew).heap[q]?=wr.heap[q]?:=fun q hq=>(Below.heap_setCell _ _ _ _ (fun e=>by simp at e;exact hq om));refine⟨⟨t+1,om,by go_num,(sx.setCell qz _).drew, ?_,X.lV (al _ om), ?_⟩,by simp[intOf];omega⟩
         . have:=Mf.move (w':=(wr.setCell (jj (w.heap.size+1) g) (.i ((max v b:Nat):Int))).drew) KI.ok qz (fun _=>al _ a2) (fun _ _ h=>h.elim);exact this
         . refine ((K.set g (.i ((max v b:Nat):Int))).of_block (w':=(wr.setCell (jj (w.heap.size+1) g) (.i ((max v b:Nat):Int))).drew) rfl).congr (fun j _=> ?_);rw[ax.out];by_cases e:j=g<;>simp[e]
       . have et:t=p:=om;subst et;have a6:¬(t:Int)<t:=om;have an:S.take t=S:=List.take_of_length_le (by rw[aj.out];exact Nat.le_refl _);rw[an] at K;clear an;go_wp2;go_roundw
         case rel=>exact⟨f,by have:=s.out;omega,by have:=s.out;go_num,sx,X,K.congr (fun j _=>by
          rw[a1.out V.out j];unfold mxF;by_cases e:qm G f j=true
          . rw[if_pos e,if_pos ((SM.out j).2 e)]
          . rw[if_neg e,if_neg (fun h=>e ((SM.out j).1 h))])⟩
         case measure=>have:=s.out;simp[intOf];omega
  . have e0:b=0:=om;subst e0;have V0:Low wr (w.heap.size+1+1) G n a A B m c d k i (w.heap.size+1) (G.nn+1) G.inn (.map none) (.n):=⟨H,bh.bH r,bd.bH r,y.congr (fun j _=>by rw[aeT])⟩;have az:=aR V0;have ay:=aR r;clear V0 Y;go_wp2;go_ret;exact⟨w.heap.size+1+1,w.heap.size+1,rfl,om,om,om,az.out,ay.out⟩
structure Tk(w:World)(b bl:Nat):Prop where
 c1:w.cell? ⟨b,1,none⟩=some (.func (.func 109) #[.pointer (some ⟨bl,0,none⟩)] #[])
 c2:w.cell? ⟨b,2,none⟩=some (.func (.func 110) #[.pointer (some ⟨bl,0,none⟩)] #[])
 c3:w.cell? ⟨b,3,none⟩=some (.func (.func 111) #[.pointer (some ⟨bl,0,none⟩)] #[])
 c4:w.cell? ⟨b,4,none⟩=some (.func (.func 112) #[.pointer (some ⟨bl,0,none⟩)] #[])
 c5:w.cell? ⟨b,5,none⟩=some (.func (.func 113) #[.pointer (some ⟨bl,0,none⟩)] #[])
 c6:w.cell? ⟨b,6,none⟩=some (.func (.func 114) #[.pointer (some ⟨bl,0,none⟩)] #[])
 c7:w.cell? ⟨b,7,none⟩=some (.func (.func 115) #[.pointer (some ⟨bl,0,none⟩)] #[])
theorem Tk.lt{n bl:Nat}(h:Tk w n bl):n<w.heap.size:=aG _ _ h.c1
theorem Tk.lV{w w':World}{n bl:Nat}(h:Tk w n bl)(e:w'.heap[n]?=w.heap[n]?):Tk w' n bl:=
 have m:∀k,w'.cell? (jj n k)=w.cell? (jj n k):=fun k=>aO (w:=w) (a:=jj n k) e
 ⟨(m 1).trans h.c1,(m 2).trans h.c2,(m 3).trans h.c3,(m 4).trans h.c4,(m 5).trans h.c5,(m 6).trans h.c6,(m 7).trans h.c7⟩
theorem akA{bl:Nat}{w:World}:
 Cl 68 #[.p bl 0] w fun e b=>e=.returned (.s w.heap.size 8 8)/\Tk b w.heap.size bl/\w.S b:=by
 have T:∀t,Tk (w.alloc (.o #[.nilFunc,(.func (.func 109) #[.p bl 0] #[]),(.func (.func 110) #[.p bl 0] #[]),(.func (.func 111) #[.p bl 0] #[]),(.func (.func 112) #[.p bl 0] #[]),(.func (.func 113) #[.p bl 0] #[]),(.func (.func 114) #[.p bl 0] #[]),(.func (.func 115) #[.p bl 0] #[])] t)) w.heap.size bl:=fun t=>⟨by simp[go_sem],by simp[go_sem],by simp[go_sem],by simp[go_sem],by simp[go_sem],by simp[go_sem],by simp[go_sem]⟩;have a:=aR T;clear T;go_enter func68,ntmps68;go_wp2;go_ret;exact⟨rfl,a.out _,cV _ _⟩
def ab(z:Int):List (Int×Value)->List (Int×Value)
 | []=>[]
 | t::E=>if t.1=z then E else t::ab z E
theorem agN:∀ {E:List (Int×Value)} {j:Nat} {u:Value},iN z E=some (j,u)->ab z E=E.eraseIdx j
 | [],_,_,h=>by simp[iN] at h
 | t::E,j,u,h=>by
   unfold iN at h;unfold ab
   split at h
   . next e=>
     rw[aY e]
     simp at h
     rw[<-h.1]
     rfl
   . next e=>
     rw[aM e];obtain⟨p,b,a⟩:=eE.1 h;simp only[Prod.mk.injEq] at a;rw[<-a.1,sI,agN (E:=E) (j:=p.1) (u:=p.2) b]
theorem agO:∀ {E:List (Int×Value)},iN z E=none->ab z E=E
 | [],_=>rfl
 | t::E,h=>by
   unfold iN at h;unfold ab
   split at h
   . simp at h
   . next e=>rw[aM e,agO (E:=E) (by simpa using h)]
def ql(z:Int)(E:List (Int×Value)):Option Value:=(iN z E).map Prod.snd
theorem pg(z:Int)(t:Int×Value)(E:List (Int×Value)):ql z (t::E)=if t.1=z then some t.2 else ql z E:=by
 unfold ql;rw[iN];split
 . rfl
 . rw[Option.map_map];rfl
theorem eB:∀ {E:List (Int×Value)},z∉E.map Prod.fst->ql z E=none
 | [],_=>rfl
 | t::E,h=>by
   simp only[dG,fW,not_or] at h;rw[pg,aM (fun e=>h.1 e.symm),eB h.2]
theorem ai6:∀ {E:List (Int×Value)},(E.map Prod.fst).Nodup->ql y (ab z E)=if y=z then none else ql y E
 | [],_=>by simp[ab,ql,iN]
 | t::E,h=>by
   rw[dG,jP] at h;unfold ab
   by_cases e:t.1=z
   . rw[aY e,pg]
     by_cases a:y=z
     . rw[aY a,a,<-e];exact eB h.1
     . rw[aM a,aM (fun c=>a (c.symm.trans e))]
   . rw[aM e,pg,pg,ai6 h.2]
     by_cases a:y=z
     . rw[aY a,aY a,aM (fun c=>e (c.trans a))]
     . rw[aM a,aM a]
theorem cq{u:Value}:∀ {E:List (Int×Value)},ql y (qc z u E)=if y=z then some u else ql y E
 | []=>by
   unfold qc;rw[pg]
   by_cases e:y=z
   . rw[aY e,aY e.symm]
   . rw[aM e,aM (fun h=>e h.symm)]
 | t::E=>by
   unfold qc
   by_cases e:t.1=z
   . rw[aY e,pg,pg]
     by_cases a:y=z
     . rw[aY a,aY a.symm]
     . rw[aM a,aM (fun h=>a h.symm),aM (fun h=>a (h.symm.trans e))]
   . rw[aM e,pg,pg,cq]
     by_cases a:y=z
     . simp only[a,jG];rw[aM e]
     . simp only[a,iO]
theorem dz{α β:Type}(f:α->β):∀(l:List α) (i:Nat),(l.eraseIdx i).map f=(l.map f).eraseIdx i
 | [],_=>rfl
 | _::_,0=>rfl
 | a::l,i+1=>by rw[sI,dG,dG,sI,dz f l i]
section
variable{P:Program}{w:World}{b:Nat}{E:List (Int×Value)}{mty kt et:TypeId}{z:Int}
theorem jm.del(h:jm w b E)(m:P.underlying mty=some (.map kt et))(f:P.underlying kt=some (.int .i64))(x y:TypeId):
 ∃g,(Builtin.delete_ #[mty,x] y #[.map (some b),.i z]).run P w=.ok (.tuple #[]) g/\jm g b (ab z E)/\w.grownBy g (some b):=by
 obtain⟨a,i,hb,n,c,r⟩:=h;have l:(Instr.checkKey a.isEmpty 10000 kt (.i z)).run P w=.ok () w:=mC (k:=.i z) f (by simp[MapKept.IsKey]) _ 9999;have d:=cX (z:=z) 0 c;have k:∀o,w.grownBy { w with heap:=w.heap.setIfInBounds b o } (some b):=fun o=>⟨rfl,rfl,rfl,qz,fun q _ s=>(lE hb).2 q (fun e=>s (by rw[e]))⟩;cases hl:iN z E with
 | none=>
   rw[hl] at d;rw[agO hl];refine⟨{ w with heap:=w.heap.setIfInBounds b (.map a i) }, ?_,⟨_,_,(lE hb).1,n,c,r⟩,k _⟩;simp[Builtin.delete_,lS m,iM hb,l,jL f d,mV _ hb,Result.andThen]
 | some p=>
   obtain⟨j,u⟩:=p;rw[hl] at d;rw[agN hl];refine⟨{ w with heap:=w.heap.setIfInBounds b (.map (a.eraseIdxIfInBounds j) i) }, ?_,⟨_,_,(lE hb).1,MapKept.stamped_erase n j, ?_,fun t v=>r t (List.mem_of_mem_eraseIdx v)⟩,k _⟩
   . simp[Builtin.delete_,lS m,iM hb,l,jL f d,mV _ hb,Result.andThen]
   . unfold aj at c⊢;have e:(a.eraseIdxIfInBounds j).toList=a.toList.eraseIdx j:=by
      rw[Array.eraseIdxIfInBounds];split
      . simp
      . next h=>rw[List.eraseIdx_of_length_le (by simpa using h)]
     rw[e,dz,dz,c]
end
structure Eld(w0 w:World)(g:be)(lo:Nat)(aL aH aN:Option Addr)(kL kH kN bd bl bu:Nat):Prop where
 s:w0.Since w0.heap.size w
 G:rH w0 lo g aL aH aN kL kH kN
 D:Ints w0 (some ⟨bd,0,none⟩) bd 0 (g.nn+1) (fun j=>(vD g j:Int))
 l:w0.heap.size<=bl
 u:w0.heap.size<=bu
theorem Eld.gr{T:Nat->Prop}{m c d k bl i:Nat}(h:Eld w v G n a A B m c d k bl i)(b:Gr T v W)(l:∀q,T q->w.heap.size<=q):Eld w W G n a A B m c d k bl i:=
 ⟨Gr.since h.s b l h.s.size,h.G,h.D,h.l,h.u⟩
theorem Low.gr{T:Nat->Prop}{bl:Nat}{wd:Int}{u:Value}(h:Low v bl G n a A B m c d k i j l wd u U)(e:Eld w v G n a A B m c d k bl j)(b:Gr T v W)(g:∀q,T q->w.heap.size<=q)(s:¬T bl)(t:¬T j):Low W bl G n a A B m c d k i j l wd u U:=
 have f:=e.gr b g
 ⟨h.B.lV (b.block _ h.B.lt s),e.G.bH f.s,e.D.bH f.s,h.U.of_block (b.block _ h.U.lt t)⟩
def forL(g:be)(i:Nat):List Int->List (Int×Value)->List (Int×Value)
 | [],M=>M
 | z::S,M=>forL g i S (if bL g z.toNat=i then ab z M else M)
theorem aev(G:be)(n:Nat)(z:Int):∀(S:List Int) (M:List (Int×Value)),forL G n (S++[z]) M=if bL G z.toNat=n then ab z (forL G n S M) else forL G n S M
 | [],_=>rfl
 | _::S,_=>aev G n z S _
theorem alC{bl:Nat}{g:be}(E:iy g){lo:Nat}{K I N:Option Addr}{kL kH kN O kd y ku:Nat}{wd:Int}{vm:Value}(A:i=k+1){M:List (Int×Value)}{w0 w:World}(L:Low w bl g lo K I N kL kH kN O kd y ku wd (.map (some b)) vm)(e0:Eld w0 w g lo K I N kL kH kN O bl y)(ad:w0.heap.size<=b)(ae:bl≠b)(af:y≠b)(Z:jm w b M)(hk:k<g.nn):
 Cl 69 #[.p bl 0,.i (i:Int)] w fun e w'=>e=.returned (.tuple #[])/\jm w' b (forL g i (wI (g.N k).op (g.N k).a (g.N k).b) M)/\Gr (fun q=>q=b) w w':=by
 have an:=E.head.n;have j:=E.nd hk;have a0:=j.a0;have ai:=j.ai;have b0:=j.b0;have bi:=j.bi;obtain⟨n,W⟩:∃m:Nat,(g.N k).a=m:=⟨(g.N k).a.toNat,om⟩;obtain⟨r,Y⟩:∃m:Nat,(g.N k).b=m:=⟨(g.N k).b.toNat,om⟩;have u:=bF E A L hk;rw[W,Y] at u⊢;have X:n<=g.nn:=om;have ab:r<=g.nn:=om;have HE:=aR E;have HI:=aR A;clear A W Y a0 ai b0 bi j E;have lm:=Z.lt;go_enter func69,ntmps69;go_wp2_with fail;refine u.mono ?_;rintro e w3 ⟨a3,k3,rfl,-,s3⟩;clear u;go_wp2_with fail;refine (abS).mono ?_;rintro e w4 ⟨P,d,rfl,aj,B,M4,s4⟩;have z3:=s3.size;have G:=s3.tr s4;have am:d<=2:=by rw[<-B];unfold wI;split<;>simp
 have U:∀t (z:Int),(wI (g.N k).op n r)[t]?=some z->∃a:Nat,z=a/\a<=g.nn:=fun t z c=>by
  have:=cO c;unfold wI at this;split at this
  . simp at this;rcases this with h | h
    . exact⟨n,h,X⟩
    . exact⟨r,h,ab⟩
  . simp at this;exact⟨n,this,X⟩
 have aa:=aR U;have D:=aR B;clear U B;generalize T:wI (g.N k).op n r=S at*;have HS:=aR T;clear T;go_wp2;go_loopw [11] (fun q wr=>∃t:Nat,t<=d/\q=.i (t:Int)/\ML KI wr (fun _=>False) (jp P 0) P 0 S/\jm wr b (forL g i (S.take t) M)/\Gr (fun q=>q=b) w wr) (fun q _=>d-(intOf q).toNat)
 case atStart=>exact⟨0,aJ _,rfl,M4,Z.bH G,Gr.of G⟩
 case round=>
  obtain⟨t,ht,rfl,x,p,f⟩:=hrel;by_cases ag:t<d
  . obtain⟨z,c⟩:∃z,S[t]?=some z:=⟨_,aK (by rw[D.out];exact ag)⟩;obtain⟨a,rfl,ac⟩:=aa.out t z c;have Q:=(x.int c).2;rw[aZ] at Q;have v:=L.gr e0 f (fun q hq=>hq▸ad) ae af;have c7:=v.B.c7;have c9:=v.B.c9;have cu:=v.u ac;have ak:=uV g a;obtain⟨ar,hr,H,R⟩:=p.del (P:=Tryz.prog) (mty:=107) (kt:=3) (et:=118) (z:=(a:Int)) underlying107 underlying3 3 0;have C:=aev g i (a:Int) (S.take t) M;rw[iL,show S.take t++[(a:Int)]=S.take (t+1) by rw[jE,c];rfl] at C;have F:=aR C;have o:=aR (And.intro H R);have zx:=f.size;have ah:(t:Int)<d:=om;have ao:(a:Int)<((g.nn+1:Nat):Int):=om;have aq:(a:Int)<(g.nn:Int)+1:=om;clear C c H R;by_cases l:bL g a=i
    . have s:=aR l;rw[l] at cu;clear l;have lc:=aG _ _ Q;go_wp2;exact⟨⟨t+1,om,by go_num,x.move KI.ok o.out.2.size (fun _=>fw o.out.2 lc om) (fun _ _ h=>h.elim),by rw[F.out,aY s.out];exact o.out.1,f.trans (Gr.gb o.out.2) (fun q _ h=>h)⟩,by simp[intOf];omega⟩
    . have s:=aR l;have al:¬(bL g a:Int)=i:=om;clear l;generalize bL g a=lv at*;go_wp2;go_roundw
      case rel=>exact⟨t+1,om,by go_num,x,by rw[F.out,aM s.out];exact p,f⟩
      case measure=>exact yI
  . have et:t=d:=om;subst et;have ah:¬(t:Int)<t:=om;have V:S.take t=S:=dV (by rw[D.out];exact aC _);rw[V] at p;clear V;go_wp2;go_end0;exact⟨rfl,by rw[HS.out];exact p,f⟩
structure Kn(w:World)(P:Nat->Prop)(M:List (Int×Value))(K:Nat->Prop)(X:Nat->List Row):Prop where
 nd:(M.map Prod.fst).Nodup
 at_:∀j:Nat,K j->∃a b off n kc,ql (j:Int) M=some (.slice a n kc)/\(X j).length=n/\n<=kc/\ML KR w P a b off (X j)/\(0<n->P b)
theorem cf{v:Value}:∀ {E:List (Int×Value)},(∀x,x∈(qc z v E).map Prod.fst↔x=z∨x∈E.map Prod.fst)/\((E.map Prod.fst).Nodup->((qc z v E).map Prod.fst).Nodup)
 | []=>by simp[qc]
 | t::E=>by
   obtain⟨b,c⟩:=cf (v:=v) (E:=E);unfold qc
   by_cases e:t.1=z
   . rw[aY e]
     subst e;refine⟨fun x=>by simp,fun h=>by simpa using h⟩
   . rw[aM e]
     refine⟨fun x=> ?_,fun h=> ?_⟩
     . rw[dG,fW,b x,dG,fW]
       constructor
       . rintro (h | h | h)
         . exact .inr (.inl h)
         . exact .inl h
         . exact .inr (.inr h)
       . rintro (h | h | h)
         . exact .inr (.inl h)
         . exact .inl h
         . exact .inr (.inr h)
     . rw[dG,jP] at h⊢
       exact⟨fun a=>by rcases (b _).1 a with a | a;exact e a;exact h.1 a,c h.2⟩
theorem ajb:∀ {E:List (Int×Value)},(ab z E).Sublist E
 | []=>List.Sublist.refl _
 | t::E=>by
   unfold ab
   split
   . exact List.sublist_cons_self _ _
   . exact (ajb (E:=E)).cons_cons _
section
variable{w w':World}{P T K:Nat->Prop}{M:List (Int×Value)}{X:Nat->List Row}
theorem Kn.gr(h:Kn w P M K X)(g:Gr T w w')(e:∀q,P q->¬T q):Kn w' P M K X:=⟨h.nd,fun j m=>by
 obtain⟨a,b,s,n,r,f,i,k,c,d⟩:=h.at_ j m;refine⟨a,b,s,n,r,f,i,k,c.move KR.ok g.size (fun l=>g.block b (c.lt KR.ok l) (e b (d om))) (fun q p o=>g.block q p (e q o)),d⟩⟩
theorem Kn.put{b m n kc:Nat}{R:List Row}(h:Kn w P M K X)(i:Nat)(d:R.length=n)(g:n<=kc)(L:ML KR w P a b m R)(hb:0<n->P b):Kn w P (qc (i:Int) (.slice a n kc) M) (fun j=>j=i∨K j) (fun j=>if j=i then R else X j):=⟨cf.2 h.nd,fun j f=>by
 rw[cq]
 by_cases e:j=i
 . simp only[e,jG]
   exact⟨a,b,m,n,kc,rfl,d,g,L,hb⟩
 . have c:¬(j:Int)=i:=om
   simp only[e,c,iO];exact h.at_ j (f.resolve_left e)⟩
theorem Kn.del(h:Kn w P M K X)(n:Nat):Kn w P (ab (n:Int) M) (fun j=>j≠n/\K j) X:=⟨(ajb.map Prod.fst).nodup h.nd,fun j a=>by
 rw[ai6 h.nd,aM (fun e=>a.1 om)];exact h.at_ j a.2⟩
theorem Kn.imp{K':Nat->Prop}{d:Nat->List Row}(h:Kn w P M K X)(b:∀j,K' j->K j)(c:∀j,K' j->d j=X j):Kn w P M K' d:=⟨h.nd,fun j a=>by
 rw[c j a];exact h.at_ j (b j a)⟩
theorem Kn.forL(G:be)(n:Nat):∀(S:List Int) {M:List (Int×Value)} {K:Nat->Prop},(∀z∈S,∃j:Nat,z=j)->Kn w P M K X->Kn w P (forL G n S M) (fun j=>K j/\¬((j:Int)∈S/\bL G j=n)) X
 | [],_,_,_,h=>h.imp (fun _ a=>a.1) (fun _ _=>rfl)
 | z::S,M,K,hS,h=>by
   obtain⟨f,rfl⟩:=hS z qz;unfold Go.Proofs.YtaeieekkddndhaaGreat.forL;rw[iL]
   by_cases e:bL G f=n
   . rw[aY e]
     refine (Kn.forL G n S (fun z d=>hS z (by simp[d])) (h.del f)).imp (fun j a=> ?_) (fun _ _=>rfl);obtain⟨l,k⟩:=a;have c:j≠f:=fun c=>k ⟨by rw[c];simp,by rw[c];exact e⟩
     exact⟨⟨c,l⟩,fun b=>k ⟨by simp[b.1],b.2⟩⟩
   . rw[aM e]
     refine (Kn.forL G n S (fun z d=>hS z (by simp[d])) h).imp (fun j a=> ?_) (fun _ _=>rfl);exact⟨a.1,fun b=>a.2 ⟨by simp[b.1],b.2⟩⟩
end
theorem bf(h:n<=1000):(Lit.int .i64 (n:Int)).wf=true:=by
 show (decide (IntKind.i64.min<=(n:Int))&&decide ((n:Int)<=IntKind.i64.max))=true;rw[show IntKind.i64.min=-9223372036854775808 from rfl,show IntKind.i64.max=9223372036854775807 from rfl,oW om,oW om];rfl
def de(w:World)(bm i:Nat)(P K:Nat->Prop)(X:Nat->List Row)(M:List (Int×Value))(Q:List Row->Prop)(e:Ending)(w':World):Prop:=
 ∃c n kc R,e=.returned (.tuple #[])/\R.length=n/\Q R/\jm w' bm (qc (i:Int) (.slice (some ⟨c,0,none⟩) n kc) M)/\Kn w' P (qc (i:Int) (.slice (some ⟨c,0,none⟩) n kc) M) (fun j=>j=i∨K j) (fun j=>if j=i then R else X j)/\Gr (fun q=>q=bm) w w'
def bc(m:Nat)(A B R:List Row):Prop:=∀(e:Nat) (r:Row),R[e]?=some r->∃ra rb,A[e]?=some ra/\B[e]?=some rb/\ic m r/\(∀h,ij h r=ij h ra+ij h rb)/\∀z:Int,-1<=z->z<m->eO r z=eO ra z+eO rb z
theorem bc.snoc{A B R:List Row}{r b c:Row}(h:bc n A B R)(d:A[R.length]?=some b)(f:B[R.length]?=some c)(g:ic n r)(i:∀h,ij h r=ij h b+ij h c)(j:∀z:Int,-1<=z->z<n->eO r z=eO b z+eO c z):bc n A B (R++[r]):=fun e x a=>by
 by_cases k:e<R.length
 . rw[bJ k] at a
   exact h e x a
 . have:e=R.length:=by
    have:=(bG.1 a).1;simp at this;omega
   subst this;simp at a;subst a;exact⟨b,c,d,f,g,i,j⟩
theorem ajr{bl:Nat}{g:be}(E:iy g){lo:Nat}{aL aH aN:Option Addr}{kL kH kN bd kd bu ku:Nat}{wd:Int}{vm:Value}{bm k i m ja jb:Nat}(hi:i=k+1)(hja:(g.N k).a=ja)(hjb:(g.N k).b=jb){P K:Nat->Prop}(X:Nat->List Row){M:List (Int×Value)}{w:World}(L:Low w bl g lo aL aH aN kL kH kN bd kd bu ku wd (.map (some bm)) vm)(Z:jm w bm M)(hk:k<g.nn)
 (KN:Kn w P M K X)(hP:∀q,w.heap.size<=q->P q)(hPm:¬P bm)(ka:K ja)(kb:K jb)(hm:m<=999999)(hlen:(X ja).length=(X jb).length)(hln:(X ja).length<=1000)
 (hq:∀(e:Nat) (ra rb:Row),(X ja)[e]?=some ra->(X jb)[e]?=some rb->ic m ra/\ic m rb/\(∀z,Qb (eO ra z) 1048640)/\(∀z,Qb (eO ra z+eO rb z) 1048640)/\(∀x∈ra,Qb x.2 1048640)/\∀x∈rb,Qb x.2 1048640):
 Cl 112 #[.p bl 0,.i (i:Int)] w (de w bm i P K X M fun R=>R.length=(X ja).length/\bc m (X ja) (X jb) R):=by
 have hnn:=E.head.n;have JD:=bF E hi L hk;rw[hja,hjb] at JD;obtain⟨aa,ba,oa,na,ca,va,laq,lca,MA,pA⟩:=KN.at_ ja ka;obtain⟨ab,bb,ob,nb,cb,vb,lb,lcb,MB,pB⟩:=KN.at_ jb kb;have HQ:=aR hq;have HLA:=aR laq;have HLB:=aR lb;have hna:na=nb:=om;have hn1:na<=1000:=om;subst hna;clear hq laq lb hlen hln;have HE:=aR E;have HI:=aR hi;clear hi hja hjb E;have lm:=Z.lt;go_enter func112,ntmps112;go_wp2_with fail;refine JD.mono ?_;rintro e w3 ⟨a3,k3,rfl,-,s3⟩;clear JD;obtain⟨w5,e5⟩:∃x,x=w3.alloc (.o #[.i (g.N k).op,.i (ja:Int),.i (jb:Int),.i (g.N k).k,.i (g.N k).s,.l a3 (g.N k).nv k3] 87):=⟨_,rfl⟩;have s5:w3.S w5:=by rw[e5];exact (aF w3.heap.size w3).alloc zR _
 have B5:dL w5 w3.heap.size (.i (g.N k).op) (.i (ja:Int)) (.i (jb:Int)) (.i (g.N k).k) (.i (g.N k).s) (.l a3 (g.N k).nv k3):=by rw[e5];exact dL.new _ _ _ _ _ _ _ _
 have E5:=aR e5;clear e5;go_wp2_with fail;rw[<-E5.out];have S5:=s3.tr s5;have L5:=L.bH S5;have Z5:=Z.bH S5;have c9:=L5.B.c9;have p2:=B5.c2;have lk:∀(wq:World) (j:Nat) (v:Value),jm wq bm M->ql (j:Int) M=some v->(Instr.lookup 107 (.map (some bm)) (.i (j:Int)) false).run Tryz.prog wq=.ok v wq:=fun wq j v hZ hv=>by have:=hZ.look (P:=Tryz.prog) (mty:=107) (kt:=3) (et:=118) (zv:=.n) underlying107 underlying3 kr false (z:=(j:Int));unfold ql at hv;rw[hv] at this;exact this
 have dr:∀wq:World,wq.S wq.drew:=fun wq=>(aF wq.heap.size wq).drew;have k1:=lk w5.drew jb _ (Z5.bH (dr _)) vb;have sN:=cV w5 (.o #[] 163);have k2:=lk (w5.alloc (.o #[] 163)).drew jb _ ((Z5.bH sN).bH (dr _)) vb;have GN:=GL.new KR (fun q=>w.heap.size<=q) w5;have c9b:=(L5.bH sN).B.c9;have p2b:=(B5.bH sN).c2;have HK:=aR lk;clear lk;go_region;all_goals go_wp2_with fail
 all_goals (
  obtain⟨w6,e6⟩:∃x,x=(w5.alloc (.o #[] 163)).drew:=⟨_,rfl⟩;rw[<-e6];have s6:w5.S w6:=by rw[e6];exact sN.tr (dr _)
  have G6:GL KR (fun q=>w.heap.size<=q) w6 w5.heap.size (.s w5.heap.size 0 0) [] []:=by rw[e6];exact GN.bH KR.ok (dr _)
  clear e6 k1 k2 c9 p2 c9b p2b GN sN;have S6:=S5.tr s6;have L6:=L.bH S6;have Z6:=Z.bH S6;have B6:=B5.bH s6;have c9:=L6.B.c9;have p1:=B6.c1;have k1:=HK.out w6.drew ja _ (Z6.bH (dr _)) va;have z5:=S5.size;go_region;all_goals go_wp2_with fail
  go_loopw [6,28] (fun u q wr=>∃t:Nat,t<=na/\q=.i (t:Int)/\w6.Since w5.heap.size wr/\∃cy ky xs R,u=.s cy t ky/\R.length=t/\GL KR (fun q=>w.heap.size<=q) wr w5.heap.size (.s cy t ky) R xs/\bc m (X ja) (X jb) R) (fun _ q _=>na-(intOf q).toNat)
  case atStart=>exact⟨0,aJ _,rfl,sM (dr _) s6.size,w5.heap.size,0,[],[],rfl,rfl,G6.bH KR.ok (dr _),fun e r h=>by simp at h⟩
  case round=>
   obtain⟨t,ht,rfl,sr,cy,ky,xs,R,rfl,hR,GR,AR⟩:=hrel;have lty:=GR.lt;have Sr:=S6.trans (sM sr z5);have HR:=aR hR;clear hR;by_cases htl:t<na
   . obtain⟨ra,hra⟩:∃r,(X ja)[t]?=some r:=⟨_,aK (by rw[HLA.out];exact htl)⟩;obtain⟨rb,hrb⟩:∃r,(X jb)[t]?=some r:=⟨_,aK (by rw[HLB.out];exact htl)⟩;obtain⟨eA,_,⟨aA,bA,oA,kA,rfl,hkA,hpA,MAr⟩,hcA⟩:=(MA.bH KR.ok Sr) t ra hra;obtain⟨eB,_,⟨aB,bB,oB,kB,rfl,hkB,hpB,MBr⟩,hcB⟩:=(MB.bH KR.ok Sr) t rb hrb;have cA:=hcA 0 _ rfl;have cB:=hcB 0 _ rfl;rw[show oa+t*KR.sz+0=oa+t by show oa+t*1+0=_;omega] at cA;rw[show ob+t*KR.sz+0=ob+t by show ob+t*1+0=_;omega] at cB;subst eA;subst eB;obtain⟨q1,q2,q3,q4,q5,q6⟩:=HQ.out t ra rb hra hrb;have JS:=abQ ra rb (MAr.imp KT.ok (fun _ _ _=>trivial)) (MBr.imp KT.ok (fun _ _ _=>trivial)) rfl rfl hkA hkB hm q1 q2 q3 q4 q5 q6;have HRA:=aR hra;have HRB:=aR hrb;clear hra hrb q1 q2 q3 q4 q5 q6 hcA hcB;generalize ra.length=nra at*;generalize rb.length=nrb at*;have hz1:(t:Int)<na:=om;go_wp2_with fail;refine JS.mono ?_;rintro e w7 ⟨c7,k7,x7,r,rfl,G7,ok7,v7,q7,s7⟩;clear JS;have l7:=G7.lt;have z7:=s7.size;have zr:=sr.size;have z6:=s6.size;have cap7:=G7.cap;have M7:=G7.ml KT.ok;have sX:=cV w7 (.o #[.s c7 r.length k7] 163);go_wp2_with (at_builtin;refine kv ?_);intro _;refine jg (m:=1) KR.ok ((GR.bH KR.ok s7).bH KR.ok sX) HR.out (ML.one (p:=fun q=>w.heap.size<=q/\q≠cy) KR.ok (c:=[.s c7 r.length k7]) (x:=r) ⟨_,c7,0,k7,rfl,cap7,fun _=>⟨om,om⟩,M7.imp KT.ok (fun q _ hq=>by have:=hq.1;exact⟨om,om⟩)⟩ 163) rfl rfl _ _ rfl rfl rfl om ?_;rintro c' k' w' ⟨⟨xs',G'⟩,gr,hat,hlt'⟩;have z8:=sX.size;have HT:=aR (show bc m (X ja) (X jb) (R++[r]) from AR.snoc (by rw[HR.out];exact HRA.out) (by rw[HR.out];exact HRB.out) ok7 v7 q7);have HSn:=aR (eI ((sr.trans (sM s7 om)).trans (sM sX om)) gr om om);clear AR ok7 v7 q7 G7 M7;go_wp2;go_roundw
     case rel=>exact⟨t+1,om,by go_num,HSn.out,c',k',xs',R++[r],rfl,by rw[aT,HR.out];rfl,G',HT.out⟩
     case measure=>exact yI
   . have et:t=na:=om;subst et;have hz1:¬(t:Int)<t:=om;have Zr:=Z.bH Sr;obtain⟨wp,hrun,Zp,gp⟩:=Zr.put (P:=Tryz.prog) (mty:=107) (kt:=3) (et:=118) (z:=(i:Int)) underlying107 underlying3 (bf (by have:=HI.out;omega)) (.s cy t ky);have c9r:=(L.bH Sr).B.c9;have Kr:=KN.gr (T:=fun q=>q=bm) (Gr.of Sr) (fun q hq e=>hPm (e▸hq));have Mr:=(GR.ml KR.ok).imp KR.ok (p':=P) (fun q _ hq=>hP q hq.1);have Kp:=Kr.put i HR.out GR.cap Mr (fun _=>hP cy om);have Kq:=Kp.gr (Gr.gb gp) (fun q hq e=>hPm (e▸hq));have FIN:=aR (And.intro Zp (And.intro Kq ((Gr.of (T:=fun q=>q=bm) Sr).trans (Gr.gb gp) (fun q _ h=>h))));clear Zp Kq gp Kp Kr Mr;go_wp2;go_end0;exact⟨cy,t,ky,R,rfl,HR.out,⟨HR.out.trans HLA.out.symm,AR⟩,FIN.out.1,FIN.out.2.1,FIN.out.2.2⟩)
theorem aea{r:Row}{t:Int×Rat}(h:t.1∉r.map Prod.fst)(z:Int):eO (r++[t]) z=if z=t.1 then t.2 else eO r z:=by
 induction r with
 | nil=>
   rw[pT,jc];by_cases e:z=t.1
   . rw[aY e.symm,aY e]
   . rw[aM (fun h=>e h.symm),aM e]
 | cons x r ih=>
   have a:t.1∉r.map Prod.fst:=fun b=>h (by rw[dG];exact iA _ b);have c:¬x.1=t.1:=fun e=>h (by rw[dG,<-e];exact iQ ..);rw[mY,jc,ih a,jc];by_cases e:z=t.1
   . rw[aM om,aY e,aY e]
   . rw[aM e,aM e]
def rx(m:Nat)(r:Row)(j:Nat):Rat:=if j=m then eO r (-1) else eO r (j:Int)
theorem aik{r:Row}{t:Int×Rat}(e:ic n r)(h:r[m]?=some t)(c:Nat)(l:(t.1=-1/\c=n)∨(t.1≠-1/\t.1=(c:Int))):∀x,x<=n->rx n (r.take (m+1)) x=if x=c then t.2 else rx n (r.take m) x:=fun x o=>by
 have g:=(bG.1 h).1;have j:=e.lo t (cO h)
 have i:t.1∉(r.take m).map Prod.fst:=fun k=>by
  have f:t∈r.drop m:=by
   have:(r.drop m)[0]?=some t:=(by rw[pM];exact h);exact cO this
  have d:=e.nd;rw[<-tI m r,eJ,List.nodup_append] at d;exact d.2.2 t.1 k t.1 (dT.2 ⟨t,f,rfl⟩) rfl
 unfold rx;rw[kF g,(bG.1 h).2,aea i,aea i];by_cases b:x=n
 . rw[aY b,aY b];by_cases a:(-1:Int)=t.1
   . rw[aY a,aY om]
   . rw[aM a,aM om]
 . rw[aM b,aM b];by_cases a:(x:Int)=t.1
   . rw[aY a,aY om]
   . rw[aM a,aM om]
theorem akp(n:Nat):rx n []=fun _=>0:=by
 funext j;unfold rx;split<;>rfl
theorem dQ.fn{p:Nat->Prop}{Q Q':Nat->Rat}(h:dQ w p a n m c Q)(e:∀i,i<c->Q i=Q' i):dQ w p a n m c Q':=fun i b=>by
 rw[<-e i b];exact h i b
def br(m:Nat)(R:Nat->Row)(x:Nat):Rat:=eO (R (x/m)) ((x % m:Nat):Int)
theorem akP(d:1<=n)(R:Nat->Row):(List.range ((r+1)*n)).map (br n R)=(List.range (r*n)).map (br n R)++(List.range n).map (fun j=>rx n (R r) j):=by
 rw[bI,dS,List.range_add,eJ,sU];congr 1;apply fG;intro j a;have a:=dU.1 a;show eO (R ((r*n+j)/n)) (((r*n+j) % n:Nat):Int)=rx n (R r) j;have b:(r*n+j)/n=r:=by rw[cJ,pS om,iI a,fV]
 have c:(r*n+j) % n=j:=by rw[cJ,tU,iC a]
 unfold rx;rw[b,c,aM om]
def MtR(n m:Nat)(R:Nat->Row)(Pr:Nat->Prop)(w:World)(e:Ending)(w':World):Prop:=
 ∃cw kw cb kb,e=.returned (.agg #[.int .i64 (n:Int),.int .i64 (m:Int),.slice (some ⟨cw,0,none⟩) (n*m) kw,.slice (some ⟨cb,0,none⟩) n kb])/\n*m<=kw/\n<=kb/\w.heap.size<=cw/\w.heap.size<=cb/\cw<w'.heap.size/\cb<w'.heap.size/\
  ML KQ w' (fun q=>Pr q∨w.heap.size<=q) (some ⟨cw,0,none⟩) cw 0 ((List.range (n*m)).map (br m R))/\ML KQ w' (fun q=>Pr q∨w.heap.size<=q) (some ⟨cb,0,none⟩) cb 0 ((List.range n).map fun r=>eO (R r) (-1))/\w.Since w.heap.size w'
theorem aiT{bl:Nat}{G:be}{a A B:Option Addr}{n m c:Nat}{u U vk vm:Value}{d k:Nat}{ar:Option Addr}{i or j:Nat}{R:Nat->Row}{P:Nat->Prop}{w:World}(dc:Lob w bl G a A B n m c u U (k:Int) vk vm)(HX:ML KR w P ar i or ((List.range d).map R))(ok:∀r,r<d->ic k (R r))(hm:k<=20000)(ay:1<=k)(hn:d<=6000000)(cn:1<=d):
 Cl 70 #[.p bl 0,.slice ar d j] w fun e w'=>MtR d k R P w e w':=by
 have sA:=cV w (.o #[.i 0,.i 0,.n,.n] 58);have bA:=fZ.new w (.i 0) (.i 0) (.n) (.n) 58;have zA:(w.alloc (.o #[.i 0,.i 0,.n,.n] 58)).heap.size=w.heap.size+1:=by simp
 have b8:=(dc.bH sA).c8;have OK:=aR ok;clear ok;go_enter func70,ntmps70;go_upto_region 2 with fail;have p:=(aF _ (w.alloc (.o #[.i 0,.i 0,.n,.n] 58))).alloc zR (.o #[] 83);have gB:GL KQ (fun _=>False) ((w.alloc (.o #[.i 0,.i 0,.n,.n] 58)).alloc (.o #[] 83)) (w.alloc (.o #[.i 0,.i 0,.n,.n] 58)).heap.size (.l (some ⟨(w.alloc (.o #[.i 0,.i 0,.n,.n] 58)).heap.size,0,none⟩) 0 0) [] []:=GL.new KQ _ _;have zB:((w.alloc (.o #[.i 0,.i 0,.n,.n] 58)).alloc (.o #[] 83)).heap.size=w.heap.size+1+1:=by simp
 have sC:=(aF _ ((w.alloc (.o #[.i 0,.i 0,.n,.n] 58)).alloc (.o #[] 83))).alloc zR (.o #[.i 0,.i (k:Int),.n] 166);have bM:=cR.new ((w.alloc (.o #[.i 0,.i 0,.n,.n] 58)).alloc (.o #[] 83)) (.i 0) (.i (k:Int)) (.n) 166;rw[zA] at gB;rw[zB] at bM;have A1:=(bA.bH p).bH sC;have g1:=gB.bH KQ.ok sC;have S1:=(sA.tr p).trans (sM sC (sA.tr p).size);have cs:w.heap.size<w.heap.size+1:=om;have ct:w.heap.size+1<w.heap.size+1+1:=om;have cz:=dc.lt;clear p gB zB sC bA sA zA b8;generalize ((w.alloc _).alloc _).alloc _=o at*;generalize w.heap.size+1+1=l at*;generalize w.heap.size+1=O at*;have c1:=bM.lt;have z1:=S1.size;go_wp2;go_loopw [6,20] (fun b7 q wr=>∃r N:Nat,r<=d/\N=r*k/\q=.i (r:Int)/\Gr (fun q=>q=l∨q=O) o wr/\∃S Q xs f bm xB,b7=.s f r bm/\cR wr l (.i (r:Int)) (.i (k:Int)) (.l S N Q)/\GL KQ (fun q=>((P q/\q<w.heap.size)∨o.heap.size<=q)/\q≠l/\q≠f) wr O (.l S N Q) ((List.range N).map (br k R)) xs/\GL KQ (fun q=>((P q/\q<w.heap.size)∨o.heap.size<=q)/\q≠l/\(Value.slice S N Q).ownBlock≠some q) wr O (.s f r bm) ((List.range r).map fun r=>eO (R r) (-1)) xB/\(f=O∨o.heap.size<=f)/\(∀G,(Value.slice S N Q).ownBlock=some G->o.heap.size<=G/\G≠f)/\(r=0∨∃G,S=jp G 0)) (fun _ q _=>d-(intOf q).toNat)
 case atStart=>exact⟨0,0,aJ _,by rw[iT],rfl,Gr.refl _ _,none,0,[],O,0,[],rfl,bM,GL.none _ _ _ _,⟨g1.own,fun Y a6 hx=>by simp at hx⟩,.inl rfl,fun G H=>(by simp[Value.ownBlock] at H),.inl rfl⟩
 case round=>
  obtain⟨r,N,hr,hN,rfl,gr,S,Q,xs,f,bm,xB,rfl,Bm,c7,c5,cj,ak,bu⟩:=hrel;have Sr:w.S wr:=Gr.since S1 gr (fun q b=>by omega) om;have zr:=gr.size;have HN:=aR hN;clear hN;by_cases aj:r<d
  . obtain⟨eX,_,⟨aX,bX,oX,kX,rfl,ck,cp,MX⟩,bq⟩:=HX r (R r) (by rw[cY,fK aj];rfl);subst eX;have cX:=bq 0 _ rfl;rw[show or+r*KR.sz+0=or+r by show or+r*1+0=_;omega] at cX;have cd:=(Sr.cell (a:=jj i (or+r)) (aG _ _ cX)).trans cX;have hz:(r:Int)<d:=om;have al:=OK.out r aj;have cl:=al.len;have Br:=dc.bH Sr;have b8:=Br.c8;have JZ:=@ahb (k+1) wr om;rw[show ((k+1:Nat):Int)=k+1 from rfl] at JZ;have bw:=aR (akP (r:=r) ay R);have cg:N+k<=d*k:=by
     have:=aP k (show r+1<=d from aj);rw[bI,dS,<-HN.out] at this;exact this
    have co:d*k<=6000000*20000:=dF hn hm;generalize az:R r=s at*;have bf:=aR az;clear az;generalize ax:s.length=ln at*;have av:=aR ax;clear ax;go_wp2_with fail;refine JZ.mono ?_;rintro e w3 ⟨rfl,am,T3,s3⟩;have z3:=s3.size;have c3:=am.lt;generalize wr=g at*;have T3:dQ w3 (fun q=>q≠g.heap.size/\((P q/\q<w.heap.size)∨g.heap.size<=q)) (jp g.heap.size 0) g.heap.size 0 (k+1) (rx k (s.take 0)):=(by rw[List.take_zero,akp];exact T3.imp (fun q _ b=>⟨b.1,.inr om⟩));go_wp2;go_loopw [32] (fun q x=>∃t:Nat,t<=ln/\q=.i (t:Int)/\g.S x/\rZ x g.heap.size ((k+1)*3)/\dQ x (fun q=>q≠g.heap.size/\((P q/\q<w.heap.size)∨g.heap.size<=q)) (jp g.heap.size 0) g.heap.size 0 (k+1) (rx k (s.take t))) (fun q _=>ln-(intOf q).toNat)
    case atStart=>exact⟨0,aJ _,rfl,s3,am,T3⟩
    clear T3 am s3 JZ;obtain⟨t,ht,rfl,W,an,c8⟩:=hrel;generalize wr=x at*;have z4:=W.size;have S4:=Sr.tr W;have b6:=an.lt;by_cases bs:t<ln
    . obtain⟨tm,ad⟩:∃a6,s[t]?=some a6:=⟨_,aK (by rw[av.out];exact bs)⟩;obtain⟨bn,xt,yt,TC⟩:=MX.ter ad;subst bn;obtain⟨aa,ft⟩:=tm;simp only at TC;have b0:=al.lo (aa,ft) (cO ad);simp only at b0;obtain⟨C,K,E,D,I,F,-,-,-,-,-,-,V,-⟩:=id TC.R;simp only[ag3,fM] at V;obtain⟨rfl,rfl⟩:=V;have RC:=((TC.R.imp (p':=fun q=>P q/\q<w.heap.size) (fun q b c9=>⟨c9,b⟩)).blocks (w':=x) (fun q b _=>S4.block q b)).imp (p':=fun q=>q≠g.heap.size/\((P q/\q<w.heap.size)∨g.heap.size<=q)) (fun q _ b=>⟨om,.inl b⟩);have T5:=TC.bH S4;have t0:=T5.c0;have t1:=T5.c1;have t2:=T5.c2;have t3:=T5.c3;have b3:(t:Int)<ln:=om;have p:=cV x (.o #[.i aa,.bool (qn ft),.l C K E,.l D I F] 169);have bB:=fZ.new x (.i aa) (.bool (qn ft)) (.l C K E) (.l D I F) 169;have B4:=dc.bH S4;have a4:=aR (fun Y hi=>aik al ad Y hi);clear ad;go_upto_region 9 with fail;generalize x.alloc _=wB at*;have zB:=p.size;have lB:=bB.lt;have B5:=B4.bH p;by_cases ae:aa=-1
      . subst ae;have v:=an.bH p;have TD:=c8.bH p;have RD:=RC.bH p;obtain⟨x0,h0⟩:=v.cell (k*3) om;obtain⟨x1,h1⟩:=v.cell (k*3+1) om;obtain⟨x2,h2⟩:=v.cell (k*3+2) om;have rf:=v.f;obtain⟨w5,V,M,R5,y0,y1,y2,xo⟩:=cr v (q:=k*3) om (.bool (qn ft)) (.l C K E) (.l D I F);have ab:=ue w5;obtain⟨j0,k1,k2,k3⟩:=bB.g;have k8:=B5.c8;have b1:(k:Int)<k+1:=om;have b2:(k:Int)<((k+1:Nat):Int):=om;have QF:=aR (((TD.setAt M xo RD y0 y1 y2).fn (Q':=rx k (s.take (t+1))) (fun Y hi=>(a4.out k (.inl ⟨rfl,rfl⟩) Y om).symm)).bH ab);have SF:=aR (((W.tr p).trans (M.since zR)).trans (sM ab ((W.tr p).trans (M.since zR)).size));have RF:=aR (R5.bH ab);rw[V] at QF SF RF;clear y0 y1 y2 xo M R5 ab V;go_wp2_with fail;go_region;all_goals go_wp2
        all_goals go_roundw
        case rel=>exact⟨t+1,om,by go_num,SF.out,RF.out,QF.out⟩
        case measure=>exact yI
      . obtain⟨T,hc⟩:∃T:Nat,aa=T:=⟨aa.toNat,om⟩;subst hc;have ch:T<k:=om;have v:=an.bH p;have TD:=c8.bH p;have RD:=RC.bH p;obtain⟨x0,h0⟩:=v.cell (T*3) om;obtain⟨x1,h1⟩:=v.cell (T*3+1) om;obtain⟨x2,h2⟩:=v.cell (T*3+2) om;have rf:=v.f;obtain⟨w5,V,M,R5,y0,y1,y2,xo⟩:=cr v (q:=T*3) om (.bool (qn ft)) (.l C K E) (.l D I F);obtain⟨k0,k1,k2,k3⟩:=bB.g;have b1:(T:Int)<k+1:=om;have b2:(T:Int)<((k+1:Nat):Int):=om;have cx:¬(T:Int)=-1:=ae;go_wp2;rw[<-V];clear V;go_roundw
        case rel=>exact⟨t+1,om,by go_num,(W.tr p).trans (M.since zR),R5,(TD.setAt M xo RD y0 y1 y2).fn (fun Y hi=>(a4.out T (.inr ⟨ae,rfl⟩) Y om).symm)⟩
        case measure=>exact yI
    . have et:t=ln:=om;subst et;have b3:¬(t:Int)<t:=om;have er:s.take t=s:=dV (by rw[av.out];exact aC _);rw[er] at c8;have z:∀G,(Value.slice S N Q).ownBlock=some G->o.heap.size<=G/\G≠f/\G<g.heap.size:=fun G H=>⟨(ak G H).1,(ak G H).2,(c7.own.lt G H).2⟩;have c2:=c5.lt;have B4:=dc.bH S4;have bg:=B4.c8;have a7:=Bm.bH W;have bp:(Value.slice S N Q).ownBlock≠some l:=fun e=>by have:=z l e;omega
      have MF:ML KQ x (fun q=>(((P q/\q<w.heap.size)∨o.heap.size<=q)/\q≠l/\q≠f)/\(Value.slice S N Q).ownBlock≠some q) (jp g.heap.size 0) g.heap.size 0 ((List.range k).map (rx k s)):=
       dQ.ml (fun Y hi=>(c8.imp (p':=fun q=>(((P q/\q<w.heap.size)∨o.heap.size<=q)/\q≠l/\q≠f)/\(Value.slice S N Q).ownBlock≠some q) (fun q _ b=>⟨⟨by rcases b.2 with h | h;exact .inl h;exact .inr om,by rcases b.2 with h | h<;>omega,by rcases b.2 with h | h<;>omega⟩,fun e=>by have:=z q e;rcases b.2 with h | h<;>omega⟩)) Y om)
      have JR:=@alQ l O r k S N Q g.heap.size 0 k (k+1) (fun q=>((P q/\q<w.heap.size)∨o.heap.size<=q)/\q≠l/\q≠f) ((List.range N).map (br k R)) ((List.range k).map (rx k s)) xs x a7 (c7.bH KQ.ok W) qz MF qz ay om om om (fun h=>h.2.1 rfl) bp om;have ae:(k:Int)<=k+1:=om;have cu:(k:Int)<=((k+1:Nat):Int):=om;have HJ:=aR JR;clear JR MF;go_wp2_with fail;refine HJ.out.mono ?_;rintro e b5 ⟨rfl,y,k',ca,B6,ag,ai,a5⟩;have z6:=a5.size;have ce:=ag.lt;have cf:y≠f/\y≠l/\o.heap.size<=y:=by
       rcases ai with h | h
       . have:=z y h;omega
       . omega
      have ao:=(((c5.imp (P':=fun q=>(((P q/\q<w.heap.size)∨o.heap.size<=q)/\q≠l/\(Value.slice S N Q).ownBlock≠some q)/\q<g.heap.size) KQ.ok (fun q h1 h2=>⟨h2,h1⟩)).bH KQ.ok W).gr KQ.ok a5 (fun ah hb=>by
       simp[Value.ownBlock] at hb;subst hb;rintro (h | h)
       . omega
       . exact (z f h).2.1 rfl) (fun q _ b=>by
       rintro (h | h)
       . exact b.1.2.1 h
       . exact b.1.2.2 h)).imp KQ.ok (P':=fun q=>((P q/\q<w.heap.size)∨o.heap.size<=q)/\q≠l/\q≠y) (fun q _ b=>⟨b.1.1,b.1.2.1,fun e=>by
       subst e;rcases ai with h | h
       . exact b.1.2.2 h
       . have:=b.2;omega⟩)
      have aw:=c8.imp (p':=fun q=>(q≠g.heap.size/\((P q/\q<w.heap.size)∨g.heap.size<=q))/\q<x.heap.size) (fun q b c9=>⟨c9,b⟩)
      have T6:=aw.blocks (w':=b5) (fun _=>a5.block _ b6 (by
       rintro (h | h)
       . omega
       . have:=z _ h;omega)) (fun q b c9=>a5.block q b (by
       rintro (h | h)
       . rcases c9.1.2 with h' | h'<;>omega
       . have:=z q h;rcases c9.1.2 with h' | h'<;>omega))
      obtain⟨-,xf,yf,L⟩:=T6 k om;rw[aZ] at L;have RF:=L.R;obtain⟨C,K,E,D,I,F,-,-,-,-,-,-,V,-⟩:=id L.R;simp only[ag3,fM] at V;obtain⟨rfl,rfl⟩:=V;have f0:=L.c0;have f1:=L.c1;have f2:=L.c2
      have cc:b5.cell? (jj bl 8)=some (.i (k:Int)):=a5.cell bg (by
       rintro (h | h)
       . omega
       . have:=z _ h;omega)
      have bj:=aR (show rx k s k=eO (R r) (-1) by unfold rx;rw[aY rfl,bf.out])
      have bz:=aR (show (List.range (N+k)).map (br k R)=(List.range N).map (br k R)++(List.range k).map (rx k s) by
       have:=bw.out;rw[bI,dS,<-HN.out] at this;exact this)
      generalize rx k s k=fv at*;have cv:(k:Int)<k+1:=om;have cw:(k:Int)<((k+1:Nat):Int):=om;have db:=cV b5 (.o #[.bool (qn fv),.l C K E,.l D I F] 83);go_wp2_with (at_builtin;refine kv ?_);intro _;refine jg (m:=1) KQ.ok (ao.bH KQ.ok db) qz (ML.one (p:=fun q=>(((P q/\q<w.heap.size)∨o.heap.size<=q)/\q≠l/\q≠y)/\q≠f) KQ.ok (c:=[.bool (qn fv),.l C K E,.l D I F]) (x:=fv) ⟨_,_,rfl,RF.imp (fun q cq b=>⟨⟨by rcases b.1.2 with h | h;exact .inl h;exact .inr om,by rcases b.1.2 with h | h<;>omega,fun e=>by
       subst e;rcases ai with h | h
       . have:=z q h;rcases b.1.2 with h' | h'<;>omega
       . have:=b.2;omega⟩,by rcases b.1.2 with h | h<;>omega⟩)⟩ 83) rfl rfl _ _ rfl rfl rfl om ?_
      rintro c' b4 w8 ⟨⟨b9,G8⟩,ac,bo,cm⟩;have zX:=db.size;have cb:b5.heap.size<(b5.alloc (.o #[.bool (qn fv),.l C K E,.l D I F] 83)).heap.size:=by simp
      have ci:c'=f∨b5.heap.size<c':=by
       rcases bo with h | h
       . exact .inl h
       . exact .inr (by rw[h];exact cb)
      have c0:=B6.lt;have au:=(((ag.imp (P':=fun q=>(((P q/\q<w.heap.size)∨o.heap.size<=q)/\q≠l/\q≠f)/\q<b5.heap.size) KQ.ok (fun q h1 h2=>⟨h2,h1⟩)).bH KQ.ok db).gr KQ.ok (Gr.gb ac) (fun ah hb=>by simp[Value.ownBlock] at hb;omega) (fun q _ b=>b.1.2.2)).imp KQ.ok (P':=fun q=>((P q/\q<w.heap.size)∨o.heap.size<=q)/\q≠l/\q≠c') (fun q _ b=>⟨b.1.1,b.1.2.1,by have:=b.1.2.2;have:=b.2;omega⟩);have B8:=(B6.bH db).lV (fw ac (B6.bH db).lt om);have aq:=G8.imp KQ.ok (P':=fun q=>((P q/\q<w.heap.size)∨o.heap.size<=q)/\q≠l/\(Value.s y (N+k) k').ownBlock≠some q) (fun q _ b=>⟨b.1,b.2.1,fun e=>by simp[Value.ownBlock] at e;exact b.2.2 e.symm⟩);have Z:Gr (fun q=>q=l∨q=O) o w8:=(((gr.trans (Gr.of W) (T':=fun _=>False) (fun _ _ h=>h.elim)).trans a5 (fun q b h=>by
       rcases h with h | h
       . exact .inl h
       . have:=z q h;omega)).trans (Gr.of db) (T':=fun _=>False) (fun _ _ h=>h.elim)).trans (Gr.gb ac) (fun q b e=>by omega)
      have ba:=aR B8;have bd:=aR au;have bb:=aR aq;have bc:=aR Z;clear B8 au aq Z G8 ac ao ag a5 B6 T6 c8 aw L RF;go_wp2;go_roundw
      case rel=>exact⟨r+1,N+k,om,by rw[HN.out,bI,dS],by go_num,bc.out,jp y 0,k',ca,c',b4,b9,rfl,ba.out,by rw[bz.out];exact bd.out,by rw[ie,<-bj.out];exact bb.out,om,fun G H=>by simp[Value.ownBlock] at H;omega,.inr ⟨y,rfl⟩⟩
      case measure=>exact yI
  . have e:r=d:=om;subst e;have cy:¬(r:Int)<r:=om;obtain⟨X,rfl⟩:∃G,S=jp G 0:=by
     rcases bu with h | h
     . omega
     . exact h
    have H:=ak X rfl;have c6:=c7.lt;have c4:=c5.lt;have bi:=c7.cap;have bh:=c5.cap;obtain⟨q0,q1,q2⟩:=Bm.g;have A4:=A1.lV (gr.block _ A1.lt om);go_wp2_with fail;refine (aix).mono ?_;rintro e w5 ⟨rfl,da⟩;have A5:=A4.bH da;obtain⟨a0,a1,a2,a3⟩:=A5.g;have af:=A5.f;have z5:=da.size;have S5:=Sr.tr da;have AF:=aR ((((A5.gH (.i (r:Int))).gM (.i (k:Int))).gZ (.s X N Q)).rL (.s f r bm));have SF:=aR ((((S5.setCell (a:=jj w.heap.size 0) zR (.i (r:Int))).setCell (a:=jj w.heap.size 1) zR (.i (k:Int))).setCell (a:=jj w.heap.size 2) zR (.s X N Q)).setCell (a:=jj w.heap.size 3) zR (.s f r bm));have Z:Gr (fun q=>q=w.heap.size) w5 _:=(((Gr.put (T:=fun q=>q=w.heap.size) (Gr.refl _ _) (.inl rfl) 0 (.i (r:Int))).put (.inl rfl) 1 (.i (k:Int))).put (.inl rfl) 2 (.s X N Q)).put (.inl rfl) 3 (.s f r bm);have zF:=Z.size;have a9:=aR ((((c7.bH KQ.ok da).gr KQ.ok Z (fun ah hb=>by simp[Value.ownBlock] at hb;omega) (fun q _ b=>by rcases b.1 with h | h<;>omega)).ml KQ.ok).imp KQ.ok (p':=fun q=>P q∨w.heap.size<=q) (fun q _ b=>by rcases b.1.1 with h | h;exact .inl h.1;exact .inr om));have a8:=aR ((((c5.bH KQ.ok da).gr KQ.ok Z (fun ah hb=>by simp[Value.ownBlock] at hb;omega) (fun q _ b=>by rcases b.1 with h | h<;>omega)).ml KQ.ok).imp KQ.ok (p':=fun q=>P q∨w.heap.size<=q) (fun q _ b=>by rcases b.1.1 with h | h;exact .inl h.1;exact .inr om));have lF:=aR (show X<_/\f<_ from⟨aS (show X<w5.heap.size by omega) zF,aS (show f<w5.heap.size by omega) zF⟩);have lc:=aR (show w.heap.size<=X/\w.heap.size<=f by omega);clear Z zF c7 c5 A5 A4 A1 gr Bm S1 S5 da;go_wp2;refine bO (qI rfl underlying58 rfl kr _ _ w.heap.size _ _ _ _ rfl AF.out) rfl ?_;have hn:=HN.out;subst hn;exact⟨X,Q,f,bm,rfl,bi,bh,lc.out.1,lc.out.2,lF.out.1,lF.out.2,a9.out,a8.out,SF.out⟩
end Go.Proofs.YtaeieekkddndhaaGreat
