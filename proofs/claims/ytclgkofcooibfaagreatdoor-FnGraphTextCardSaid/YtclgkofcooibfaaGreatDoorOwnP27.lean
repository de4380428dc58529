import Derived.Test.YtclgkofcooibfaaGreatDoorOwnP30
import Derived.Deep.Onto
set_option maxHeartbeats 6400000
set_option maxRecDepth 100000
namespace Go.Proofs.YtclgkofcooibfaaGreatDoor
open Go.RowKit
theorem iL{P:Program}(w:World){ops:Array Oper}{rest:List Oper}{o:Oper}{a:Act}{Q:Exit->Act->World->Prop}(hgd:o.guard=none)(s x:Operand)(t:TypeId)
 (ho:o.op=.call { callee:=.builtin .append,args:= #[s,x],argTypes:= #[t,t] })
 (base:Nat)(e:TypeId)(i:TypeInfo)(z:Value)(size bytes:Nat)(ht:P.underlying t=some (.slice e))(hi:P.info? e=some i)(hz:i.zero=some z)
 (hsize:i.size=size)(hby:i.bytes=bytes)(hzs:z.cells.size=size)(hsz:0<size)
 (v:Value)(n:Nat)(xs:List Value)(hs:a.eval s=v)(hown:w.ownsRow base e size v n xs)
 (q:Option Addr)(m c:Nat)(news:List Value)(hx:a.eval x=.slice q m c)(hl:news.length=m*size)(hq:q=none->m=0/\c=0)(hnews:∀ad,q=some ad->∀j u,news[j]?=some u->w.cell? (ad.add j)=some u)(h1:∀u∈news,u.oneCell'=true)
 (h63:n+m<=maxLen)(hbytes:(n+m)*bytes<=140737488355328)(hbase:base<=w.heap.size)
 (h:∀v' w',w'.ownsRow base e size v' (n+m) (xs++news)->w.grownBy w' v.ownBlock->(v'=.n↔v=.n/\m=0)->wpList P ops Q rest (a.put o.dst v') w'):wpList P ops Q (o::rest) a w:=by
 rcases q with _ | ad
 . obtain⟨rfl,rfl⟩:=hq rfl
   obtain rfl:news=[]:=List.length_eq_zero_iff.mp om;refine wpList_append_own_none hgd s x t ho base e i size ht hi v n xs hs hown hx (h v w ?_ ?_ ?_)
   . rw[List.append_nil];exact hown
   . exact⟨rfl,rfl,rfl,Nat.le_refl _,fun _ _ _=>rfl⟩
   . simp
 . exact wpList_append_own w hgd s x t ho base e i z size bytes ht hi hz hsize hby hzs hsz v n xs hs hown ad m c news hx hl (hnews ad rfl) h1 h63 hbytes hbase h
theorem so{w:World}{a:Option Addr}{b off n:Nat}{X:Nat->Nat}(h:ag w a b off n X):∀ad,a=some ad->∀j u,(ll X n)[j]?=some u->w.cell? (ad.add j)=some u:=by
 intro ad e;subst e;exact uF h
theorem tJ{w w':World}{base c:Nat}{e:TypeId}{size:Nat}{v:Value}{n:Nat}{xs:List Value}(h:w.ownsRow base e size v n xs)(s:cu c w w')(hc:c<base):w'.ownsRow base e size v n xs:=
 h.kept (row:=some c) ⟨s.os,s.tape,s.output,s.size,fun k h1 h2=>s.block k h1 (fun e=>h2 (by rw[e]))⟩ (Or.inr (fun e=>by have:=(h.lt c e).1;omega))
theorem gX{w:World}{base g n c:Nat}{X:Nat->Nat}(h:w.ownsRow base 129 1 (.s g n c) n (ll X n)):n<=c/\ag w (jp g 0) g 0 n X/\∀o,w.frozen? (jj g o)=false:=by
 obtain⟨g',c',e,m1,-,-,L,F⟩:=bX h qz;cases e;exact⟨m1,L,F⟩
theorem ph{f:Bool}{x y:Option Addr}{ba oa n ca bb ob m cb:Nat}{X Y:Nat->Nat}{w:World}(hn:n<=16777216)(hm:m<=16777216)(hnc:n<=ca)(hmc:m<=cb)(hxc:x=none->ca=0)(hyc:y=none->cb=0)(hX:ag w x ba oa n X)(hY:ag w y bb ob m Y):
 Calls Tryz.prog 140 #[.agg #[.bool f,.slice x n ca,.slice y m cb]] w fun e w'=>∃g h c1 c2,e=.returned (.agg #[.bool f,.slice (some ⟨g,0,none⟩) n c1,.slice (some ⟨h,0,none⟩) m c2])/\w'.ownsRow (w.heap.size+1+1) 129 1 (.slice (some ⟨g,0,none⟩) n c1) n (ll X n)/\w'.ownsRow (w.heap.size+1+1) 129 1 (.slice (some ⟨h,0,none⟩) m c2) m (ll Y m)/\w.heap.size+1+1<=g/\g<h/\h<w'.heap.size/\w.Since w.heap.size w':=by
 obtain⟨i0,hi,hz0,hz1,hz2⟩:=info_parts Tryz.info129;have sA:w.Since w.heap.size ((w.alloc (.cells #[.bool f,.slice x n ca,.slice y m cb] 44)).alloc (.cells #[.bool false,.slice none 0 0,.slice none 0 0] 44)):=((eg _ _).alloc (Nat.le_refl _) _).alloc qz _;have oA:bj ((w.alloc (.cells #[.bool f,.slice x n ca,.slice y m cb] 44)).alloc (.cells #[.bool false,.slice none 0 0,.slice none 0 0] 44)) w.heap.size (.bool f) (.slice x n ca) (.slice y m cb):=(bj.new w _ _ _ _).aA ((eg _ _).alloc (Nat.le_refl _) _);have tB:((w.alloc (.cells #[.bool f,.slice x n ca,.slice y m cb] 44)).alloc (.cells #[.bool false,.slice none 0 0,.slice none 0 0] 44)).Since ((w.alloc (.cells #[.bool f,.slice x n ca,.slice y m cb] 44)).alloc (.cells #[.bool false,.slice none 0 0,.slice none 0 0] 44)).heap.size (((w.alloc (.cells #[.bool f,.slice x n ca,.slice y m cb] 44)).alloc (.cells #[.bool false,.slice none 0 0,.slice none 0 0] 44)).alloc (.cells #[] 129)):=(eg _ _).alloc (Nat.le_refl _) _;have SB:=sA.trans (sM tB sA.size);have X1:=hX.aA SB;have own1:=pv (e:=129) (size:=1) ((w.alloc (.cells #[.bool f,.slice x n ca,.slice y m cb] 44)).alloc (.cells #[.bool false,.slice none 0 0,.slice none 0 0] 44)) #[] 0 (Nat.le_refl _) qd rfl;have zA:((w.alloc (.cells #[.bool f,.slice x n ca,.slice y m cb] 44)).alloc (.cells #[.bool false,.slice none 0 0,.slice none 0 0] 44)).heap.size=w.heap.size+1+1:=by simp
 have own0:=pv (e:=129) (size:=1) ((w.alloc (.cells #[.bool f,.slice x n ca,.slice y m cb] 44)).alloc (.cells #[.bool false,.slice none 0 0,.slice none 0 0] 44)) #[] 0 (Nat.le_refl _) qd rfl;rw[zA] at own1;have zA':=zA
 have rA:bj ((w.alloc (.cells #[.bool f,.slice x n ca,.slice y m cb] 44)).alloc (.cells #[.bool false,.slice none 0 0,.slice none 0 0] 44)) (w.heap.size+1) (.bool false) (.slice none 0 0) (.slice none 0 0):=by
  have:=bj.new (w.alloc (.cells #[.bool f,.slice x n ca,.slice y m cb] 44)) (.bool false) (.slice none 0 0) (.slice none 0 0) 44
  simpa using this
 have HZA:=ae zA';clear zA zA';go_enter Tryz.func140,Tryz.ntmps140
 go_wp2_with (at_builtin;refine iL _ rfl _ _ 42 rfl (w.heap.size+1+1) 129 i0 (.int .u32 0) 1 4 Tryz.underlying42 hi hz0 hz1 hz2 rfl qd _ 0 [] rfl own1 x n ca (ll X n) rfl (by rw[mC];omega) (fun e=>by have:=hxc e;omega) (so X1) (abj X n) (by unfold maxLen;omega) om qz ?_)
 intro v1 w2 own2 grow2 nn2
 have tC:((w.alloc (.cells #[.bool f,.slice x n ca,.slice y m cb] 44)).alloc (.cells #[.bool false,.slice none 0 0,.slice none 0 0] 44)).Since ((w.alloc (.cells #[.bool f,.slice x n ca,.slice y m cb] 44)).alloc (.cells #[.bool false,.slice none 0 0,.slice none 0 0] 44)).heap.size w2:=tB.grown grow2 (Nat.le_trans (Nat.le_refl _) tB.size) (fun k hk=>by
  have:=own0.lt k (by rw[HZA.out];exact hk);exact this.1)
 have SC:=sA.trans (sM tC sA.size);have o2:=oA.aA tC;have r2:=rA.aA tC;have HN:=ae nn2;clear grow2 own1 nn2;generalize ((w.alloc (.cells #[.bool f,.slice x n ca,.slice y m cb] 44)).alloc (.cells #[.bool false,.slice none 0 0,.slice none 0 0] 44))=wA at*;have tD:=bJ w2 (.cells #[] 129);have SD:=SC.trans (sM tD SC.size);have Y1:=hY.aA SD;have own3:=pv (e:=129) (size:=1) w2 #[] 0 (Nat.le_refl _) qd rfl;have o3:=o2.aA tD;have k2:=o3.c2
 go_wp2_with (at_builtin;refine iL _ rfl _ _ 42 rfl w2.heap.size 129 i0 (.int .u32 0) 1 4 Tryz.underlying42 hi hz0 hz1 hz2 rfl qd _ 0 [] rfl own3 y m cb (ll Y m) rfl (by rw[mC];omega) (fun e=>by have:=hyc e;omega) (so Y1) (abj Y m) (by unfold maxLen;omega) om tD.size ?_)
 intro v3 w4 own4 grow4 nn4;have tE:w2.Since w2.heap.size w4:=tD.grown grow4 tD.size (fun k hk=>(own3.lt k hk).1);have SE:=SC.trans (sM tE SC.size);have o4:=o2.aA tE;have r4:=r2.aA tE;obtain⟨g1,c1,rfl,m1,b1,l1,L1,F1⟩:=bX own2 HN.out;obtain⟨g2,c2,rfl,m2,b2,l2,L2,F2⟩:=bX own4 nn4;have HO2:=ae own2;have HO4:=ae own4;clear own2 own4;clear grow4 own3 nn4 k2 o3;have j0:=o4.c0;have u0:=r4.c0;have u1:=r4.c1;have u2:=r4.c2;have uf0:=r4.f 0;have uf1:=r4.f 1;have uf2:=r4.f 2;go_wp2;have zC:=tC.size;have zE:=tE.size;have rC:=((r4.aE (.bool f)).aG (.slice (some ⟨g1,0,none⟩) n c1)).aF (.slice (some ⟨g2,0,none⟩) m c2);refine bodyPost_ret (mu rfl _ _ _ _ _ _ rfl rC) rfl ?_;have M:af w4 _ (w.heap.size+1):=(((af.refl w4 _).setCell 0 (.bool f)).setCell 1 (.slice (some ⟨g1,0,none⟩) n c1)).setCell 2 (.slice (some ⟨g2,0,none⟩) m c2);have hz:=HZA.out;have zM:=M.size;have P2:=tJ (tJ HO2.out (cu.aC w.heap.size tE) om) (cu.aP M) om;have P4:=tJ HO4.out (cu.aP M) om;exact⟨g1,g2,c1,c2,rfl,P2,P4.mono om,om,om,om,SE.trans (M.since om)⟩
theorem uM{f:Bool}(x y:Addr){ba oa n ca bb ob m cb:Nat}{X Y:Nat->Nat}{w:World}(hn:n<=16777216)(hm:m<=16777216)(_hnc:n<=ca)(_hmc:m<=cb)(hX:ag w (some x) ba oa n X)(hY:ag w (some y) bb ob m Y):
 Cl 140 #[.agg #[.bool f,.slice (some x) n ca,.slice (some y) m cb]] w fun e w'=>∃a1 a2 g h c1 c2,e=.returned (.agg #[.bool f,.slice a1 n c1,.slice a2 m c2])/\n<=c1/\m<=c2/\(a1=none->c1=0)/\(a2=none->c2=0)/\
  ag w' a1 g 0 n X/\ag w' a2 h 0 m Y/\(0<n->∀o,w'.frozen? (jj g o)=false)/\(0<m->∀o,w'.frozen? (jj h o)=false)/\w.heap.size<=g/\g<h/\h<w'.heap.size/\w.S w':=
 (ph hn hm _hnc _hmc (fun h=>by cases h) (fun h=>by cases h) hX hY).mono fun _ _ ⟨g,h,c1,c2,he,o1,o2,z1,z2,z3,s⟩=>⟨_,_,g,h,c1,c2,he,(gX o1).1,(gX o2).1,fun h=>(by cases h),fun h=>(by cases h),(gX o1).2.1,(gX o2).2.1,fun _=>(gX o1).2.2,fun _=>(gX o2).2.2,om,z2,z3,s⟩
theorem ww{f f':Bool}{X X' Y Y':Nat->Nat}{n n' m m':Nat}(ok:bM f X n Y m=true)(ok':bM f' X' n' Y' m'=true)(h0:n=0):
 (du f f' (lv X n*lv Y' m') (lv X' n'*lv Y m)&&bz f f' (lv X n*lv Y' m') (lv X' n'*lv Y m) != 0)=f'/\bz f f' (lv X n*lv Y' m') (lv X' n'*lv Y m)/Nat.gcd (bz f f' (lv X n*lv Y' m') (lv X' n'*lv Y m)) (lv Y m*lv Y' m')=lv X' n'/\(lv Y m*lv Y' m')/Nat.gcd (bz f f' (lv X n*lv Y' m') (lv X' n'*lv Y m)) (lv Y m*lv Y' m')=lv Y' m':=by
 subst h0;unfold bM at ok ok';simp only[Bool.and_eq_true,bne_iff_ne,beq_iff_eq,Bool.not_eq_true',Bool.and_eq_false_imp] at ok ok';have hf:f=false:=by cases f;rfl;have:=ok.1.2;simp at this
 have hY:lv Y m=1:=by have:=ok.2;simpa [lv] using this
 have hg:=ok'.2
 have hx:f'=true->lv X' n'≠0:=fun e h=>by
  have h1:=(gU (dX.1 ok'.1.1.1.1)).2 h;have:=ok'.1.2 e
  simp[h1] at this
 subst hf
 have hST:bz false f' (lv X 0*lv Y' m') (lv X' n'*lv Y m)=lv X' n':=by
  simp only[lv,Nat.zero_mul,hY,Nat.mul_one,bz];cases f'
  . simp
  . have:=hx rfl
    simp;omega
 rw[hST,hY,Nat.one_mul,hg,Nat.div_one,Nat.div_one];refine⟨?_,rfl,rfl⟩;simp only[lv,Nat.zero_mul,Nat.mul_one,du];cases f'
 . simp
 . have:=hx rfl
   have h2:0<lv X' n':=om
   simp[h2];omega
theorem wv{f f':Bool}{X X' Y Y':Nat->Nat}{n n' m m':Nat}(ok:bM f X n Y m=true)(ok':bM f' X' n' Y' m'=true)(h0:n'=0):
 (du f f' (lv X n*lv Y' m') (lv X' n'*lv Y m)&&bz f f' (lv X n*lv Y' m') (lv X' n'*lv Y m) != 0)=f/\bz f f' (lv X n*lv Y' m') (lv X' n'*lv Y m)/Nat.gcd (bz f f' (lv X n*lv Y' m') (lv X' n'*lv Y m)) (lv Y m*lv Y' m')=lv X n/\(lv Y m*lv Y' m')/Nat.gcd (bz f f' (lv X n*lv Y' m') (lv X' n'*lv Y m)) (lv Y m*lv Y' m')=lv Y m:=by
 subst h0;unfold bM at ok ok';simp only[Bool.and_eq_true,bne_iff_ne,beq_iff_eq,Bool.not_eq_true',Bool.and_eq_false_imp] at ok ok';have hf:f'=false:=by cases f';rfl;have:=ok'.1.2;simp at this
 have hY:lv Y' m'=1:=by have:=ok'.2;simpa [lv] using this
 have hg:=ok.2
 have hx:f=true->lv X n≠0:=fun e h=>by
  have h1:=(gU (dX.1 ok.1.1.1.1)).2 h;have:=ok.1.2 e
  simp[h1] at this
 subst hf
 have hST:bz f false (lv X n*lv Y' m') (lv X' 0*lv Y m)=lv X n:=by
  simp only[lv,Nat.zero_mul,hY,Nat.mul_one,bz];cases f
  . simp
  . simp
 rw[hST,hY,Nat.mul_one,Nat.mul_one,hg,Nat.div_one,Nat.div_one];refine⟨?_,rfl,rfl⟩;simp only[lv,Nat.zero_mul,du];cases f
 . simp
 . have:=hx rfl
   simp;omega
theorem abz{f f':Bool}(a b a' b':Addr){ba oa n ca bb ob m cb ba' oa' n' ca' bb' ob' m' cb':Nat}{X Y X' Y':Nat->Nat}{w:World}(hn:n+n'+m+m'<=16777216)
 (R:qJ w (some a) (some b) ba oa n ca bb ob m cb X Y)(R':qJ w (some a') (some b') ba' oa' n' ca' bb' ob' m' cb' X' Y')(ok:bM f X n Y m=true)(ok':bM f' X' n' Y' m'=true)(h0:n=0∨n'=0):
 Cl 96 #[.agg #[.bool f,.slice (some a) n ca,.slice (some b) m cb],.agg #[.bool f',.slice (some a') n' ca',.slice (some b') m' cb']] w fun e w'=>∃v,e=.returned v/\
  dM w' v (du f f' (lv X n*lv Y' m') (lv X' n'*lv Y m)&&bz f f' (lv X n*lv Y' m') (lv X' n'*lv Y m) != 0) (bz f f' (lv X n*lv Y' m') (lv X' n'*lv Y m)/Nat.gcd (bz f f' (lv X n*lv Y' m') (lv X' n'*lv Y m)) (lv Y m*lv Y' m')) ((lv Y m*lv Y' m')/Nat.gcd (bz f f' (lv X n*lv Y' m') (lv X' n'*lv Y m)) (lv Y m*lv Y' m')) w.heap.size 67108864/\w.S w':=by
 have hne2:w.heap.size+1+1≠w.heap.size:=om
 obtain⟨sA,zA,oA,pA,rA⟩:=bx w (.bool f) (.slice (some a) n ca) (.slice (some b) m cb) (.bool f') (.slice (some a') n' ca') (.slice (some b') m' cb') (.bool false) (.n) (.n)
 by_cases h1:n=0
 . have hZ:=ww ok ok' h1
   rw[hZ.1,hZ.2.1,hZ.2.2];subst h1;obtain⟨k0,k1,k2⟩:=pA.g;go_enter Tryz.func96,Tryz.ntmps96;go_wp2_with fail;generalize (((w.alloc _).alloc _).alloc _)=w1 at*;refine (uM a' b' om om R'.nc R'.mc (R'.aA sA).LX (R'.aA sA).LY).mono ?_;rintro e w6 ⟨a1,a2,g6,h6,c1,c2,rfl,v1,v2,v3,v4,N6,D6,FN,FD,y1,y2,y3,s6⟩;have rB:=rA.aA s6;have S6:=sA.tr s6;obtain⟨u0,u1,u2⟩:=rB.g;obtain⟨uf0,uf1,uf2⟩:=rB.k;go_wp2;have rC:=((rB.aE (.bool f')).aG (.slice a1 n' c1)).aF (.slice a2 m' c2);refine bodyPost_ret (mu rfl _ _ _ _ _ _ rfl rC) rfl ?_;have M:af w6 _ (w.heap.size+1+1):=(((af.refl w6 _).setCell 0 (.bool f')).setCell 1 (.slice a1 n' c1)).setCell 2 (.slice a2 m' c2);have N7:bU w6 (.slice a1 n' c1) g6 (lv X' n') 67108864:=⟨_,_,_,X',rfl,v1,om,v3,N6,FN,R'.lX,R'.pX,rfl⟩;have D7:bU w6 (.slice a2 m' c2) h6 (lv Y' m') 67108864:=⟨_,_,_,Y',rfl,v2,om,v4,D6,FD,R'.lY,R'.pY,rfl⟩;exact⟨_,rfl,⟨_,_,g6,h6,rfl,N7.marked M om,D7.marked M om,om,om,om⟩,S6.trans (M.since om)⟩
 . have h2:n'=0:=om
   have hZ:=wv ok ok' h2;rw[hZ.1,hZ.2.1,hZ.2.2];subst h2;have q1:((n:Int)==0)=false:=by simp;omega
   obtain⟨k0,k1,k2⟩:=oA.g;go_enter Tryz.func96,Tryz.ntmps96;go_wp2_with fail;generalize (((w.alloc _).alloc _).alloc _)=w1 at*;refine (uM a b om om R.nc R.mc (R.aA sA).LX (R.aA sA).LY).mono ?_;rintro e w6 ⟨a1,a2,g6,h6,c1,c2,rfl,v1,v2,v3,v4,N6,D6,FN,FD,y1,y2,y3,s6⟩;have rB:=rA.aA s6;have S6:=sA.tr s6;obtain⟨u0,u1,u2⟩:=rB.g;obtain⟨uf0,uf1,uf2⟩:=rB.k;go_wp2;have rC:=((rB.aE (.bool f)).aG (.slice a1 n c1)).aF (.slice a2 m c2);refine bodyPost_ret (mu rfl _ _ _ _ _ _ rfl rC) rfl ?_;have M:af w6 _ (w.heap.size+1+1):=(((af.refl w6 _).setCell 0 (.bool f)).setCell 1 (.slice a1 n c1)).setCell 2 (.slice a2 m c2);have N7:bU w6 (.slice a1 n c1) g6 (lv X n) 67108864:=⟨_,_,_,X,rfl,v1,om,v3,N6,FN,R.lX,R.pX,rfl⟩;have D7:bU w6 (.slice a2 m c2) h6 (lv Y m) 67108864:=⟨_,_,_,Y,rfl,v2,om,v4,D6,FD,R.lY,R.pY,rfl⟩;exact⟨_,rfl,⟨_,_,g6,h6,rfl,N7.marked M om,D7.marked M om,om,om,om⟩,S6.trans (M.since om)⟩
theorem aam{f f':Bool}(a b a' b':Addr){ba oa n ca bb ob m cb ba' oa' n' ca' bb' ob' m' cb':Nat}{X Y X' Y':Nat->Nat}{w:World}(_hn:n+n'+m+m'<=16777216)
 (R:qJ w (some a) (some b) ba oa n ca bb ob m cb X Y)(R':qJ w (some a') (some b') ba' oa' n' ca' bb' ob' m' cb' X' Y')(h1:0<n)(h2:0<n')(hs:fj X n Y m=true)(hs':fj X' n' Y' m'=true):
 Cl 96 #[.agg #[.bool f,.slice (some a) n ca,.slice (some b) m cb],.agg #[.bool f',.slice (some a') n' ca',.slice (some b') m' cb']] w fun e w'=>∃v,e=.returned v/\
  dM w' v (du f f' (lv X n*lv Y' m') (lv X' n'*lv Y m)&&bz f f' (lv X n*lv Y' m') (lv X' n'*lv Y m) != 0) (bz f f' (lv X n*lv Y' m') (lv X' n'*lv Y m)/Nat.gcd (bz f f' (lv X n*lv Y' m') (lv X' n'*lv Y m)) (lv Y m*lv Y' m')) ((lv Y m*lv Y' m')/Nat.gcd (bz f f' (lv X n*lv Y' m') (lv X' n'*lv Y m)) (lv Y m*lv Y' m')) w.heap.size 67108864/\w.S w':=by
 have hne2:w.heap.size+1+1≠w.heap.size:=om
 obtain⟨sA,zA,oA,pA,rA⟩:=bx w (.bool f) (.slice (some a) n ca) (.slice (some b) m cb) (.bool f') (.slice (some a') n' ca') (.slice (some b') m' cb') (.bool false) (.n) (.n);obtain⟨s1,s2',s3',s4'⟩:=jA.1 hs;obtain⟨t1,t2',t3',t4'⟩:=jA.1 hs';obtain⟨x,hx⟩:∃x,x=lv X n:=⟨_,rfl⟩;obtain⟨y,hy⟩:∃y,y=lv Y m:=⟨_,rfl⟩;obtain⟨x',hx'⟩:∃x',x'=lv X' n':=⟨_,rfl⟩;obtain⟨y',hy'⟩:∃y',y'=lv Y' m':=⟨_,rfl⟩;have hyp:0<y*y':=by rw[hy,hy'];exact Nat.mul_pos R.den R'.den
 rw[<-hx] at s3';rw[<-hy] at s4';rw[<-hx'] at t3';rw[<-hy'] at t4';obtain⟨p,hp⟩:∃p,p=x*y':=⟨_,rfl⟩;obtain⟨r,hr⟩:∃r,r=x'*y:=⟨_,rfl⟩;obtain⟨q,hq⟩:∃q,q=y*y':=⟨_,rfl⟩;have hpl:p<9223372036854775808:=by rw[hp];exact Nat.lt_of_le_of_lt (Nat.mul_le_mul (Nat.le_of_lt s3') (Nat.le_of_lt t4')) om
 have hrl:r<9223372036854775808:=by rw[hr];exact Nat.lt_of_le_of_lt (Nat.mul_le_mul (Nat.le_of_lt t3') (Nat.le_of_lt s4')) om
 have hql:q<9223372036854775808:=by rw[hq];exact Nat.lt_of_le_of_lt (Nat.mul_le_mul (Nat.le_of_lt s4') (Nat.le_of_lt t4')) om
 have hpw:IntKind.u64.wrap ((x:Int)*(y':Int))=(p:Int):=by rw[<-Int.natCast_mul,<-hp];exact bT p om
 have hrw:IntKind.u64.wrap ((x':Int)*(y:Int))=(r:Int):=by rw[<-Int.natCast_mul,<-hr];exact bT r om
 have hqw:IntKind.u64.wrap ((y:Int)*(y':Int))=(q:Int):=by rw[<-Int.natCast_mul,<-hq];exact bT q om
 rw[<-hq] at hyp;rw[<-hx,<-hx',<-hy,<-hy',<-hp,<-hq,<-hr];obtain⟨sn,hSN⟩:∃s,s=du f f' p r:=⟨_,rfl⟩;obtain⟨st,hST⟩:∃s,s=bz f f' p r:=⟨_,rfl⟩;rw[<-hSN,<-hST];have HSN:=ae hSN;have HST:=ae hST;clear hSN hST;have HX:=ae hx;have HY:=ae hy;have HX':=ae hx';have HY':=ae hy';clear s3' s4' t3' t4' hx hy hx' hy' hp hr hq;have q1:((n:Int)==0)=false:=by simp;omega
 have q2:((n':Int)==0)=false:=by simp;omega
 obtain⟨j0,j1,j2⟩:=oA.g;go_enter Tryz.func96,Tryz.ntmps96;go_wp2_with fail;generalize (((w.alloc _).alloc _).alloc _)=w1 at*;have I1:=@fH f (some a) (some b) ba oa n ca bb ob m cb X Y w1 om om (R.aA sA).LX (R.aA sA).LY R.lX R.lY;rw[hs] at I1;refine I1.mono ?_;rintro e w2 ⟨rfl,s2⟩;have S2:=sA.tr s2;have o2:=oA.aA s2;have p2:=pA.aA s2;have r2:=rA.aA s2;have z2:=s2.size;clear I1 j0 j1 j2 oA pA rA;obtain⟨k0,k1,k2⟩:=p2.g;have I2:=@fH f' (some a') (some b') ba' oa' n' ca' bb' ob' m' cb' X' Y' w2 om om (R'.aA S2).LX (R'.aA S2).LY R'.lX R'.lY;rw[hs'] at I2;go_wp2_with fail;refine I2.mono ?_;rintro e w3 ⟨rfl,s3⟩;have S3:=S2.tr s3;have o3:=o2.aA s3;have p3:=p2.aA s3;have r3:=r2.aA s3;have z3:=s3.size;clear I2 k0 k1 k2 o2 p2 r2;have k:=And.intro o3.cells p3.cells;have J1:=@cJ (some a) ba oa n ca X w3.drew s1 (R.aA S3).LX R.lX;have J2:=@cJ (some b) bb ob m cb Y w3.drew s2' (R.aA S3).LY R.lY;have J3:=@cJ (some a') ba' oa' n' ca' X' w3.drew t1 (R'.aA S3).LX R'.lX;have J4:=@cJ (some b') bb' ob' m' cb' Y' w3.drew t2' (R'.aA S3).LY R'.lY;rw[<-HX.out] at J1;rw[<-HY.out] at J2;rw[<-HX'.out] at J3;rw[<-HY'.out] at J4;go_wp2
 go_region_held3 (fun w'=>w'.cell? (jj w.heap.size 0)=some (.bool f)/\w'.cell? (jj w.heap.size 1)=some (.slice (some a) n ca)/\w'.cell? (jj w.heap.size 2)=some (.slice (some b) m cb)/\w'.cell? (jj (w.heap.size+1) 0)=some (.bool f')/\w'.cell? (jj (w.heap.size+1) 1)=some (.slice (some a') n' ca')/\w'.cell? (jj (w.heap.size+1) 2)=some (.slice (some b') m' cb')) (go_keep)
  (first
    | (go_at_call 102
       first
        | (with_reducible refine J1.mono ?_;rintro e v4 ⟨rfl,rfl⟩)
        | (with_reducible refine J4.mono ?_;rintro e v4 ⟨rfl,rfl⟩)))
 have S4:=ao S3;have o4:=o3.drew;have p4:=p3.drew;have r4:=r3.drew;clear k J1 J2 J3 J4 o3 p3 r3;generalize w3.drew=w4 at*;have k:=And.intro o4.cells p4.cells;have J1:=@cJ (some a) ba oa n ca X w4.drew s1 (R.aA S4).LX R.lX;have J2:=@cJ (some b) bb ob m cb Y w4.drew s2' (R.aA S4).LY R.lY;have J3:=@cJ (some a') ba' oa' n' ca' X' w4.drew t1 (R'.aA S4).LX R'.lX;have J4:=@cJ (some b') bb' ob' m' cb' Y' w4.drew t2' (R'.aA S4).LY R'.lY;rw[<-HX.out] at J1;rw[<-HY.out] at J2;rw[<-HX'.out] at J3;rw[<-HY'.out] at J4;go_wp2
 go_region_held3 (fun w'=>w'.cell? (jj w.heap.size 0)=some (.bool f)/\w'.cell? (jj w.heap.size 1)=some (.slice (some a) n ca)/\w'.cell? (jj w.heap.size 2)=some (.slice (some b) m cb)/\w'.cell? (jj (w.heap.size+1) 0)=some (.bool f')/\w'.cell? (jj (w.heap.size+1) 1)=some (.slice (some a') n' ca')/\w'.cell? (jj (w.heap.size+1) 2)=some (.slice (some b') m' cb')) (go_keep)
  (first
    | (go_at_call 102
       first
        | (with_reducible refine J3.mono ?_;rintro e v4 ⟨rfl,rfl⟩)
        | (with_reducible refine J2.mono ?_;rintro e v4 ⟨rfl,rfl⟩)))
 have S5:=ao S4;have o5:=o4.drew;have p5:=p4.drew;have r5:=r4.drew;clear k J1 J2 J3 J4 o4 p4 r4;generalize w4.drew=w5 at*;have k:=And.intro o5.cells p5.cells;have J1:=@cJ (some a) ba oa n ca X w5.drew s1 (R.aA S5).LX R.lX;have J2:=@cJ (some b) bb ob m cb Y w5.drew s2' (R.aA S5).LY R.lY;have J3:=@cJ (some a') ba' oa' n' ca' X' w5.drew t1 (R'.aA S5).LX R'.lX;have J4:=@cJ (some b') bb' ob' m' cb' Y' w5.drew t2' (R'.aA S5).LY R'.lY;rw[<-HX.out] at J1;rw[<-HY.out] at J2;rw[<-HX'.out] at J3;rw[<-HY'.out] at J4;go_wp2
 go_region_held3 (fun w'=>w'.cell? (jj w.heap.size 0)=some (.bool f)/\w'.cell? (jj w.heap.size 1)=some (.slice (some a) n ca)/\w'.cell? (jj w.heap.size 2)=some (.slice (some b) m cb)/\w'.cell? (jj (w.heap.size+1) 0)=some (.bool f')/\w'.cell? (jj (w.heap.size+1) 1)=some (.slice (some a') n' ca')/\w'.cell? (jj (w.heap.size+1) 2)=some (.slice (some b') m' cb')) (go_keep)
  (first
    | (go_at_call 102
       first
        | (with_reducible refine J2.mono ?_;rintro e v4 ⟨rfl,rfl⟩)
        | (with_reducible refine J4.mono ?_;rintro e v4 ⟨rfl,rfl⟩)))
 have S6:=ao S5;have o6:=o5.drew;have p6:=p5.drew;have r6:=r5.drew;clear k J1 J2 J3 J4 o5 p5 r5;generalize w5.drew=w6 at*
 by_cases hff:f=f'
 . subst hff
   have e1:sn=f:=by rw[HSN.out];simp[du]
   have e2:st=p+r:=by rw[HST.out];simp[bz]
   clear HSN HST;have HE1:=ae e1;clear e1;subst e2;have HS:=ae S6;have k:=And.intro o6.cells p6.cells;have hsw:IntKind.u64.wrap ((p:Int)+(r:Int))=((p+r:Nat):Int):=by rw[<-Int.natCast_add];exact bT (p+r) om
   have J5:=@fE f (p+r) q w6 om om hyp;go_wp2_with fail;refine J5.mono ?_;rintro e w7 ⟨v,rfl,⟨x1,x2,g6,h6,rfl,N6,D6,y1,y2,y3⟩,s6⟩;have N6':=N6;have D6':=D6;obtain⟨a1,q1,c1,Y1,rfl,-⟩:=N6;obtain⟨a2,q2,c2,Y2,rfl,-⟩:=D6;have rB:=r6.aA s6;obtain⟨u0,u1,u2⟩:=rB.g;obtain⟨uf0,uf1,uf2⟩:=rB.k;go_wp2;have S7:w.S w7:=HS.out.trans (sM s6 HS.out.size);have rl:=r6.lt;have rC:=((rB.aE (.bool (f&&(p+r) != 0))).aG (.slice a1 q1 c1)).aF (.slice a2 q2 c2);refine bodyPost_ret (mu rfl _ _ _ _ _ _ rfl rC) rfl ?_;have M:af w7 _ (w.heap.size+1+1):=(((af.refl w7 _).setCell 0 (.bool (f&&(p+r) != 0))).setCell 1 (.slice a1 q1 c1)).setCell 2 (.slice a2 q2 c2);exact⟨_,rfl,⟨_,_,g6,h6,by rw[HE1.out],N6'.marked M om,D6'.marked M om,om,om,y3⟩,S7.trans (M.since om)⟩
 . have hfb:(f==f')=false:=by simp[hff]
   by_cases hlt:p<r
   . have hge:¬((r:Int)<=p):=om
     have e1:sn=f':=by rw[HSN.out];simp[du,hff,hlt]
     have e2:st=r-p:=by rw[HST.out];simp[bz,hff,hlt]
     clear HSN HST;have HE1:=ae e1;clear e1;subst e2;have HS:=ae S6;have k:=And.intro o6.cells p6.cells;have hsw:IntKind.u64.wrap ((r:Int)-(p:Int))=((r-p:Nat):Int):=by rw[<-Int.ofNat_sub om];exact bT (r-p) om
     clear hff;have J5:=@fE f' (r-p) q w6 om om hyp;go_wp2_with fail;refine J5.mono ?_;rintro e w7 ⟨v,rfl,⟨x1,x2,g6,h6,rfl,N6,D6,y1,y2,y3⟩,s6⟩;have N6':=N6;have D6':=D6;obtain⟨a1,q1,c1,Y1,rfl,-⟩:=N6;obtain⟨a2,q2,c2,Y2,rfl,-⟩:=D6;have rB:=r6.aA s6;obtain⟨u0,u1,u2⟩:=rB.g;obtain⟨uf0,uf1,uf2⟩:=rB.k;go_wp2;have S7:w.S w7:=HS.out.trans (sM s6 HS.out.size);have rl:=r6.lt;have rC:=((rB.aE (.bool (f'&&(r-p) != 0))).aG (.slice a1 q1 c1)).aF (.slice a2 q2 c2);refine bodyPost_ret (mu rfl _ _ _ _ _ _ rfl rC) rfl ?_;have M:af w7 _ (w.heap.size+1+1):=(((af.refl w7 _).setCell 0 (.bool (f'&&(r-p) != 0))).setCell 1 (.slice a1 q1 c1)).setCell 2 (.slice a2 q2 c2);exact⟨_,rfl,⟨_,_,g6,h6,by rw[HE1.out],N6'.marked M om,D6'.marked M om,om,om,y3⟩,S7.trans (M.since om)⟩
   . have hge:(r:Int)<=p:=om
     have e1:sn=f:=by rw[HSN.out];simp[du,hff,hlt]
     have e2:st=p-r:=by rw[HST.out];simp[bz,hff,hlt]
     clear HSN HST;have HE1:=ae e1;clear e1;subst e2;have HS:=ae S6;have k:=And.intro o6.cells p6.cells;have hsw:IntKind.u64.wrap ((p:Int)-(r:Int))=((p-r:Nat):Int):=by rw[<-Int.ofNat_sub om];exact bT (p-r) om
     clear hff;have J5:=@fE f (p-r) q w6 om om hyp;go_wp2_with fail;refine J5.mono ?_;rintro e w7 ⟨v,rfl,⟨x1,x2,g6,h6,rfl,N6,D6,y1,y2,y3⟩,s6⟩;have N6':=N6;have D6':=D6;obtain⟨a1,q1,c1,Y1,rfl,-⟩:=N6;obtain⟨a2,q2,c2,Y2,rfl,-⟩:=D6;have rB:=r6.aA s6;obtain⟨u0,u1,u2⟩:=rB.g;obtain⟨uf0,uf1,uf2⟩:=rB.k;go_wp2;have S7:w.S w7:=HS.out.trans (sM s6 HS.out.size);have rl:=r6.lt;have rC:=((rB.aE (.bool (f&&(p-r) != 0))).aG (.slice a1 q1 c1)).aF (.slice a2 q2 c2);refine bodyPost_ret (mu rfl _ _ _ _ _ _ rfl rC) rfl ?_;have M:af w7 _ (w.heap.size+1+1):=(((af.refl w7 _).setCell 0 (.bool (f&&(p-r) != 0))).setCell 1 (.slice a1 q1 c1)).setCell 2 (.slice a2 q2 c2);exact⟨_,rfl,⟨_,_,g6,h6,by rw[HE1.out],N6'.marked M om,D6'.marked M om,om,om,y3⟩,S7.trans (M.since om)⟩
theorem Tr.bits{w:World}{a:Option Addr}{n cap:Nat}{A:Nat->Bool}(h:Tr w (.slice a n cap) n A):∃b off,n<=cap/\dz w a b off n A/\(0<n->A (n-1)=true):=by
 obtain⟨a',b,off,c,e,h1,h2,h3⟩:=h;cases e;exact⟨b,off,h1,h2,h3⟩
theorem wT{f f':Bool}(a b a' b':Addr){ba oa n ca bb ob m cb ba' oa' n' ca' bb' ob' m' cb':Nat}{X Y X' Y':Nat->Nat}{w:World}(hn:n+n'+m+m'<=16777216)
 (R:qJ w (some a) (some b) ba oa n ca bb ob m cb X Y)(R':qJ w (some a') (some b') ba' oa' n' ca' bb' ob' m' cb' X' Y')(h1:0<n)(h2:0<n')(hs:fj X n Y m=false∨(fj X n Y m=true/\fj X' n' Y' m'=false)):
 Cl 96 #[.agg #[.bool f,.slice (some a) n ca,.slice (some b) m cb],.agg #[.bool f',.slice (some a') n' ca',.slice (some b') m' cb']] w fun e w'=>∃v,e=.returned v/\
  dM w' v (du f f' (lv X n*lv Y' m') (lv X' n'*lv Y m)&&bz f f' (lv X n*lv Y' m') (lv X' n'*lv Y m) != 0) (bz f f' (lv X n*lv Y' m') (lv X' n'*lv Y m)/Nat.gcd (bz f f' (lv X n*lv Y' m') (lv X' n'*lv Y m)) (lv Y m*lv Y' m')) ((lv Y m*lv Y' m')/Nat.gcd (bz f f' (lv X n*lv Y' m') (lv X' n'*lv Y m)) (lv Y m*lv Y' m')) w.heap.size 67108864/\w.S w':=by
 have hne2:w.heap.size+1+1≠w.heap.size:=om
 obtain⟨sA,zA,oA,pA,rA⟩:=bx w (.bool f) (.slice (some a) n ca) (.slice (some b) m cb) (.bool f') (.slice (some a') n' ca') (.slice (some b') m' cb') (.bool false) (.n) (.n);have hDD:=Nat.mul_pos R.den R'.den;obtain⟨p,hp⟩:∃p,p=lv X n*lv Y' m':=⟨_,rfl⟩;obtain⟨r,hr⟩:∃r,r=lv X' n'*lv Y m:=⟨_,rfl⟩;obtain⟨q,hq⟩:∃q,q=lv Y m*lv Y' m':=⟨_,rfl⟩;rw[<-hp,<-hr,<-hq];rw[<-hq] at hDD;obtain⟨sn,hSN⟩:∃s,s=du f f' p r:=⟨_,rfl⟩;obtain⟨st,hST⟩:∃s,s=bz f f' p r:=⟨_,rfl⟩;rw[<-hSN,<-hST];have HSN:=ae hSN;have HST:=ae hST;have HP:=ae hp;have HR:=ae hr;have HQ:=ae hq;clear hSN hST hp hr hq;have q1:((n:Int)==0)=false:=by simp;omega
 have q2:((n':Int)==0)=false:=by simp;omega
 obtain⟨j0,j1,j2⟩:=oA.g;go_enter Tryz.func96,Tryz.ntmps96;go_wp2_with fail;generalize (((w.alloc _).alloc _).alloc _)=w1 at*;have I1:=@fH f (some a) (some b) ba oa n ca bb ob m cb X Y w1 om om (R.aA sA).LX (R.aA sA).LY R.lX R.lY
 rcases hs with hs | ⟨hs,hs'⟩
 focus
  rw[hs] at I1;refine I1.mono ?_;rintro e w3 ⟨rfl,s3⟩;have S3:=sA.tr s3;have o3:=oA.aA s3;have p3:=pA.aA s3;have r3:=rA.aA s3;clear I1 j0 j1 j2 oA pA rA
 rotate_left
 focus
  rw[hs] at I1;refine I1.mono ?_;rintro e w2 ⟨rfl,s2⟩;have S2:=sA.tr s2;have o2:=oA.aA s2;have p2:=pA.aA s2;have r2:=rA.aA s2;have z2:=s2.size;clear I1 j0 j1 j2 oA pA rA;obtain⟨k0,k1,k2⟩:=p2.g;have I2:=@fH f' (some a') (some b') ba' oa' n' ca' bb' ob' m' cb' X' Y' w2 om om (R'.aA S2).LX (R'.aA S2).LY R'.lX R'.lY;rw[hs'] at I2;go_wp2_with fail;refine I2.mono ?_;rintro e w3 ⟨rfl,s3⟩;have S3:=S2.tr s3;have o3:=o2.aA s3;have p3:=p2.aA s3;have r3:=r2.aA s3;have z3:=s3.size;clear I2 k0 k1 k2 o2 p2 r2
 rotate_left
 all_goals
  have k:=And.intro o3.cells p3.cells;have J1:=@cO (some a) ba oa n ca X w3.drew om (R.aA S3).LX R.lX;go_wp2
  go_region_held3 (fun w'=>w'.cell? (jj w.heap.size 0)=some (.bool f)/\w'.cell? (jj w.heap.size 1)=some (.slice (some a) n ca)/\w'.cell? (jj w.heap.size 2)=some (.slice (some b) m cb)/\w'.cell? (jj (w.heap.size+1) 0)=some (.bool f')/\w'.cell? (jj (w.heap.size+1) 1)=some (.slice (some a') n' ca')/\w'.cell? (jj (w.heap.size+1) 2)=some (.slice (some b') m' cb')) (go_keep)
   (first
     | (go_at_call 75
        first
         | (with_reducible refine J1.mono ?_
            rintro e v4 ⟨a1,g1,m1,t1,B1,rfl,k1,k2,L1,-,p1,e1,s4⟩;have S4':w.S v4:=(ao S3).trans (sM s4 S3.size);have o4':=o3.drew.aA s4;have p4':=p3.drew.aA s4;have r4':=r3.drew.aA s4;have kk:=And.intro o4'.cells p4'.cells;have J2:=@cO (some b') bb' ob' m' cb' Y' v4 om (R'.aA S4').LY R'.lY)
         | (with_reducible refine J2.mono ?_
            rintro e v5 ⟨a2,g2,m2,t2,B2,rfl,l1,l2,L2,-,p2,e2,s5⟩;have S5':=S4'.tr s5;have o5':=o4'.aA s5;have p5':=p4'.aA s5;have r5':=r4'.aA s5;have kk:=And.intro o5'.cells p5'.cells;have J3:=@fG a1 a2 g1 0 m1 t1 g2 0 m2 t2 B1 B2 v5 om om (L1.aA s5) L2;rw[e1,e2] at J3))
     | (go_at_call 141
        with_reducible refine J3.mono ?_
        rintro e w4 ⟨gx,tx,cx,Ox,rfl,f1,f2,L6,f3,f4,e6,s6⟩;have S4:=S5'.tr s6;have o4:=o5'.aA s6;have p4:=p5'.aA s6;have r4:=r5'.aA s6;have kk:=And.intro o4.cells p4.cells;have Tx4:Tr w4 (.s gx tx cx) tx Ox:=⟨_,gx,0,cx,rfl,f1,L6,f4⟩))
  have hx:tx<=536870912:=om
  have Ex:=ae e6;clear k kk J1 J2 J3 e6 e1 e2 f1 f2 f3 f4 L6 s6 S4' S5' o4' p4' r4' o5' p5' r5' s4 s5 L1 L2 k1 k2 l1 l2 p1 p2 o3 p3 r3;have k:=And.intro o4.cells p4.cells;have J1:=@cO (some a') ba' oa' n' ca' X' w4.drew om (R'.aA S4).LX R'.lX;go_wp2
  go_region_held3 (fun w'=>w'.cell? (jj w.heap.size 0)=some (.bool f)/\w'.cell? (jj w.heap.size 1)=some (.slice (some a) n ca)/\w'.cell? (jj w.heap.size 2)=some (.slice (some b) m cb)/\w'.cell? (jj (w.heap.size+1) 0)=some (.bool f')/\w'.cell? (jj (w.heap.size+1) 1)=some (.slice (some a') n' ca')/\w'.cell? (jj (w.heap.size+1) 2)=some (.slice (some b') m' cb')) (go_keep)
   (first
     | (go_at_call 75
        first
         | (with_reducible refine J1.mono ?_
            rintro e v4 ⟨a1,g1,m1,t1,B1,rfl,k1,k2,L1,-,p1,e1,s4⟩;have S4':w.S v4:=(ao S4).trans (sM s4 S4.size);have o4':=o4.drew.aA s4;have p4':=p4.drew.aA s4;have r4':=r4.drew.aA s4;have Tx4':Tr v4 _ _ _:=Tr.aA (w:=w4.drew) Tx4 s4;have kk:=And.intro o4'.cells p4'.cells;have J2:=@cO (some b) bb ob m cb Y v4 om (R.aA S4').LY R.lY)
         | (with_reducible refine J2.mono ?_
            rintro e v5 ⟨a2,g2,m2,t2,B2,rfl,l1,l2,L2,-,p2,e2,s5⟩;have S5':=S4'.tr s5;have o5':=o4'.aA s5;have p5':=p4'.aA s5;have r5':=r4'.aA s5;have Tx5':=Tx4'.aA s5;have kk:=And.intro o5'.cells p5'.cells;have J3:=@fG a1 a2 g1 0 m1 t1 g2 0 m2 t2 B1 B2 v5 om om (L1.aA s5) L2;rw[e1,e2] at J3))
     | (go_at_call 141
        with_reducible refine J3.mono ?_
        rintro e w5 ⟨gy,ty,cy,Oy,rfl,f1,f2,L6,f3,f4,e6,s6⟩;have S5:=S5'.tr s6;have o5:=o5'.aA s6;have p5:=p5'.aA s6;have r5:=r5'.aA s6;have Tx5:=Tx5'.aA s6;have kk:=And.intro o5.cells p5.cells;have Ty5:Tr w5 (.s gy ty cy) ty Oy:=⟨_,gy,0,cy,rfl,f1,L6,f4⟩))
  have hy:ty<=536870912:=om
  have Ey:=ae e6;clear k kk J1 J2 J3 e6 e1 e2 f1 f2 f3 f4 L6 s6 S4' S5' o4' p4' r4' o5' p5' r5' s4 s5 L1 L2 k1 k2 l1 l2 p1 p2 o4 p4 r4;clear Tx4' Tx5' Tx4;have k:=And.intro o5.cells p5.cells;have J1:=@cO (some b) bb ob m cb Y w5.drew om (R.aA S5).LY R.lY;go_wp2
  go_region_held3 (fun w'=>w'.cell? (jj w.heap.size 0)=some (.bool f)/\w'.cell? (jj w.heap.size 1)=some (.slice (some a) n ca)/\w'.cell? (jj w.heap.size 2)=some (.slice (some b) m cb)/\w'.cell? (jj (w.heap.size+1) 0)=some (.bool f')/\w'.cell? (jj (w.heap.size+1) 1)=some (.slice (some a') n' ca')/\w'.cell? (jj (w.heap.size+1) 2)=some (.slice (some b') m' cb')) (go_keep)
   (first
     | (go_at_call 75
        first
         | (with_reducible refine J1.mono ?_
            rintro e v4 ⟨a1,g1,m1,t1,B1,rfl,k1,k2,L1,-,p1,e1,s4⟩;have S4':w.S v4:=(ao S5).trans (sM s4 S5.size);have o4':=o5.drew.aA s4;have p4':=p5.drew.aA s4;have r4':=r5.drew.aA s4;have Tx4':Tr v4 _ _ _:=Tr.aA (w:=w5.drew) Tx5 s4;have Ty4':Tr v4 _ _ _:=Tr.aA (w:=w5.drew) Ty5 s4;have kk:=And.intro o4'.cells p4'.cells;have J2:=@cO (some b') bb' ob' m' cb' Y' v4 om (R'.aA S4').LY R'.lY)
         | (with_reducible refine J2.mono ?_
            rintro e v5 ⟨a2,g2,m2,t2,B2,rfl,l1,l2,L2,-,p2,e2,s5⟩;have S5':=S4'.tr s5;have o5':=o4'.aA s5;have p5':=p4'.aA s5;have r5':=r4'.aA s5;have Tx5':=Tx4'.aA s5;have Ty5':=Ty4'.aA s5;have kk:=And.intro o5'.cells p5'.cells;have J3:=@fG a1 a2 g1 0 m1 t1 g2 0 m2 t2 B1 B2 v5 om om (L1.aA s5) L2;rw[e1,e2] at J3))
     | (go_at_call 141
        with_reducible refine J3.mono ?_
        rintro e w6 ⟨gd,td,cd,Od,rfl,f1,f2,L6,f3,f4,e6,s6⟩;have S6:=S5'.tr s6;have o6:=o5'.aA s6;have p6:=p5'.aA s6;have r6:=r5'.aA s6;have Tx6:=Tx5'.aA s6;have Ty6:=Ty5'.aA s6;have kk:=And.intro o6.cells p6.cells;have Td6:Tr w6 (.s gd td cd) td Od:=⟨_,gd,0,cd,rfl,f1,L6,f4⟩))
  have hd:td<=536870912:=om
  have Ed:=ae e6;clear k kk J1 J2 J3 e6 e1 e2 f1 f2 f3 f4 L6 s6 S4' S5' o4' p4' r4' o5' p5' r5' s4 s5 L1 L2 k1 k2 l1 l2 p1 p2 o5 p5 r5;clear Tx4' Tx5' Tx5 Ty4' Ty5' Ty5
  by_cases hff:f=f'
  . subst hff
    obtain⟨bx,ox,lx,Lx,tpx⟩:=Tx6.bits;obtain⟨bY,oy,ly,Ly,tpy⟩:=Ty6.bits;have HE1:Hid (sn=f):=ae (by rw[HSN.out];simp[du]);have HE2:Hid (st=(p+r)):=ae (by rw[HST.out];simp[bz]);clear HSN HST;have k:=And.intro o6.cells p6.cells;have J6:=@oO _ _ bx ox tx cx bY oy ty cy Ox Oy w6.drew om om Lx Ly;rw[Ex.out,Ey.out,<-HP.out,<-HR.out] at J6;go_wp2_with fail
    go_region_held3 (fun w'=>w'.cell? (jj w.heap.size 0)=some (.bool f)/\w'.cell? (jj w.heap.size 1)=some (.slice (some a) n ca)/\w'.cell? (jj w.heap.size 2)=some (.slice (some b) m cb)/\w'.cell? (jj (w.heap.size+1) 0)=some (.bool f)/\w'.cell? (jj (w.heap.size+1) 1)=some (.slice (some a') n' ca')/\w'.cell? (jj (w.heap.size+1) 2)=some (.slice (some b') m' cb')) (go_keep)
     (first
       | (go_at_call 142
          with_reducible refine J6.mono ?_
          rintro e w8 ⟨gs,ts,cs,Ds,rfl,f1,f2,Ls,f3,f4,es,s8⟩;have S8:w.S w8:=(ao S6).trans (sM s8 S6.size);have o8:=o6.drew.aA s8;have p8:=p6.drew.aA s8;have r8:=r6.drew.aA s8;have kk:=And.intro o8.cells p8.cells;have Td8:Tr w8 _ _ _:=Tr.aA (w:=w6.drew) Td6 s8;have Ts:Tr w8 (.s gs ts cs) ts Ds:=⟨_,gs,0,cs,rfl,f1,Ls,f4⟩;have J7:=@fT f _ _ ts td Ds Od w8 om om Ts Td8 (by rw[Ed.out,<-HQ.out];exact hDD);rw[es,Ed.out,<-HQ.out] at J7)
       | (go_at_call 93
          with_reducible refine J7.mono ?_
          rintro e w10 ⟨v,rfl,⟨x1,x2,g10,h10,rfl,N10,D10,y1,y2,y3⟩,s10⟩;have N10':=N10;have D10':=D10;obtain⟨aa,qa,cca,Ya,rfl,-⟩:=N10;obtain⟨ab,qb,ccb,Yb,rfl,-⟩:=D10;have kk:=And.intro (o8.aA s10).cells (p8.aA s10).cells;have rB:=r8.aA s10;obtain⟨u0,u1,u2⟩:=rB.g;obtain⟨uf0,uf1,uf2⟩:=rB.k))
    all_goals go_wp2
    all_goals
     have S10:=S8.tr s10;have z9:=S8.size;have z11:=r8.lt;have rC:=((rB.aE (.bool (f&&(p+r) != 0))).aG (.slice aa qa cca)).aF (.slice ab qb ccb);refine bodyPost_ret (mu rfl _ _ _ _ _ _ rfl rC) rfl ?_;have M:af w10 _ (w.heap.size+1+1):=(((af.refl w10 _).setCell 0 (.bool (f&&(p+r) != 0))).setCell 1 (.slice aa qa cca)).setCell 2 (.slice ab qb ccb);exact⟨_,rfl,⟨_,_,g10,h10,by rw[HE1.out,HE2.out],by rw[HE2.out];exact N10'.marked M om,by rw[HE2.out];exact D10'.marked M om,om,om,y3⟩,S10.trans (M.since om)⟩
  . have hfb:(f==f')=false:=by simp[hff]
    obtain⟨bx,ox,lx,Lx,tpx⟩:=Tx6.bits;obtain⟨bY,oy,ly,Ly,tpy⟩:=Ty6.bits;have k:=And.intro o6.cells p6.cells;have J5:=@jb _ _ bx ox tx cx bY oy ty cy Ox Oy w6 om om Lx Ly tpx tpy;rw[Ex.out,Ey.out,<-HP.out,<-HR.out] at J5;go_wp2_with fail;refine J5.mono ?_;rintro e w7 ⟨rfl,m7⟩;have s7:=m7.since w6.heap.size;have S7:=S6.tr s7;have o7:=o6.aA s7;have p7:=p6.aA s7;have r7:=r6.aA s7;have Td7:=Td6.aA s7;have Lx:=Lx.aA s7;have Ly:=Ly.aA s7;clear J5 k o6 p6 r6 Td6 Tx6 Ty6 s7 m7
    by_cases hlt:p<r
    . have hcp:=qu hlt
      have hge:¬((0:Int)<=fd p r):=om
      have htl:tx<=ty:=by
       rcases Nat.lt_or_ge ty tx with h | h
       . have:=mT (A:=Oy) (B:=Ox) h tpx
         rw[Ex.out,Ey.out,<-HP.out,<-HR.out] at this;omega
       . exact h
      have hle:bv Ox tx<=bv Oy ty:=by rw[Ex.out,Ey.out,<-HP.out,<-HR.out];omega
      have HE1:Hid (sn=f'):=ae (by rw[HSN.out];simp[du,hff,hlt]);have HE2:Hid (st=(r-p)):=ae (by rw[HST.out];simp[bz,hff,hlt]);clear HSN HST;have k:=And.intro o7.cells p7.cells;have J6:=@gO _ _ bY oy ty cy bx ox tx cx Oy Ox w7.drew om htl Ly Lx hle;rw[Ex.out,Ey.out,<-HP.out,<-HR.out] at J6;clear hff hle htl;go_wp2_with fail
      go_region_held3 (fun w'=>w'.cell? (jj w.heap.size 0)=some (.bool f)/\w'.cell? (jj w.heap.size 1)=some (.slice (some a) n ca)/\w'.cell? (jj w.heap.size 2)=some (.slice (some b) m cb)/\w'.cell? (jj (w.heap.size+1) 0)=some (.bool f')/\w'.cell? (jj (w.heap.size+1) 1)=some (.slice (some a') n' ca')/\w'.cell? (jj (w.heap.size+1) 2)=some (.slice (some b') m' cb')) (go_keep)
       (first
         | (go_at_call 143
            with_reducible refine J6.mono ?_
            rintro e w8 ⟨gs,ts,cs,Ds,rfl,f1,f2,Ls,f3,f4,es,s8⟩;have S8:w.S w8:=(ao S7).trans (sM s8 S7.size);have o8:=o7.drew.aA s8;have p8:=p7.drew.aA s8;have r8:=r7.drew.aA s8;have kk:=And.intro o8.cells p8.cells;have Td8:Tr w8 _ _ _:=Tr.aA (w:=w7.drew) Td7 s8;have Ts:Tr w8 (.s gs ts cs) ts Ds:=⟨_,gs,0,cs,rfl,f1,Ls,f4⟩;have J7:=@fT f' _ _ ts td Ds Od w8 om om Ts Td8 (by rw[Ed.out,<-HQ.out];exact hDD);rw[es,Ed.out,<-HQ.out] at J7)
         | (go_at_call 93
            with_reducible refine J7.mono ?_
            rintro e w10 ⟨v,rfl,⟨x1,x2,g10,h10,rfl,N10,D10,y1,y2,y3⟩,s10⟩;have N10':=N10;have D10':=D10;obtain⟨aa,qa,cca,Ya,rfl,-⟩:=N10;obtain⟨ab,qb,ccb,Yb,rfl,-⟩:=D10;have kk:=And.intro (o8.aA s10).cells (p8.aA s10).cells;have rB:=r8.aA s10;obtain⟨u0,u1,u2⟩:=rB.g;obtain⟨uf0,uf1,uf2⟩:=rB.k))
      all_goals go_wp2
      all_goals
       have S10:=S8.tr s10;have z9:=S8.size;have z11:=r8.lt;have rC:=((rB.aE (.bool (f'&&(r-p) != 0))).aG (.slice aa qa cca)).aF (.slice ab qb ccb);refine bodyPost_ret (mu rfl _ _ _ _ _ _ rfl rC) rfl ?_;have M:af w10 _ (w.heap.size+1+1):=(((af.refl w10 _).setCell 0 (.bool (f'&&(r-p) != 0))).setCell 1 (.slice aa qa cca)).setCell 2 (.slice ab qb ccb);exact⟨_,rfl,⟨_,_,g10,h10,by rw[HE1.out,HE2.out],by rw[HE2.out];exact N10'.marked M om,by rw[HE2.out];exact D10'.marked M om,om,om,y3⟩,S10.trans (M.since om)⟩
    . have hcp:=mR (Nat.le_of_not_lt hlt)
      have htl:ty<=tx:=by
       rcases Nat.lt_or_ge tx ty with h | h
       . have:=mT (A:=Ox) (B:=Oy) h tpy
         rw[Ex.out,Ey.out,<-HP.out,<-HR.out] at this;omega
       . exact h
      have hle:bv Oy ty<=bv Ox tx:=by rw[Ex.out,Ey.out,<-HP.out,<-HR.out];omega
      have HE1:Hid (sn=f):=ae (by rw[HSN.out];simp[du,hff,hlt]);have HE2:Hid (st=(p-r)):=ae (by rw[HST.out];simp[bz,hff,hlt]);clear HSN HST;have k:=And.intro o7.cells p7.cells;have J6:=@gO _ _ bx ox tx cx bY oy ty cy Ox Oy w7.drew om htl Lx Ly hle;rw[Ex.out,Ey.out,<-HP.out,<-HR.out] at J6;clear hff hle htl;go_wp2_with fail
      go_region_held3 (fun w'=>w'.cell? (jj w.heap.size 0)=some (.bool f)/\w'.cell? (jj w.heap.size 1)=some (.slice (some a) n ca)/\w'.cell? (jj w.heap.size 2)=some (.slice (some b) m cb)/\w'.cell? (jj (w.heap.size+1) 0)=some (.bool f')/\w'.cell? (jj (w.heap.size+1) 1)=some (.slice (some a') n' ca')/\w'.cell? (jj (w.heap.size+1) 2)=some (.slice (some b') m' cb')) (go_keep)
       (first
         | (go_at_call 143
            with_reducible refine J6.mono ?_
            rintro e w8 ⟨gs,ts,cs,Ds,rfl,f1,f2,Ls,f3,f4,es,s8⟩;have S8:w.S w8:=(ao S7).trans (sM s8 S7.size);have o8:=o7.drew.aA s8;have p8:=p7.drew.aA s8;have r8:=r7.drew.aA s8;have kk:=And.intro o8.cells p8.cells;have Td8:Tr w8 _ _ _:=Tr.aA (w:=w7.drew) Td7 s8;have Ts:Tr w8 (.s gs ts cs) ts Ds:=⟨_,gs,0,cs,rfl,f1,Ls,f4⟩;have J7:=@fT f _ _ ts td Ds Od w8 om om Ts Td8 (by rw[Ed.out,<-HQ.out];exact hDD);rw[es,Ed.out,<-HQ.out] at J7)
         | (go_at_call 93
            with_reducible refine J7.mono ?_
            rintro e w10 ⟨v,rfl,⟨x1,x2,g10,h10,rfl,N10,D10,y1,y2,y3⟩,s10⟩;have N10':=N10;have D10':=D10;obtain⟨aa,qa,cca,Ya,rfl,-⟩:=N10;obtain⟨ab,qb,ccb,Yb,rfl,-⟩:=D10;have kk:=And.intro (o8.aA s10).cells (p8.aA s10).cells;have rB:=r8.aA s10;obtain⟨u0,u1,u2⟩:=rB.g;obtain⟨uf0,uf1,uf2⟩:=rB.k))
      all_goals go_wp2
      all_goals
       have S10:=S8.tr s10;have z9:=S8.size;have z11:=r8.lt;have rC:=((rB.aE (.bool (f&&(p-r) != 0))).aG (.slice aa qa cca)).aF (.slice ab qb ccb);refine bodyPost_ret (mu rfl _ _ _ _ _ _ rfl rC) rfl ?_;have M:af w10 _ (w.heap.size+1+1):=(((af.refl w10 _).setCell 0 (.bool (f&&(p-r) != 0))).setCell 1 (.slice aa qa cca)).setCell 2 (.slice ab qb ccb);exact⟨_,rfl,⟨_,_,g10,h10,by rw[HE1.out,HE2.out],by rw[HE2.out];exact N10'.marked M om,by rw[HE2.out];exact D10'.marked M om,om,om,y3⟩,S10.trans (M.since om)⟩
theorem adw{f f':Bool}(a b a' b':Addr){ba oa n ca bb ob m cb ba' oa' n' ca' bb' ob' m' cb':Nat}{X Y X' Y':Nat->Nat}{w:World}(hn:n+n'+m+m'<=16777216)
 (R:qJ w (some a) (some b) ba oa n ca bb ob m cb X Y)(R':qJ w (some a') (some b') ba' oa' n' ca' bb' ob' m' cb' X' Y')(ok:bM f X n Y m=true)(ok':bM f' X' n' Y' m'=true):
 Cl 96 #[.agg #[.bool f,.slice (some a) n ca,.slice (some b) m cb],.agg #[.bool f',.slice (some a') n' ca',.slice (some b') m' cb']] w fun e w'=>∃v,e=.returned v/\
  dM w' v (du f f' (lv X n*lv Y' m') (lv X' n'*lv Y m)&&bz f f' (lv X n*lv Y' m') (lv X' n'*lv Y m) != 0) (bz f f' (lv X n*lv Y' m') (lv X' n'*lv Y m)/Nat.gcd (bz f f' (lv X n*lv Y' m') (lv X' n'*lv Y m)) (lv Y m*lv Y' m')) ((lv Y m*lv Y' m')/Nat.gcd (bz f f' (lv X n*lv Y' m') (lv X' n'*lv Y m)) (lv Y m*lv Y' m')) w.heap.size 67108864/\w.S w':=by
 by_cases h0:n=0∨n'=0
 . exact abz a b a' b' hn R R' ok ok' h0
 have h1:0<n:=om
 have h2:0<n':=om
 by_cases hs:fj X n Y m=true
 . by_cases hs':fj X' n' Y' m'=true
   . exact aam a b a' b' hn R R' h1 h2 hs hs'
   . exact wT a b a' b' hn R R' h1 h2 (Or.inr ⟨hs,by simpa using hs'⟩)
 . exact wT a b a' b' hn R R' h1 h2 (Or.inl (by simpa using hs))
theorem pi{f:Bool}{x y:Option Addr}{ba oa n ca bb ob m cb:Nat}{X Y:Nat->Nat}{w:World}(hn:n<=16777216)(hm:m<=16777216)(hnc:n<=ca)(hmc:m<=cb)(hxc:x=none->ca=0)(hyc:y=none->cb=0)(hX:ag w x ba oa n X)(hY:ag w y bb ob m Y):
 Cl 140 #[.agg #[.bool f,.slice x n ca,.slice y m cb]] w fun e w'=>∃g h c1 c2,e=.returned (.agg #[.bool f,.s g n c1,.s h m c2])/\n<=c1/\m<=c2/\
  ag w' (jp g 0) g 0 n X/\ag w' (jp h 0) h 0 m Y/\(0<n->∀o,w'.frozen? (jj g o)=false)/\(0<m->∀o,w'.frozen? (jj h o)=false)/\w.heap.size<=g/\g<h/\h<w'.heap.size/\w.S w':=
 (@ph f x y ba oa n ca bb ob m cb X Y w hn hm hnc hmc hxc hyc hX hY).mono fun _ _ ⟨g,h,c1,c2,he,o1,o2,z1,z2,z3,s⟩=>⟨g,h,c1,c2,he,(gX o1).1,(gX o2).1,(gX o1).2.1,(gX o2).2.1,fun _=>(gX o1).2.2,fun _=>(gX o2).2.2,om,z2,z3,s⟩
theorem adu{f:Bool}{x y:Option Addr}{ba oa n ca bb ob m cb:Nat}{X Y:Nat->Nat}{w:World}(hn:n<=16777216)(hm:m<=16777216)(hnc:n<=ca)(hmc:m<=cb)(hxc:x=none->ca=0)(hyc:y=none->cb=0)(hX:ag w x ba oa n X)(hY:ag w y bb ob m Y):
 Calls Tryz.prog 105 #[.agg #[.bool f,.slice x n ca,.slice y m cb]] w fun e w'=>∃g h c1 c2,e=.returned (.agg #[.bool (!f&&decide (0<n)),.slice (some ⟨g,0,none⟩) n c1,.slice (some ⟨h,0,none⟩) m c2])/\n<=c1/\m<=c2/\
  ag w' (some ⟨g,0,none⟩) g 0 n X/\ag w' (some ⟨h,0,none⟩) h 0 m Y/\w.heap.size<=g/\g<h/\h<w'.heap.size/\w.Since w.heap.size w':=by
 have sA:w.Since w.heap.size ((w.alloc (.cells #[.bool f,.slice x n ca,.slice y m cb] 44)).alloc (.cells #[.bool false,.slice none 0 0,.slice none 0 0] 44)):=((eg _ _).alloc (Nat.le_refl _) _).alloc qz _;have oA:bj ((w.alloc (.cells #[.bool f,.slice x n ca,.slice y m cb] 44)).alloc (.cells #[.bool false,.slice none 0 0,.slice none 0 0] 44)) w.heap.size (.bool f) (.slice x n ca) (.slice y m cb):=(bj.new w _ _ _ _).aA ((eg _ _).alloc (Nat.le_refl _) _)
 have rA:bj ((w.alloc (.cells #[.bool f,.slice x n ca,.slice y m cb] 44)).alloc (.cells #[.bool false,.slice none 0 0,.slice none 0 0] 44)) (w.heap.size+1) (.bool false) (.slice none 0 0) (.slice none 0 0):=by
  have:=bj.new (w.alloc (.cells #[.bool f,.slice x n ca,.slice y m cb] 44)) (.bool false) (.slice none 0 0) (.slice none 0 0) 44
  simpa using this
 go_enter Tryz.func105,Tryz.ntmps105;go_wp2_with fail;generalize ((w.alloc (.cells #[.bool f,.slice x n ca,.slice y m cb] 44)).alloc (.cells #[.bool false,.slice none 0 0,.slice none 0 0] 44))=w1 at*;refine (@pi f x y ba oa n ca bb ob m cb X Y w1 hn hm hnc hmc hxc hyc (hX.aA sA) (hY.aA sA)).mono ?_;rintro e w2 ⟨g,h,c1,c2,rfl,m1,m2,L1,L2,-,-,b1,b2,b3,s2⟩;have S2:=sA.trans (sM s2 sA.size);have z1:=rA.lt;have t3:=bJ w2 (.cells #[.bool f,.slice (some ⟨g,0,none⟩) n c1,.slice (some ⟨h,0,none⟩) m c2] 44);have q3:=bj.new w2 (.bool f) (.slice (some ⟨g,0,none⟩) n c1) (.slice (some ⟨h,0,none⟩) m c2) 44;have o3:=(oA.aA s2).aA t3;have r3:=(rA.aA s2).aA t3;have k0:=o3.c0;have k1:=o3.c1;have j0:=q3.c0;have j1:=q3.c1;have j2:=q3.c2;have jf:=q3.f 0;have hne:w.heap.size≠w2.heap.size:=om
 have hne2:w.heap.size+1≠w2.heap.size:=om
 have r2:=rA.aA s2;cases f
 . by_cases hn0:0<n
   . have hgt:(0:Int)<(n:Int):=om
     have t4:=bJ w2 (.cells #[.bool true,.slice (some ⟨g,0,none⟩) n c1,.slice (some ⟨h,0,none⟩) m c2] 44);have q4:=bj.new w2 (.bool true) (.slice (some ⟨g,0,none⟩) n c1) (.slice (some ⟨h,0,none⟩) m c2) 44;have r4:=r2.aA t4;have S4:=S2.trans (sM t4 S2.size);have i0:=q4.c0;have i1:=q4.c1;have i2:=q4.c2;have u0:=r4.c0;have u1:=r4.c1;have u2:=r4.c2;have uf0:=r4.f 0;have uf1:=r4.f 1;have uf2:=r4.f 2;go_wp2;have rC:=((r4.aE (.bool true)).aG (.slice (some ⟨g,0,none⟩) n c1)).aF (.slice (some ⟨h,0,none⟩) m c2);refine bodyPost_ret (mu rfl _ _ _ _ _ _ rfl rC) rfl ?_;have M5:af (w2.alloc (.cells #[.bool true,.slice (some ⟨g,0,none⟩) n c1,.slice (some ⟨h,0,none⟩) m c2] 44)) _ (w.heap.size+1):=(((af.refl (w2.alloc (.cells #[.bool true,.slice (some ⟨g,0,none⟩) n c1,.slice (some ⟨h,0,none⟩) m c2] 44)) _).setCell 0 (.bool true)).setCell 1 (.slice (some ⟨g,0,none⟩) n c1)).setCell 2 (.slice (some ⟨h,0,none⟩) m c2);have zM:=M5.size;have zq:w2.heap.size<=(w2.alloc (.cells #[.bool true,.slice (some ⟨g,0,none⟩) n c1,.slice (some ⟨h,0,none⟩) m c2] 44)).heap.size:=t4.size;exact⟨g,h,c1,c2,by simp[hn0],m1,m2,(L1.aA t4).marked M5 (fun _=>by omega),(L2.aA t4).marked M5 (fun _=>by omega),om,om,om,S4.trans (M5.since om)⟩
   . have hgt:¬(0:Int)<(n:Int):=om
     have t4:=bJ w2 (.cells #[.bool false,.slice (some ⟨g,0,none⟩) n c1,.slice (some ⟨h,0,none⟩) m c2] 44);have q4:=bj.new w2 (.bool false) (.slice (some ⟨g,0,none⟩) n c1) (.slice (some ⟨h,0,none⟩) m c2) 44;have r4:=r2.aA t4;have S4:=S2.trans (sM t4 S2.size);have i0:=q4.c0;have i1:=q4.c1;have i2:=q4.c2;have u0:=r4.c0;have u1:=r4.c1;have u2:=r4.c2;have uf0:=r4.f 0;have uf1:=r4.f 1;have uf2:=r4.f 2;go_wp2;have rC:=((r4.aE (.bool false)).aG (.slice (some ⟨g,0,none⟩) n c1)).aF (.slice (some ⟨h,0,none⟩) m c2);refine bodyPost_ret (mu rfl _ _ _ _ _ _ rfl rC) rfl ?_;have M5:af (w2.alloc (.cells #[.bool false,.slice (some ⟨g,0,none⟩) n c1,.slice (some ⟨h,0,none⟩) m c2] 44)) _ (w.heap.size+1):=(((af.refl (w2.alloc (.cells #[.bool false,.slice (some ⟨g,0,none⟩) n c1,.slice (some ⟨h,0,none⟩) m c2] 44)) _).setCell 0 (.bool false)).setCell 1 (.slice (some ⟨g,0,none⟩) n c1)).setCell 2 (.slice (some ⟨h,0,none⟩) m c2);have zM:=M5.size;have zq:w2.heap.size<=(w2.alloc (.cells #[.bool false,.slice (some ⟨g,0,none⟩) n c1,.slice (some ⟨h,0,none⟩) m c2] 44)).heap.size:=t4.size;exact⟨g,h,c1,c2,by simp[hn0],m1,m2,(L1.aA t4).marked M5 (fun _=>by omega),(L2.aA t4).marked M5 (fun _=>by omega),om,om,om,S4.trans (M5.since om)⟩
 . have t4:=bJ w2 (.cells #[.bool false,.slice (some ⟨g,0,none⟩) n c1,.slice (some ⟨h,0,none⟩) m c2] 44)
   have q4:=bj.new w2 (.bool false) (.slice (some ⟨g,0,none⟩) n c1) (.slice (some ⟨h,0,none⟩) m c2) 44;have r4:=r2.aA t4;have S4:=S2.trans (sM t4 S2.size);have i0:=q4.c0;have i1:=q4.c1;have i2:=q4.c2;have u0:=r4.c0;have u1:=r4.c1;have u2:=r4.c2;have uf0:=r4.f 0;have uf1:=r4.f 1;have uf2:=r4.f 2;go_wp2;have rC:=((r4.aE (.bool false)).aG (.slice (some ⟨g,0,none⟩) n c1)).aF (.slice (some ⟨h,0,none⟩) m c2);refine bodyPost_ret (mu rfl _ _ _ _ _ _ rfl rC) rfl ?_;have M5:af (w2.alloc (.cells #[.bool false,.slice (some ⟨g,0,none⟩) n c1,.slice (some ⟨h,0,none⟩) m c2] 44)) _ (w.heap.size+1):=(((af.refl (w2.alloc (.cells #[.bool false,.slice (some ⟨g,0,none⟩) n c1,.slice (some ⟨h,0,none⟩) m c2] 44)) _).setCell 0 (.bool false)).setCell 1 (.slice (some ⟨g,0,none⟩) n c1)).setCell 2 (.slice (some ⟨h,0,none⟩) m c2);have zM:=M5.size;have zq:w2.heap.size<=(w2.alloc (.cells #[.bool false,.slice (some ⟨g,0,none⟩) n c1,.slice (some ⟨h,0,none⟩) m c2] 44)).heap.size:=t4.size;exact⟨g,h,c1,c2,rfl,m1,m2,(L1.aA t4).marked M5 (fun _=>by omega),(L2.aA t4).marked M5 (fun _=>by omega),om,om,om,S4.trans (M5.since om)⟩
theorem vO{f f':Bool}{a b a' b':Option Addr}{ba oa n ca bb ob m cb ba' oa' n' ca' bb' ob' m' cb':Nat}{X Y X' Y':Nat->Nat}{w:World}(hn:n+n'+m+m'<=16777216)
 (R:qJ w a b ba oa n ca bb ob m cb X Y)(R':qJ w a' b' ba' oa' n' ca' bb' ob' m' cb' X' Y')(ok:bM f X n Y m=true)(ok':bM f' X' n' Y' m'=true)(h0:n=0∨n'=0):
 Calls Tryz.prog 96 #[.agg #[.bool f,.slice a n ca,.slice b m cb],.agg #[.bool f',.slice a' n' ca',.slice b' m' cb']] w fun e w'=>∃v,e=.returned v/\
  dM w' v (du f f' (lv X n*lv Y' m') (lv X' n'*lv Y m)&&bz f f' (lv X n*lv Y' m') (lv X' n'*lv Y m) != 0) (bz f f' (lv X n*lv Y' m') (lv X' n'*lv Y m)/Nat.gcd (bz f f' (lv X n*lv Y' m') (lv X' n'*lv Y m)) (lv Y m*lv Y' m')) ((lv Y m*lv Y' m')/Nat.gcd (bz f f' (lv X n*lv Y' m') (lv X' n'*lv Y m)) (lv Y m*lv Y' m')) w.heap.size 67108864/\w.Since w.heap.size w':=by
 have hne2:w.heap.size+1+1≠w.heap.size:=om
 obtain⟨sA,zA,oA,pA,rA⟩:=bx w (.bool f) (.slice a n ca) (.slice b m cb) (.bool f') (.slice a' n' ca') (.slice b' m' cb') (.bool false) (.slice none 0 0) (.slice none 0 0)
 by_cases h1:n=0
 . have hZ:=ww ok ok' h1
   rw[hZ.1,hZ.2.1,hZ.2.2];subst h1;have k0:=pA.c0;have k1:=pA.c1;have k2:=pA.c2;go_enter Tryz.func96,Tryz.ntmps96;go_wp2_with fail;generalize (((w.alloc _).alloc _).alloc _)=w1 at*;refine (@pi f' a' b' ba' oa' n' ca' bb' ob' m' cb' X' Y' w1 om om R'.nc R'.mc R'.ac R'.bc (R'.aA sA).LX (R'.aA sA).LY).mono ?_;rintro e w6 ⟨g6,h6,c1,c2,rfl,v1,v2,N6,D6,FN,FD,y1,y2,y3,s6⟩;have rB:=rA.aA s6;have S6:=sA.tr s6;have u0:=rB.c0;have u1:=rB.c1;have u2:=rB.c2;have uf0:=rB.f 0;have uf1:=rB.f 1;have uf2:=rB.f 2;go_wp2;have rC:=((rB.aE (.bool f')).aG (.slice (some ⟨g6,0,none⟩) n' c1)).aF (.slice (some ⟨h6,0,none⟩) m' c2);refine bodyPost_ret (mu rfl _ _ _ _ _ _ rfl rC) rfl ?_;have M:af w6 _ (w.heap.size+1+1):=(((af.refl w6 _).setCell 0 (.bool f')).setCell 1 (.slice (some ⟨g6,0,none⟩) n' c1)).setCell 2 (.slice (some ⟨h6,0,none⟩) m' c2);have N7:bU w6 (.slice (some ⟨g6,0,none⟩) n' c1) g6 (lv X' n') 67108864:=⟨_,_,_,X',rfl,v1,om,fun h=>(by cases h),N6,FN,R'.lX,R'.pX,rfl⟩;have D7:bU w6 (.slice (some ⟨h6,0,none⟩) m' c2) h6 (lv Y' m') 67108864:=⟨_,_,_,Y',rfl,v2,om,fun h=>(by cases h),D6,FD,R'.lY,R'.pY,rfl⟩;exact⟨_,rfl,⟨_,_,g6,h6,rfl,N7.marked M om,D7.marked M om,om,om,om⟩,S6.trans (M.since om)⟩
 . have h2:n'=0:=om
   have hZ:=wv ok ok' h2;rw[hZ.1,hZ.2.1,hZ.2.2];subst h2;have q1:((n:Int)==0)=false:=by simp;omega
   have k0:=oA.c0;have k1:=oA.c1;have k2:=oA.c2;go_enter Tryz.func96,Tryz.ntmps96;go_wp2_with fail;generalize (((w.alloc _).alloc _).alloc _)=w1 at*;refine (@pi f a b ba oa n ca bb ob m cb X Y w1 om om R.nc R.mc R.ac R.bc (R.aA sA).LX (R.aA sA).LY).mono ?_;rintro e w6 ⟨g6,h6,c1,c2,rfl,v1,v2,N6,D6,FN,FD,y1,y2,y3,s6⟩;have rB:=rA.aA s6;have S6:=sA.tr s6;have u0:=rB.c0;have u1:=rB.c1;have u2:=rB.c2;have uf0:=rB.f 0;have uf1:=rB.f 1;have uf2:=rB.f 2;go_wp2;have rC:=((rB.aE (.bool f)).aG (.slice (some ⟨g6,0,none⟩) n c1)).aF (.slice (some ⟨h6,0,none⟩) m c2);refine bodyPost_ret (mu rfl _ _ _ _ _ _ rfl rC) rfl ?_;have M:af w6 _ (w.heap.size+1+1):=(((af.refl w6 _).setCell 0 (.bool f)).setCell 1 (.slice (some ⟨g6,0,none⟩) n c1)).setCell 2 (.slice (some ⟨h6,0,none⟩) m c2);have N7:bU w6 (.slice (some ⟨g6,0,none⟩) n c1) g6 (lv X n) 67108864:=⟨_,_,_,X,rfl,v1,om,fun h=>(by cases h),N6,FN,R.lX,R.pX,rfl⟩;have D7:bU w6 (.slice (some ⟨h6,0,none⟩) m c2) h6 (lv Y m) 67108864:=⟨_,_,_,Y,rfl,v2,om,fun h=>(by cases h),D6,FD,R.lY,R.pY,rfl⟩;exact⟨_,rfl,⟨_,_,g6,h6,rfl,N7.marked M om,D7.marked M om,om,om,om⟩,S6.trans (M.since om)⟩
theorem wS{f f':Bool}{a b a' b':Option Addr}{ba oa n ca bb ob m cb ba' oa' n' ca' bb' ob' m' cb':Nat}{X Y X' Y':Nat->Nat}{w:World}(hn:n+n'+m+m'<=16777216)
 (R:qJ w a b ba oa n ca bb ob m cb X Y)(R':qJ w a' b' ba' oa' n' ca' bb' ob' m' cb' X' Y')(ok:bM f X n Y m=true)(ok':bM f' X' n' Y' m'=true):
 Calls Tryz.prog 96 #[.agg #[.bool f,.slice a n ca,.slice b m cb],.agg #[.bool f',.slice a' n' ca',.slice b' m' cb']] w fun e w'=>∃v,e=.returned v/\
  dM w' v (du f f' (lv X n*lv Y' m') (lv X' n'*lv Y m)&&bz f f' (lv X n*lv Y' m') (lv X' n'*lv Y m) != 0) (bz f f' (lv X n*lv Y' m') (lv X' n'*lv Y m)/Nat.gcd (bz f f' (lv X n*lv Y' m') (lv X' n'*lv Y m)) (lv Y m*lv Y' m')) ((lv Y m*lv Y' m')/Nat.gcd (bz f f' (lv X n*lv Y' m') (lv X' n'*lv Y m)) (lv Y m*lv Y' m')) w.heap.size 67108864/\w.Since w.heap.size w':=by
 by_cases h0:n=0∨n'=0
 . exact @vO f f' a b a' b' ba oa n ca bb ob m cb ba' oa' n' ca' bb' ob' m' cb' X Y X' Y' w hn R R' ok ok' h0
 . obtain rfl:a=some ⟨ba,oa,none⟩:=by have:=(R.LX 0 om).1;simpa using this
   obtain rfl:b=some ⟨bb,ob,none⟩:=by have:=(R.LY 0 R.m0).1;simpa using this
   obtain rfl:a'=some ⟨ba',oa',none⟩:=by have:=(R'.LX 0 om).1;simpa using this
   obtain rfl:b'=some ⟨bb',ob',none⟩:=by have:=(R'.LY 0 R'.m0).1;simpa using this
   exact @adw f f' _ _ _ _ ba oa n ca bb ob m cb ba' oa' n' ca' bb' ob' m' cb' X Y X' Y' w hn R R' ok ok'
theorem aee(f f':Bool)(x y n' q:Nat)(hf:f=true->0<x)(hf':f'=true->0<y)(hy:0<n'↔0<y)(hq:q=0↔bz f (!f'&&decide (0<n')) x y=0):
 (if (q:Int)=0 then (0:Int) else if (du f (!f'&&decide (0<n')) x y&&bz f (!f'&&decide (0<n')) x y != 0)=true then-1 else 1)=po f f' x y:=by
 have hd:decide (0<n')=decide (0<y):=by simp[hy]
 rw[hd] at hq⊢;have hq':((q:Int)=0)↔bz f (!f'&&decide (0<y)) x y=0:=om
 simp only[hq']
 rcases Nat.lt_trichotomy x y with h1 | h1 | h1
 . cases f<;>cases f'<;>rcases Nat.eq_zero_or_pos y with h0 | h0<;>simp_all[du,bz,po,fd]<;>(try omega)
 . cases f<;>cases f'<;>rcases Nat.eq_zero_or_pos y with h0 | h0<;>simp_all[du,bz,po,fd]<;>(try omega)
 . have h2:¬x<y:=om
   have h3:¬x-y=0:=om
   have h6:0<x:=om
   have h7:¬x=0:=om
   cases f<;>cases f'<;>rcases Nat.eq_zero_or_pos y with h0 | h0<;>simp[du,bz,po,fd,h0,h1,h2,h3,h6,h7]<;>(try (have:=hf' rfl;omega))<;>(try omega)
theorem abx{f:Bool}{a b:Option Addr}{n ca m cb:Nat}{w:World}:
 Cl 46 #[.agg #[.bool f,.slice a n ca,.slice b m cb]] w fun e w'=>e=.returned (.i (if (n:Int)=0 then (0:Int) else if f=true then-1 else 1))/\w.S w':=by
 have sA:=bJ w (.cells #[.bool f,.slice a n ca,.slice b m cb] 44)
 by_cases h0:n=0
 . subst h0
   go_enter Tryz.func46,Tryz.ntmps46;go_wp2;go_ret;exact⟨rfl,sA⟩
 . have q1:((n:Int)==0)=false:=by simp;omega
   have q2:¬((n:Int)=0):=om
   rw[if_neg q2];cases f
   . go_enter Tryz.func46,Tryz.ntmps46
     go_wp2;go_ret;exact⟨rfl,sA⟩
   . go_enter Tryz.func46,Tryz.ntmps46
     go_wp2;go_ret;exact⟨rfl,sA⟩
theorem acV{f':Bool}{X' Y':Nat->Nat}{n' m':Nat}(ok':bM f' X' n' Y' m'=true):bM (!f'&&decide (0<n')) X' n' Y' m'=true:=by
 unfold bM at*;cases f'<;>rcases Nat.eq_zero_or_pos n' with h | h<;>simp_all<;>(try omega)
theorem acg{f:Bool}{X Y:Nat->Nat}{n m:Nat}(ok:bM f X n Y m=true)(e:f=true)(pX:0<n->X (n-1)≠0):0<lv X n:=by
 subst e;unfold bM at ok
 rcases Nat.eq_zero_or_pos (lv X n) with h | h
 . have:=(gU pX).2 h
   subst this
   simp at ok
 . exact h
theorem adt{f f':Bool}{a b a' b':Option Addr}{ba oa n ca bb ob m cb ba' oa' n' ca' bb' ob' m' cb':Nat}{X Y X' Y':Nat->Nat}{w:World}(hn:n+n'+m+m'<=16777216)
 (R:qJ w a b ba oa n ca bb ob m cb X Y)(R':qJ w a' b' ba' oa' n' ca' bb' ob' m' cb' X' Y')(ok:bM f X n Y m=true)(ok':bM f' X' n' Y' m'=true):
 Cl 47 #[.agg #[.bool f,.slice a n ca,.slice b m cb],.agg #[.bool f',.slice a' n' ca',.slice b' m' cb']] w fun e w'=>∃v,e=.returned v/\
  dM w' v (du f (!f'&&decide (0<n')) (lv X n*lv Y' m') (lv X' n'*lv Y m)&&bz f (!f'&&decide (0<n')) (lv X n*lv Y' m') (lv X' n'*lv Y m) != 0) (bz f (!f'&&decide (0<n')) (lv X n*lv Y' m') (lv X' n'*lv Y m)/Nat.gcd (bz f (!f'&&decide (0<n')) (lv X n*lv Y' m') (lv X' n'*lv Y m)) (lv Y m*lv Y' m')) ((lv Y m*lv Y' m')/Nat.gcd (bz f (!f'&&decide (0<n')) (lv X n*lv Y' m') (lv X' n'*lv Y m)) (lv Y m*lv Y' m')) w.heap.size 67108864/\w.S w':=by
 have hne2:w.heap.size+1+1≠w.heap.size:=om
 obtain⟨sA,zA,oA,pA,rA⟩:=bx w (.bool f) (.slice a n ca) (.slice b m cb) (.bool f') (.slice a' n' ca') (.slice b' m' cb') (.bool false) (.n) (.n);have m1:=R.m0;have m1':=R'.m0;obtain⟨NN,hNN⟩:∃z,z=(du f (!f'&&decide (0<n')) (lv X n*lv Y' m') (lv X' n'*lv Y m)&&bz f (!f'&&decide (0<n')) (lv X n*lv Y' m') (lv X' n'*lv Y m) != 0):=⟨_,rfl⟩;have HNN:=ae hNN;clear hNN;have J1:=@adu f' a' b' ba' oa' n' ca' bb' ob' m' cb' X' Y' (((w.alloc (.cells #[.bool f,.slice a n ca,.slice b m cb] 44)).alloc (.cells #[.bool f',.slice a' n' ca',.slice b' m' cb'] 44)).alloc (.cells #[.bool false,.n,.n] 44)).drew om om R'.nc R'.mc R'.ac R'.bc (R'.aA (ao sA)).LX (R'.aA (ao sA)).LY;go_enter Tryz.func47,Tryz.ntmps47;have k:=And.intro oA.cells pA.cells;go_wp2_with fail;generalize (((w.alloc _).alloc _).alloc _)=w1 at*
 go_region_held3 (fun w'=>w'.cell? (jj w.heap.size 0)=some (.bool f)/\w'.cell? (jj w.heap.size 1)=some (.slice a n ca)/\w'.cell? (jj w.heap.size 2)=some (.slice b m cb)/\w'.cell? (jj (w.heap.size+1) 0)=some (.bool f')/\w'.cell? (jj (w.heap.size+1) 1)=some (.slice a' n' ca')/\w'.cell? (jj (w.heap.size+1) 2)=some (.slice b' m' cb')) (go_keep)
  (first
    | (go_at_call 105
       with_reducible refine J1.mono ?_
       rintro e w2 ⟨g,h,c1,c2,rfl,v1,v2,L1,L2,b1,b2,b3,s2⟩;have S2:=(ao sA).trans (sM s2 sA.size);have o2:=oA.drew.aA s2;have p2:=pA.drew.aA s2;have r2:=rA.drew.aA s2;have kk:=And.intro o2.cells p2.cells;have R2:qJ w2 (jp g 0) (jp h 0) g 0 n' c1 h 0 m' c2 X' Y':=⟨v1,v2,fun h=>(by cases h),fun h=>(by cases h),L1,L2,R'.lX,R'.lY,R'.pX,R'.pY,R'.m0⟩;have J2:=@wS f (!f'&&decide (0<n')) a b (jp g 0) (jp h 0) ba oa n ca bb ob m cb g 0 n' c1 h 0 m' c2 X Y X' Y' w2 hn (R.aA S2) R2 ok (acV ok');rw[<-HNN.out] at J2)
    | (go_at_call 96
       with_reducible refine J2.mono ?_
       rintro e w6 ⟨v,rfl,⟨x1,x2,g6,h6,rfl,N6,D6,y1,y2,y3⟩,s6⟩;have N6':=N6;have D6':=D6;obtain⟨a1,q1,d1,Y1,rfl,-⟩:=N6;obtain⟨a2,q2,d2,Y2,rfl,-⟩:=D6;have kk:=And.intro (o2.aA s6).cells (p2.aA s6).cells;have rB:=r2.aA s6;obtain⟨u0,u1,u2⟩:=rB.g;obtain⟨uf0,uf1,uf2⟩:=rB.k))
 all_goals go_wp2
 all_goals
  have S6:=S2.tr s6;have zr:=r2.lt;have rC:=((rB.aE (.bool NN)).aG (.slice a1 q1 d1)).aF (.slice a2 q2 d2);refine bodyPost_ret (mu rfl _ _ _ _ _ _ rfl rC) rfl ?_;have M:af w6 _ (w.heap.size+1+1):=(((af.refl w6 _).setCell 0 (.bool NN)).setCell 1 (.slice a1 q1 d1)).setCell 2 (.slice a2 q2 d2);exact⟨_,rfl,⟨_,_,g6,h6,by rw[HNN.out],N6'.marked M om,D6'.marked M om,om,om,y3⟩,S6.trans (M.since om)⟩
theorem adv{f f':Bool}{a b a' b':Option Addr}{ba oa n ca bb ob m cb ba' oa' n' ca' bb' ob' m' cb':Nat}{X Y X' Y':Nat->Nat}{w:World}(hn:n+n'+m+m'<=16777216)
 (R:qJ w a b ba oa n ca bb ob m cb X Y)(R':qJ w a' b' ba' oa' n' ca' bb' ob' m' cb' X' Y')(ok:bM f X n Y m=true)(ok':bM f' X' n' Y' m'=true):
 Cl 15 #[.agg #[.bool f,.slice a n ca,.slice b m cb],.agg #[.bool f',.slice a' n' ca',.slice b' m' cb']] w fun e w'=>e=.returned (.i (po f f' (lv X n*lv Y' m') (lv X' n'*lv Y m)))/\w.S w':=by
 have sA:w.S ((w.alloc (.cells #[.bool f,.slice a n ca,.slice b m cb] 44)).alloc (.cells #[.bool f',.slice a' n' ca',.slice b' m' cb'] 44)):=(bJ _ _).alloc qz _;have zA:((w.alloc (.cells #[.bool f,.slice a n ca,.slice b m cb] 44)).alloc (.cells #[.bool f',.slice a' n' ca',.slice b' m' cb'] 44)).heap.size=w.heap.size+1+1:=by simp
 have oA:bj ((w.alloc (.cells #[.bool f,.slice a n ca,.slice b m cb] 44)).alloc (.cells #[.bool f',.slice a' n' ca',.slice b' m' cb'] 44)) w.heap.size (.bool f) (.slice a n ca) (.slice b m cb):=(bj.new w _ _ _ _).aA (bJ _ _)
 have pA:bj ((w.alloc (.cells #[.bool f,.slice a n ca,.slice b m cb] 44)).alloc (.cells #[.bool f',.slice a' n' ca',.slice b' m' cb'] 44)) (w.heap.size+1) (.bool f') (.slice a' n' ca') (.slice b' m' cb'):=by
  have:=bj.new (w.alloc (.cells #[.bool f,.slice a n ca,.slice b m cb] 44)) (.bool f') (.slice a' n' ca') (.slice b' m' cb') 44
  simpa using this
 have hX0:f=true->0<lv X n*lv Y' m':=fun e=>Nat.mul_pos (acg ok e R.pX) R'.den
 have hX1:f'=true->0<lv X' n'*lv Y m:=fun e=>Nat.mul_pos (acg ok' e R'.pX) R.den
 have hX2:0<n'↔0<lv X' n'*lv Y m:=by
  have h1:=gU R'.pX
  constructor
  . intro h;exact Nat.mul_pos om R.den
  . intro h
    rcases Nat.eq_zero_or_pos n' with e | e
    . rw[h1.1 e,Nat.zero_mul] at h;omega
    . exact e
 have hDD:=Nat.mul_pos R.den R'.den;obtain⟨z,hz⟩:∃z,z=po f f' (lv X n*lv Y' m') (lv X' n'*lv Y m):=⟨_,rfl⟩;have HZ:=ae hz;clear hz;have k:=And.intro oA.cells pA.cells;have J1:=@adt f f' a b a' b' ba oa n ca bb ob m cb ba' oa' n' ca' bb' ob' m' cb' X Y X' Y' ((w.alloc (.cells #[.bool f,.slice a n ca,.slice b m cb] 44)).alloc (.cells #[.bool f',.slice a' n' ca',.slice b' m' cb'] 44)) hn (R.aA sA) (R'.aA sA) ok ok';go_enter Tryz.func15,Tryz.ntmps15;go_wp2_with fail;generalize ((w.alloc _).alloc _)=w1 at*;refine J1.mono ?_;rintro e w2 ⟨v,rfl,⟨x1,x2,g6,h6,rfl,N6,D6,y1,y2,y3⟩,s2⟩;have S2:=sA.tr s2;obtain⟨a1,q1,d1,Y1,rfl,-,-,-,-,-,-,tp,ev⟩:=N6;obtain⟨a2,q2,d2,Y2,rfl,-⟩:=D6;have hq:q1=0↔bz f (!f'&&decide (0<n')) (lv X n*lv Y' m') (lv X' n'*lv Y m)=0:=(gU tp).trans (by rw[ev];exact qm hDD);have HC:=ae (aee f f' _ _ n' q1 hX0 hX1 hX2 hq);have J2:=@abx (du f (!f'&&decide (0<n')) (lv X n*lv Y' m') (lv X' n'*lv Y m)&&bz f (!f'&&decide (0<n')) (lv X n*lv Y' m') (lv X' n'*lv Y m) != 0) a1 a2 q1 d1 q2 d2 w2;rw[HC.out,<-HZ.out] at J2;clear J1 HC hq hX0 hX1 hX2 tp ev k;go_wp2_with fail;refine J2.mono ?_;rintro e w3 ⟨rfl,s3⟩;go_wp2;go_ret;exact⟨di HZ.out,S2.tr s3⟩
def qn(q:Rat):Bool:=decide (q.num<0)
theorem xw(s:Int)(d:Nat)(hd:d≠0):qn (Rat.normalize s d hd)=decide (s<0)/\(Rat.normalize s d hd).num.natAbs=s.natAbs/Nat.gcd s.natAbs d/\(Rat.normalize s d hd).den=d/Nat.gcd s.natAbs d:=by
 have hg:0<Nat.gcd s.natAbs d:=Nat.gcd_pos_of_pos_right _ om;rw[Rat.normalize_eq];obtain⟨k,hk⟩:=Nat.gcd_dvd_left s.natAbs d
 have hs:∃t:Int,s=(Nat.gcd s.natAbs d:Int)*t:=by
  have:((Nat.gcd s.natAbs d:Nat):Int)∣s:=Int.ofNat_dvd_left.2 (Nat.gcd_dvd_left _ _);exact this
 obtain⟨t,ht⟩:=hs;have hgi:(0:Int)<(Nat.gcd s.natAbs d:Int):=om
 have hq:s/(Nat.gcd s.natAbs d:Int)=t:=by
  have h1:=Int.mul_ediv_cancel_left t (show (Nat.gcd s.natAbs d:Int)≠0 by omega);rw[<-ht] at h1;exact h1
 refine⟨?_, ?_,rfl⟩
 . unfold qn
   show decide (s/(Nat.gcd s.natAbs d:Int)<0)=_
   rw[hq,decide_eq_decide]
   constructor
   . intro h
     rw[ht];exact Int.mul_neg_of_pos_of_neg hgi h
   . intro h
     rcases Int.lt_or_le t 0 with e | e
     . exact e
     . have:=Int.mul_nonneg (Int.le_of_lt hgi) e
       omega
 . show (s/(Nat.gcd s.natAbs d:Int)).natAbs=_
   rw[hq]
   have h2:s.natAbs=Nat.gcd s.natAbs d*t.natAbs:=by
    have:=congrArg Int.natAbs ht;rw[Int.natAbs_mul,Int.natAbs_natCast] at this;exact this
   rw[Nat.div_eq_of_eq_mul_right hg h2]
theorem xD(q:Rat):q.num=if qn q then-(q.num.natAbs:Int) else (q.num.natAbs:Int):=by
 unfold qn
 by_cases h:q.num<0
 . simp[h];omega
 . simp[h];omega
theorem uq{q:Rat}(h:qn q=true):0<q.num.natAbs:=by
 unfold qn at h;have:=of_decide_eq_true h;omega
theorem ahu(f f':Bool)(x y:Nat)(hf:f=true->0<x)(hf':f'=true->0<y):decide ((if f then-(x:Int) else x)+(if f' then-(y:Int) else y)<0)=(du f f' x y&&bz f f' x y != 0)/\((if f then-(x:Int) else x)+(if f' then-(y:Int) else y)).natAbs=bz f f' x y:=by
 unfold du bz
 constructor
 . rw[Bool.eq_iff_iff,decide_eq_true_iff]
   cases f<;>cases f'<;>simp
   . omega
   . by_cases h:x<y<;>simp[h]<;>omega
   . by_cases h:x<y<;>simp[h]<;>omega
   . have:=hf rfl;omega
 . cases f<;>cases f'<;>simp
   . omega
   . by_cases h:x<y<;>simp[h]<;>omega
   . by_cases h:x<y<;>simp[h]<;>omega
   . omega
theorem agW(p q:Rat):qn (p+q)=(du (qn p) (qn q) (p.num.natAbs*q.den) (q.num.natAbs*p.den)&&bz (qn p) (qn q) (p.num.natAbs*q.den) (q.num.natAbs*p.den) != 0)/\
 (p+q).num.natAbs=bz (qn p) (qn q) (p.num.natAbs*q.den) (q.num.natAbs*p.den)/Nat.gcd (bz (qn p) (qn q) (p.num.natAbs*q.den) (q.num.natAbs*p.den)) (p.den*q.den)/\
 (p+q).den=p.den*q.den/Nat.gcd (bz (qn p) (qn q) (p.num.natAbs*q.den) (q.num.natAbs*p.den)) (p.den*q.den):=by
 rw[Rat.add_def];have h:=xw (p.num*q.den+q.num*p.den) (p.den*q.den) (Nat.mul_ne_zero p.den_nz q.den_nz);have hm:=ahu (qn p) (qn q) (p.num.natAbs*q.den) (q.num.natAbs*p.den) (fun e=>Nat.mul_pos (uq e) (Nat.pos_of_ne_zero q.den_nz)) (fun e=>Nat.mul_pos (uq e) (Nat.pos_of_ne_zero p.den_nz))
 have e1:p.num*(q.den:Int)=if qn p then-((p.num.natAbs*q.den:Nat):Int) else ((p.num.natAbs*q.den:Nat):Int):=by
  conv=>lhs;rw[xD p]
  cases qn p<;>simp[Int.neg_mul]
 have e2:q.num*(p.den:Int)=if qn q then-((q.num.natAbs*p.den:Nat):Int) else ((q.num.natAbs*p.den:Nat):Int):=by
  conv=>lhs;rw[xD q]
  cases qn q<;>simp[Int.neg_mul]
 rw[<-e1,<-e2] at hm;rw[hm.1,hm.2] at h;exact h
def aaV(p q:Rat):Int:=if p<q then-1 else if q<p then 1 else 0
theorem agV(p q:Rat):po (qn p) (qn q) (p.num.natAbs*q.den) (q.num.natAbs*p.den)=aaV p q:=by
 have e1:p.num*(q.den:Int)=if qn p then-((p.num.natAbs*q.den:Nat):Int) else ((p.num.natAbs*q.den:Nat):Int):=by
  conv=>lhs;rw[xD p]
  cases qn p<;>simp[Int.neg_mul]
 have e2:q.num*(p.den:Int)=if qn q then-((q.num.natAbs*p.den:Nat):Int) else ((q.num.natAbs*p.den:Nat):Int):=by
  conv=>lhs;rw[xD q]
  cases qn q<;>simp[Int.neg_mul]
 have h1:qn p=true->0<p.num.natAbs*q.den:=fun e=>Nat.mul_pos (uq e) (Nat.pos_of_ne_zero q.den_nz)
 have h2:qn q=true->0<q.num.natAbs*p.den:=fun e=>Nat.mul_pos (uq e) (Nat.pos_of_ne_zero p.den_nz)
 unfold aaV po;simp only[Rat.lt_iff,e1,e2];generalize p.num.natAbs*q.den=x at*;generalize q.num.natAbs*p.den=y at*;unfold fd;cases hp:qn p<;>cases hq:qn q<;>simp[hp,hq] at h1 h2⊢ <;>(repeat' split)<;>omega
def yD(w:World)(v:Value)(q:Rat):Prop:=
 ∃a n ca b m cb ba oa bb ob X Y,v=.agg #[.bool (qn q),.slice a n ca,.slice b m cb]/\qJ w a b ba oa n ca bb ob m cb X Y/\lv X n=q.num.natAbs/\lv Y m=q.den
def Qb(q:Rat)(k:Nat):Prop:=q.num.natAbs<4294967296^k/\q.den<4294967296^k
theorem Qb.more{q:Rat}{k l:Nat}(h:Qb q k)(hk:k<=l):Qb q l:=
 ⟨Nat.lt_of_lt_of_le h.1 (Nat.pow_le_pow_right qd hk),Nat.lt_of_lt_of_le h.2 (Nat.pow_le_pow_right qd hk)⟩
theorem iV{X:Nat->Nat}{n k:Nat}(h0:0<n->X (n-1)≠0)(h:lv X n<4294967296^k):n<=k:=by
 rcases Nat.lt_or_ge k n with e | e
 . exfalso
   have h1:0<n:=om
   have h2:=jU X n h1 (h0 h1);rw[Nat.pow_mul,show (2:Nat)^32=4294967296 by decide] at h2;have h3:(4294967296:Nat)^k<=4294967296^(n-1):=Nat.pow_le_pow_right qd om;omega
 . exact e
theorem acQ(f f':Bool)(x y:Nat):bz f f' x y<=x+y:=by
 unfold bz
 split
 . omega
 . split<;>omega
theorem Qb.add{p q:Rat}{k l:Nat}(h:Qb p k)(h':Qb q l):Qb (p+q) (k+l+1):=by
 obtain⟨-,e2,e3⟩:=agW p q;unfold Qb;rw[e2,e3,Nat.pow_succ,Nat.pow_add];have h1:=Nat.mul_lt_mul'' h.1 h'.2;have h2:=Nat.mul_lt_mul'' h'.1 h.2;have h3:=Nat.mul_lt_mul'' h.2 h'.2;rw[Nat.mul_comm (4294967296^l)] at h2;generalize 4294967296^k*4294967296^l=B at*;have h4:=acQ (qn p) (qn q) (p.num.natAbs*q.den) (q.num.natAbs*p.den);refine⟨Nat.lt_of_le_of_lt (Nat.div_le_self _ _) om,Nat.lt_of_le_of_lt (Nat.div_le_self _ _) om⟩
theorem qJ.ok{w:World}{a b:Option Addr}{ba oa n ca bb ob m cb:Nat}{X Y:Nat->Nat}{q:Rat}(R:qJ w a b ba oa n ca bb ob m cb X Y)(h1:lv X n=q.num.natAbs)(h2:lv Y m=q.den):bM (qn q) X n Y m=true:=by
 have p1:=dX.2 R.pX;have p2:=dX.2 R.pY;have m0:=R.m0;have g:Nat.gcd (lv X n) (lv Y m)=1:=by rw[h1,h2];exact q.reduced
 have hz:(qn q&&n==0)=false:=by
  cases hq:qn q
  . rfl
  . have:=uq hq
    rw[<-h1] at this;have h3:=gU R.pX;have:n≠0:=by intro e;have:=h3.1 e;omega
    simp[this]
 unfold bM;rw[p1,p2,g,hz]
 simp
 omega
theorem acs{v v':Value}{p q:Rat}{k l:Nat}{w:World}(hp:Qb p k)(hq:Qb q l)(hk:2*k+2*l<=16777216)(R:yD w v p)(R':yD w v' q):
 Cl 96 #[v,v'] w fun e w'=>∃u,e=.returned u/\dM w' u (qn (p+q)) (p+q).num.natAbs (p+q).den w.heap.size 67108864/\w.S w':=by
 obtain⟨a,n,ca,b,m,cb,ba,oa,bb,ob,X,Y,rfl,R,x1,x2⟩:=R;obtain⟨a',n',ca',b',m',cb',ba',oa',bb',ob',X',Y',rfl,R',y1,y2⟩:=R';have n1:=iV R.pX (by rw[x1];exact hp.1);have n2:=iV R.pY (by rw[x2];exact hp.2);have n3:=iV R'.pX (by rw[y1];exact hq.1);have n4:=iV R'.pY (by rw[y2];exact hq.2);have J:=wS om R R' (R.ok x1 x2) (R'.ok y1 y2);obtain⟨e1,e2,e3⟩:=agW p q;rw[x1,x2,y1,y2,<-e1,<-e2,<-e3] at J;exact J
end Go.Proofs.YtclgkofcooibfaaGreatDoor
namespace Go.Proofs.YtclgkofcooibfaaGreatDoor
def nums(q:Nat->Rat):Nat->Nat
 | 0=>1
 | n+1=>nums q n*((q n).num.natAbs+1)
end Go.Proofs.YtclgkofcooibfaaGreatDoor
namespace Go.Proofs.YtclgkofcooibfaaGreatDoor
open Go.RowKit
def br.q(r:br):Rat:=mkRat (if r.neg then-(lv r.X r.n:Int) else lv r.X r.n) (lv r.Y r.m)
theorem ah9(f:Bool)(N D:Nat)(hD:D≠0):qn (mkRat (if f then-(N:Int) else N) D)=(f&&N != 0)/\(mkRat (if f then-(N:Int) else N) D).num.natAbs=N/Nat.gcd N D/\(mkRat (if f then-(N:Int) else N) D).den=D/Nat.gcd N D:=by
 rw[<-Rat.normalize_eq_mkRat hD];obtain⟨e1,e2,e3⟩:=xw (if f then-(N:Int) else N) D hD;have ea:(if f then-(N:Int) else (N:Int)).natAbs=N:=by split<;>simp
 rw[ea] at e2 e3;refine⟨?_,e2,e3⟩;rw[e1];cases f
 . simp
 . show decide (-(N:Int)<0)=(true&&N != 0)
   rw[Bool.eq_iff_iff];simp only[decide_eq_true_eq,Bool.true_and,bne_iff_ne];omega
theorem br.q_ok{r:br}(h:r.ok=true):qn r.q=r.neg/\r.q.num.natAbs=lv r.X r.n/\r.q.den=lv r.Y r.m/\(0<r.n->r.X (r.n-1)≠0)/\(0<r.m->r.Y (r.m-1)≠0)/\0<r.m:=by
 unfold br.ok bM at h;simp only[Bool.and_eq_true,bne_iff_ne,beq_iff_eq,Bool.not_eq_true',Bool.and_eq_false_iff] at h;obtain⟨⟨⟨⟨h1,h2⟩,h3⟩,h4⟩,h5⟩:=h;have pX:=dX.1 h1;have pY:=dX.1 h2;have hm:0<r.m:=om
 have hd:lv r.Y r.m≠0:=fun e=>by have:=(gU pY).2 e;omega
 obtain⟨e1,e2,e3⟩:=ah9 r.neg (lv r.X r.n) (lv r.Y r.m) hd;rw[h5,Nat.div_one] at e2 e3;refine⟨?_,e2,e3,pX,pY,hm⟩;unfold br.q;rw[e1];cases hn:r.neg
 . rfl
 . have hx:r.n≠0:=by
    rcases h4 with h | h
    . rw[hn] at h;cases h
    . simpa using h
   have:lv r.X r.n≠0:=fun e=>hx ((gU pX).2 e)
   simp[this]
def xj(w:World)(p:Nat->Prop)(v:Value)(q:Rat):Prop:=
 ∃a n ca b m cb ba oa bb ob X Y,v=.agg #[.bool (qn q),.slice a n ca,.slice b m cb]/\qJ w a b ba oa n ca bb ob m cb X Y/\lv X n=q.num.natAbs/\lv Y m=q.den/\(0<n->p ba)/\(0<m->p bb)
section
variable{w w':World}{p p':Nat->Prop}{v:Value}{q:Rat}{a:Option Addr}{b off n c:Nat}{Q:Nat->Rat}
theorem xj.aA(h:xj w p v q)(s:w.S w'):xj w' p v q:=by
 obtain⟨a,n,ca,b,m,cb,ba,oa,bb,ob,X,Y,h1,h2,h3⟩:=h;exact⟨a,n,ca,b,m,cb,ba,oa,bb,ob,X,Y,h1,h2.aA s,h3⟩
theorem xj.read(h:xj w p v q):yD w v q:=by
 obtain⟨a,n,ca,b,m,cb,ba,oa,bb,ob,X,Y,h1,h2,h3,h4,-⟩:=h;exact⟨a,n,ca,b,m,cb,ba,oa,bb,ob,X,Y,h1,h2,h3,h4⟩
structure adI(w:World)(p:Nat->Prop)(b off:Nat)(q:Rat)(x y:Value):Prop where
 c0:w.cell? ⟨b,off,none⟩=some (.bool (qn q))
 c1:w.cell? ⟨b,off+1,none⟩=some x
 c2:w.cell? ⟨b,off+2,none⟩=some y
 R:xj w p (.agg #[.bool (qn q),x,y]) q
theorem adI.lt{x y:Value}(h:adI w p b off q x y):b<w.heap.size:=gz _ _ h.c0
theorem adI.aA{x y:Value}(h:adI w p b off q x y)(s:w.S w'):adI w' p b off q x y:=
 ⟨(s.cell (a:=jj b off) h.lt).trans h.c0,(s.cell (a:=jj b (off+1)) h.lt).trans h.c1,(s.cell (a:=jj b (off+2)) h.lt).trans h.c2,h.R.aA s⟩
def aiS(w:World)(p:Nat->Prop)(a:Option Addr)(b off n:Nat)(Q:Nat->Rat):Prop:=
 ∀i,i<n->a=some ⟨b,off,none⟩/\∃x y,adI w p b (off+i*3) (Q i) x y
end
theorem fw.qs{w:World}{lo b off n:Nat}{a:Option Addr}{R:Nat->br}(h:fw w lo a b off n R)(ok:gD R n):aiS w (fun g=>lo<=g) a b off n (fun i=>(R i).q):=fun i hi=>by
 obtain⟨h1,a1,a2,k1,k2,m⟩:=h i hi;obtain⟨e1,e2,e3,pX,pY,hm⟩:=br.q_ok (ok i hi);obtain⟨ba,oa,l1,LX⟩:=m.L.LX;obtain⟨bb,ob,l2,LY⟩:=m.L.LY;exact⟨h1,.slice a1 (R i).n k1,.slice a2 (R i).m k2,by rw[e1];exact m.c0,m.c1,m.c2,a1,(R i).n,k1,a2,(R i).m,k2,ba,oa,bb,ob,(R i).X,(R i).Y,rfl,⟨m.L.nc,m.L.mc,m.L.ac,m.L.bc,LX,LY,m.L.lX,m.L.lY,pX,pY,hm⟩,e2.symm,e3.symm,l1,l2⟩
theorem agy{v v':Value}{p q:Rat}{k l:Nat}{w:World}(hp:Qb p k)(hq:Qb q l)(hk:2*k+2*l<=16777216)(R:yD w v p)(R':yD w v' q):
 Cl 15 #[v,v'] w fun e w'=>e=.returned (.i (aaV p q))/\w.S w':=by
 obtain⟨a,n,ca,b,m,cb,ba,oa,bb,ob,X,Y,rfl,R,x1,x2⟩:=R;obtain⟨a',n',ca',b',m',cb',ba',oa',bb',ob',X',Y',rfl,R',y1,y2⟩:=R';have n1:=iV R.pX (by rw[x1];exact hp.1);have n2:=iV R.pY (by rw[x2];exact hp.2);have n3:=iV R'.pX (by rw[y1];exact hq.1);have n4:=iV R'.pY (by rw[y2];exact hq.2);have J:=adv om R R' (R.ok x1 x2) (R'.ok y1 y2);rw[x1,x2,y1,y2,agV] at J;exact J
def iz(op:Int):Bool:=op==1 ||op==5 ||op==6
def gF(op:Int):Bool:=op==6
def oC(op:Int):Bool:=op==1 ||op==3 ||op==6 ||op==7
def gG(op:Int):Bool:=op==4
def iK(z:Int)(u:Bool):Prop:=if u then 1<=z/\z<=1000 else z=0
def acI(d:ay)(ub uk us:Bool)(nums:Int):Prop:=
 (ub=false->d.b=0)/\iK d.k uk/\iK d.s us/\(nums≠-1->(d.nv:Int)=nums)/\gD d.V d.nv
structure ay.Form(d:ay):Prop where
 o1:1<=d.op
 o7:d.op<=7
 k:iK d.k (iz d.op)
 s:iK d.s (gF d.op)
 b:gG d.op=false->d.b=0
 v:oC d.op=false->d.nv=0
 v3:d.op=3->d.nv=1
 v7:d.op=7->d.nv=4
 ok:gD d.V d.nv
theorem jF{d:ay}{z:Int}{ub uk us:Bool}{nums:Int}(h:d.op=z)(h1:1<=z)(h7:z<=7)(eb:gG z=ub)(ek:iz z=uk)(es:gF z=us)
 (en:(nums=-1/\oC z=true/\z≠3/\z≠7)∨(nums=0/\oC z=false)∨(nums=1/\z=3)∨(nums=4/\z=7)):d.Form↔acI d ub uk us nums:=by
 subst h eb ek es
 constructor
 . intro f
   refine⟨f.b,f.k,f.s,fun hn=> ?_,f.ok⟩
   rcases en with ⟨rfl,-⟩ | ⟨rfl,e⟩ | ⟨rfl,e⟩ | ⟨rfl,e⟩
   . exact absurd rfl hn
   . have:=f.v e;omega
   . have:=f.v3 e;omega
   . have:=f.v7 e;omega
 . rintro⟨a1,a2,a3,a4,a5⟩
   refine⟨h1,h7,a2,a3,a1,fun e=> ?_,fun e=> ?_,fun e=> ?_,a5⟩
   . rcases en with ⟨rfl,e2,-⟩ | ⟨rfl,-⟩ | ⟨rfl,e2⟩ | ⟨rfl,e2⟩
     . rw[e] at e2;cases e2
     . have:=a4 qd;omega
     . rw[e2] at e;cases e
     . rw[e2] at e;cases e
   . rcases en with ⟨-,-,e2,-⟩ | ⟨-,e2⟩ | ⟨rfl,-⟩ | ⟨-,e2⟩
     . exact absurd e e2
     . rw[e] at e2;cases e2
     . have:=a4 qd;omega
     . omega
   . rcases en with ⟨-,-,-,e2⟩ | ⟨-,e2⟩ | ⟨-,e2⟩ | ⟨rfl,-⟩
     . exact absurd e e2
     . rw[e] at e2;cases e2
     . omega
     . have:=a4 qd;omega
def lT(d:ay)(i:Nat):Prop:=0<=d.a/\d.a<i/\(gG d.op=true->0<=d.b/\d.b<i)
def cQ(D:Nat->Int)(d:ay):Int:=
 if d.op=1/\(d.nv:Int)≠d.k*(D d.a.toNat+1) then 14
 else if d.op=4/\D d.b.toNat≠D d.a.toNat then 14
 else if d.op=5/\D d.a.toNat % d.k≠0 then 14
 else if d.op=6/\(d.k>D d.a.toNat∨(d.nv:Int)≠d.k+1) then 14
 else if d.op=7/\(d.V 2).n=0 then 15
 else 0
def aiG(d:ay):Decidable d.Form:= @decidable_of_iff _ (1<=d.op/\d.op<=7/\(if iz d.op then 1<=d.k/\d.k<=1000 else d.k=0)/\(if gF d.op then 1<=d.s/\d.s<=1000 else d.s=0)/\(gG d.op=false->d.b=0)/\(oC d.op=false->d.nv=0)/\(d.op=3->d.nv=1)/\(d.op=7->d.nv=4)/\∀i,i<d.nv->(d.V i).ok=true) ⟨fun⟨a,b,c,e,f,g,h,i,j⟩=>⟨a,b,c,e,f,g,h,i,j⟩,fun f=>⟨f.o1,f.o7,f.k,f.s,f.b,f.v,f.v3,f.v7,f.ok⟩⟩ inferInstance
def srcD(d:ay)(i:Nat):Decidable (lT d i):=inferInstanceAs (Decidable (0<=d.a/\d.a<i/\(gG d.op=true->0<=d.b/\d.b<i)))
def dp(D:Nat->Int)(i:Nat)(d:ay):Int:=
 haveI:=aiG d;haveI:=srcD d i;if ¬d.Form then 12 else if ¬lT d i then 13 else cQ D d
def iA(D:Nat->Int)(d:ay):Int:=
 if d.op=1 then d.k else if d.op=5 then D d.a.toNat/d.k else if d.op=6 then (D d.a.toNat-d.k)/d.s+1 else D d.a.toNat
def iw(g:ax):Nat->Nat->Int
 | 0=>fun _=>g.inn
 | i+1=>fun j=>if j<=i then iw g i j else iA (iw g i) (g.N i)
theorem qo(g:ax){i j:Nat}(h:j<=i):iw g (i+1) j=iw g i j:=by
 show (if j<=i then _ else _)=_
 rw[if_pos h]
theorem qp(g:ax)(i:Nat):iw g (i+1) (i+1)=iA (iw g i) (g.N i):=by
 show (if i+1<=i then _ else _)=_
 rw[if_neg om]
def nc(g:ax)(k:Nat):Int:=dp (iw g k) (k+1) (g.N k)
def Dok(D:Nat->Int)(n:Nat):Prop:=∀j,j<n->1<=D j/\D j<=1000
theorem ry{D:Nat->Int}{i:Nat}{d:ay}(h:dp D i d=0):d.Form/\lT d i/\cQ D d=0:=by
 unfold dp at h
 by_cases h1:d.Form
 . by_cases h2:lT d i
   . simp only[h1,h2,not_true_eq_false,if_false] at h
     exact⟨h1,h2,h⟩
   . simp[h1,h2] at h
 . simp[h1] at h
theorem rz{D:Nat->Int}{i:Nat}{d:ay}(h:¬d.Form):dp D i d=12:=by unfold dp;simp[h]
theorem ve{D:Nat->Int}{i:Nat}{d:ay}(h:d.Form)(h2:¬lT d i):dp D i d=13:=by unfold dp;simp[h,h2]
theorem vg{D:Nat->Int}{i:Nat}{d:ay}(h:d.Form)(h2:lT d i):dp D i d=cQ D d:=by unfold dp;simp[h,h2]
theorem aft{D:Nat->Int}{i:Nat}{d:ay}(hD:Dok D i)(h:dp D i d=0):1<=iA D d/\iA D d<=1000:=by
 obtain⟨f,⟨s1,s2,-⟩,c⟩:=ry h;have hd:=hD d.a.toNat om;generalize hx:D d.a.toNat=x at hd;unfold cQ at c;unfold iA;rw[hx] at c⊢
 by_cases o1:d.op=1
 . have:=f.k
   rw[o1] at this;rw[if_pos o1];exact this
 by_cases o5:d.op=5
 . have hk:=f.k
   rw[o5] at hk;have hk:1<=d.k/\d.k<=1000:=hk;rw[if_neg o1,if_pos o5]
   by_cases hm:x % d.k=0
   . have e:=Int.mul_ediv_add_emod x d.k
     rw[hm] at e;generalize hy:x/d.k=y at*
     constructor
     . by_cases hy0:y<=0
       . have:d.k*y<=0:=Int.mul_nonpos_of_nonneg_of_nonpos om hy0
         omega
       . omega
     . have:x/d.k<=x:=Int.ediv_le_self _ om
       omega
   . exfalso
     simp[o5,hm] at c
 by_cases o6:d.op=6
 . have hk:=f.k
   have hs:=f.s;rw[o6] at hk hs;have hk:1<=d.k/\d.k<=1000:=hk;have hs:1<=d.s/\d.s<=1000:=hs;rw[if_neg o1,if_neg o5,if_pos o6]
   by_cases hm:d.k>x
   . exfalso
     simp[o6,hm] at c
   . have h0:0<=(x-d.k)/d.s:=Int.ediv_nonneg om om
     have h1:(x-d.k)/d.s<=x-d.k:=Int.ediv_le_self _ om;omega
 rw[if_neg o1,if_neg o5,if_neg o6];exact hd
structure kO(g:ax):Prop where
 i1:1<=g.inn
 i2:g.inn<=1000
 r0:0<=g.rounds
 r1:g.rounds<=1000
 l:(g.nl:Int)=g.inn
 h:(g.nh:Int)=g.inn
 n:g.nn<=1000
 okL:gD g.Lo g.nl
 okH:gD g.Hi g.nh
def fK(g:ax)(j:Nat):Prop:=0<aaV (g.Lo j).q (g.Hi j).q
def wh(g:ax)(n:Nat)(X:Nat->Int)(c a:Int):Prop:=
 (¬kO g/\n=0/\c=10/\a=0)∨
 (kO g/\∃j:Nat,(j:Int)<g.inn/\(∀i,i<j->¬fK g i)/\fK g j/\n=0/\c=11/\a=j)∨
 (kO g/\(∀j:Nat,(j:Int)<g.inn->¬fK g j)/\∃i,i<g.nn/\(∀k,k<i->nc g k=0)/\nc g i≠0/\n=0/\c=nc g i/\a=((i+1:Nat):Int))∨
 (kO g/\(∀j:Nat,(j:Int)<g.inn->¬fK g j)/\(∀k,k<g.nn->nc g k=0)/\¬(0<=g.out/\g.out<=g.nn)/\n=0/\c=16/\a=0)∨
 (kO g/\(∀j:Nat,(j:Int)<g.inn->¬fK g j)/\(∀k,k<g.nn->nc g k=0)/\(0<=g.out/\g.out<=g.nn)/\n=g.nn+1/\(∀j,j<n->X j=iw g g.nn j)/\c=0/\a=0)
theorem wh.only{g:ax}{n n':Nat}{X X':Nat->Int}{c c' a a':Int}(h:wh g n X c a)(h':wh g n' X' c' a'):n'=n/\c'=c/\a'=a/\∀j,j<n->X' j=X j:=by
 rcases h with ⟨p0,rfl,rfl,rfl⟩ | ⟨p0,j,j1,j2,j3,rfl,rfl,rfl⟩ | ⟨p0,p1,i,i1,i2,i3,rfl,rfl,rfl⟩ | ⟨p0,p1,p2,p3,rfl,rfl,rfl⟩ | ⟨p0,p1,p2,p3,rfl,e,rfl,rfl⟩<;>
 rcases h' with ⟨q0,rfl,rfl,rfl⟩ | ⟨q0,j',j1',j2',j3',rfl,rfl,rfl⟩ | ⟨q0,q1,i',i1',i2',i3',rfl,rfl,rfl⟩ | ⟨q0,q1,q2,q3,rfl,rfl,rfl⟩ | ⟨q0,q1,q2,q3,rfl,e',rfl,rfl⟩
 all_goals first
  | exact absurd q0 p0
  | exact absurd p0 q0
  | exact absurd j3 (q1 _ j1)
  | exact absurd j3' (p1 _ j1')
  | exact absurd (q2 _ i1) i3
  | exact absurd (p2 _ i1') i3'
  | exact absurd q3 p3
  | exact absurd p3 q3
  | exact⟨rfl,rfl,rfl,fun j hj=>absurd hj om⟩
  | exact⟨rfl,rfl,rfl,fun j hj=>by rw[e j hj,e' j hj]⟩
  | (have:j'=j:=by
      rcases Nat.lt_trichotomy j' j with h | h | h
      . exact absurd j3' (j2 _ h)
      . exact h
      . exact absurd j3 (j2' _ h)
     subst this;exact⟨rfl,rfl,rfl,fun j hj=>absurd hj om⟩)
  | (have:i'=i:=by
      rcases Nat.lt_trichotomy i' i with h | h | h
      . exact absurd (i2 _ h) i3'
      . exact h
      . exact absurd (i2' _ h) i3
     subst this;exact⟨rfl,rfl,rfl,fun j hj=>absurd hj om⟩)
def br.aU(r:br):Prop:=(∀j,j<r.n->r.X j<4294967296)/\∀j,j<r.m->r.Y j<4294967296
theorem fw.aU{w:World}{lo b off n:Nat}{a:Option Addr}{R:Nat->br}(h:fw w lo a b off n R):∀i,i<n->(R i).aU:=fun i hi=>by
 obtain⟨-,a1,a2,k1,k2,m⟩:=h i hi;exact⟨m.L.lX,m.L.lY⟩
theorem afS{r:br}(ok:r.ok=true)(l:r.aU):r.q.num.natAbs+1<=4294967296^r.n/\r.q.den<=4294967296^r.m:=by
 obtain⟨-,e2,e3,-⟩:=br.q_ok ok;have h1:=fy r.X r.n l.1;have h2:=fy r.Y r.m l.2;rw[Nat.pow_mul,show (2:Nat)^32=4294967296 by decide] at h1 h2;rw[e2,e3];omega
section
variable{w w':World}{lo hi b off:Nat}{q:Rat}{g h:Nat}{a1:Option Addr}{n1 k1:Nat}{a2:Option Addr}{n2 k2:Nat}{X Y:Nat->Nat}
end
section
variable{w w' w'':World}{S S':Nat->Prop}{b n:Nat}
end
structure OwnQ(w:World)(p:Nat->Prop)(b off:Nat)(f:Bool)(g h:Nat)(a1:Option Addr)(n1 k1:Nat)(a2:Option Addr)(n2 k2:Nat)(X Y:Nat->Nat):Prop where
 c0:w.cell? ⟨b,off,none⟩=some (.bool f)
 c1:w.cell? ⟨b,off+1,none⟩=some (.slice a1 n1 k1)
 c2:w.cell? ⟨b,off+2,none⟩=some (.slice a2 n2 k2)
 L1:ag w a1 g 0 n1 X
 L2:ag w a2 h 0 n2 Y
 s1:n1<=4194304
 s2:n2<=4194304
 lg:0<n1->p g/\∀o,w.frozen? ⟨g,o,none⟩=false
 lh:0<n2->p h/\∀o,w.frozen? ⟨h,o,none⟩=false
 ne:0<n1->0<n2->g≠h
def aiT(w:World)(b k n:Nat)(p:Nat->Nat->Prop):Prop:=∀i,k<=i->i<n->∃f g h a1 n1 k1 a2 n2 k2 X Y,OwnQ w (p i) b (i*3) f g h a1 n1 k1 a2 n2 k2 X Y
structure DisP(n:Nat)(p:Nat->Nat->Prop)(b:Nat):Prop where
 one:∀i j q,i<n->j<n->p i q->p j q->i=j
 nb:∀i q,i<n->p i q->q≠b
structure LQ(w:World)(a:Option Addr)(g n:Nat)(p:Nat->Nat->Prop):Prop where
 ha:0<n->a=some ⟨g,0,none⟩
 f:0<n->∀o,w.frozen? ⟨g,o,none⟩=false
 Q:aiT w g 0 n p
 D:DisP n p g
section
variable{w w':World}{S:Nat->Prop}{a:Option Addr}{g n:Nat}{p:Nat->Nat->Prop}{K:Nat->Nat}
theorem LQ.aA(h:LQ w a g n p)(s:w.S w'):LQ w' a g n p:=by
 refine⟨h.ha,fun h0 o=> ?_,fun i h1 h2=> ?_,h.D⟩
 . obtain⟨f',g',h',a1',n1',k1',a2',n2',k2',X',Y',r'⟩:=h.Q 0 (Nat.le_refl _) h0
   have lt:=gz _ _ r'.c0;rw[s.frozen (a:=jj g o) lt];exact h.f h0 o
 . obtain⟨f',g',h',a1',n1',k1',a2',n2',k2',X',Y',r'⟩:=h.Q i h1 h2
   have lt:=gz _ _ r'.c0;refine⟨f',g',h',a1',n1',k1',a2',n2',k2',X',Y',(s.cell (a:=jj g (i*3)) lt).trans r'.c0,(s.cell (a:=jj g (i*3+1)) lt).trans r'.c1,(s.cell (a:=jj g (i*3+2)) lt).trans r'.c2,r'.L1.aA s,r'.L2.aA s,r'.s1,r'.s2,fun h0=>⟨(r'.lg h0).1,fun o=> ?_⟩,fun h0=>⟨(r'.lh h0).1,fun o=> ?_⟩,r'.ne⟩
   . have lt':=gz _ _ (r'.L1 0 h0).2
     rw[s.frozen (a:=jj g' o) lt'];exact (r'.lg h0).2 o
   . have lt':=gz _ _ (r'.L2 0 h0).2
     rw[s.frozen (a:=jj h' o) lt'];exact (r'.lh h0).2 o
end
section
variable{w w':World}{S p:Nat->Prop}{c i K K':Nat}{v0 v1:Value}{aW aB:Option Addr}{gW nW cW gB nB cB:Nat}{pW pB:Nat->Nat->Prop}{kW kB:Nat->Nat}
end
def psN(z:Nat->Nat):Nat->Nat
 | 0=>0
 | i+1=>psN z i+z i
def uN:Array MapEntry:= #[⟨.string ⟨#[100,101,110,115,101]⟩,.func (.func 57) #[] #[],0⟩,⟨.string ⟨#[114,101,108,117]⟩,.func (.func 58) #[] #[],1⟩,
 ⟨.string ⟨#[108,101,97,107,121]⟩,.func (.func 59) #[] #[],2⟩,⟨.string ⟨#[97,100,100]⟩,.func (.func 60) #[] #[],3⟩,⟨.string ⟨#[109,97,120,112,111,111,108]⟩,.func (.func 61) #[] #[],4⟩,
 ⟨.string ⟨#[99,111,110,118]⟩,.func (.func 62) #[] #[],5⟩,⟨.string ⟨#[110,111,114,109]⟩,.func (.func 63) #[] #[],6⟩]
def dg(w:World)(m:Nat):Prop:=w.heap[m]?=some (.map uN 7)
theorem dg.lt{w:World}{m:Nat}(h:dg w m):m<w.heap.size:=(Array.getElem?_eq_some_iff.1 h).1
theorem dg.aA{w w':World}{m:Nat}(h:dg w m)(s:w.S w'):dg w' m:=by
 unfold dg;rw[s.block m h.lt];exact h
theorem dU{P:Program}{w:World}{mty kt et:TypeId}{r clock:Nat}{es:Array MapEntry}{s:ByteArray}{val:Value}(hm:P.underlying mty=some (.map kt et))(hk:P.underlying kt=some .string)(hb:w.heap[r]?=some (.map es clock))(hf:Instr.findNow .string (.string s) es.toList 0=some none):
 ∃w',(Instr.mapUpdate mty (.map (some r)) (.string s) val).run P w=.ok () w'/\w'.heap[r]?=some (.map (es.push { key:=.string s,val:=val,born:=clock }) (clock+1))/\w'.heap.size=w.heap.size/\w'.os=w.os/\w'.tape=w.tape/\w'.output=w.output/\∀k,k≠r->w'.heap[k]?=w.heap[k]?:=by
 refine⟨{ w with heap:=w.heap.setIfInBounds r (.map (es.push { key:=.string s,val:=val,born:=clock }) (clock+1)) }, ?_,(MapKept.heap_set hb).1,qz,rfl,rfl,rfl,fun k hk=>(MapKept.heap_set hb).2 k hk⟩;have hc:(Instr.checkKey false 10000 kt (.string s)).run P w=.ok () w:=MapKept.run_checkKey (k:=.string s) hk (by simp[MapKept.IsKey]) false 9999
 simp[Instr.mapUpdate,run_underlying hm,MapKept.run_getObj_map hb,hc,MapKept.run_findKey hk hf,MapKept.run_setObj_map _ hb,Result.andThen]
theorem pI{P:Program}{w:World}{mty kt et:TypeId}{r clock i:Nat}{es:Array MapEntry}{s:ByteArray}{val:Value}(hm:P.underlying mty=some (.map kt et))(hk:P.underlying kt=some .string)(hb:w.heap[r]?=some (.map es clock))(hf:Instr.findNow .string (.string s) es.toList 0=some (some (i,val))):
 (Instr.lookup mty (.map (some r)) (.string s) true).run P w=.ok (.tuple #[val,.bool true]) w:=by
 have hc:(Instr.checkKey es.isEmpty 10000 kt (.string s)).run P w=.ok () w:=MapKept.run_checkKey (k:=.string s) hk (by simp[MapKept.IsKey]) _ 9999
 simp[Instr.lookup,run_underlying hm,MapKept.run_getObj_map hb,hc,MapKept.run_findKey hk hf,Result.andThen]
theorem rV{P:Program}{w:World}{mty kt et:TypeId}{r clock:Nat}{es:Array MapEntry}{s:ByteArray}{z:Value}(hm:P.underlying mty=some (.map kt et))(hk:P.underlying kt=some .string)(hb:w.heap[r]?=some (.map es clock))(hf:Instr.findNow .string (.string s) es.toList 0=some none)(hz:(zeroValue et).run P w=.ok z w):
 (Instr.lookup mty (.map (some r)) (.string s) true).run P w=.ok (.tuple #[z,.bool false]) w:=by
 have hc:(Instr.checkKey es.isEmpty 10000 kt (.string s)).run P w=.ok () w:=MapKept.run_checkKey (k:=.string s) hk (by simp[MapKept.IsKey]) _ 9999
 simp[Instr.lookup,run_underlying hm,MapKept.run_getObj_map hb,hc,MapKept.run_findKey hk hf,hz,Result.andThen]
theorem lI{w:World}:Cl 23 #[] w fun e w'=>e=.returned (.map (some w.heap.size))/\dg w' w.heap.size/\w.S w':=by
 have hmm:= @run_makeMap Tryz.prog;have hm:Tryz.prog.underlying 61=some (.map 9 104):=by kernel_rfl
 have hk:Tryz.prog.underlying 9=some .string:=by kernel_rfl
 have b0:(w.alloc (.map #[] 0)).heap[w.heap.size]?=some (.map #[] 0):=(MapKept.heap_alloc w _).1;have s0:=bJ w (.map #[] 0);obtain⟨w1,e1,b1,z1,o1,t1,p1,h1⟩:=dU (w:=(w.alloc (.map #[] 0))) (s:=⟨#[100,101,110,115,101]⟩) (val:=.func (.func 57) #[] #[]) hm hk b0 kr;obtain⟨w2,e2,b2,z2,o2,t2,p2,h2⟩:=dU (w:=w1) (s:=⟨#[114,101,108,117]⟩) (val:=.func (.func 58) #[] #[]) hm hk b1 kr;obtain⟨w3,e3,b3,z3,o3,t3,p3,h3⟩:=dU (w:=w2) (s:=⟨#[108,101,97,107,121]⟩) (val:=.func (.func 59) #[] #[]) hm hk b2 kr;obtain⟨w4,e4,b4,z4,o4,t4,p4,h4⟩:=dU (w:=w3) (s:=⟨#[97,100,100]⟩) (val:=.func (.func 60) #[] #[]) hm hk b3 kr;obtain⟨w5,e5,b5,z5,o5,t5,p5,h5⟩:=dU (w:=w4) (s:=⟨#[109,97,120,112,111,111,108]⟩) (val:=.func (.func 61) #[] #[]) hm hk b4 kr;obtain⟨w6,e6,b6,z6,o6,t6,p6,h6⟩:=dU (w:=w5) (s:=⟨#[99,111,110,118]⟩) (val:=.func (.func 62) #[] #[]) hm hk b5 kr;obtain⟨w7,e7,b7,z7,o7,t7,p7,h7⟩:=dU (w:=w6) (s:=⟨#[110,111,114,109]⟩) (val:=.func (.func 63) #[] #[]) hm hk b6 kr
 have S:w.S w7:=⟨by rw[o7,o6,o5,o4,o3,o2,o1];exact s0.os,by rw[t7,t6,t5,t4,t3,t2,t1];exact s0.tape,by rw[p7,p6,p5,p4,p3,p2,p1];exact s0.output,by rw[z7,z6,z5,z4,z3,z2,z1];exact s0.size,fun k hk=>by
  rw[h7 k om,h6 k om,h5 k om,h4 k om,h3 k om,h2 k om,h1 k om];exact s0.block k hk⟩
 have K:=b7;go_enter Tryz.func23,Tryz.ntmps23;go_wp2;go_ret;exact⟨rfl,K,S⟩
theorem acF{v0 v1 v2 v3 v4:Int}{a1:Option Addr}{nv k1:Nat}{w:World}:Cl 57 #[.agg #[.i v0,.i v1,.i v2,.i v3,.i v4,.slice a1 nv k1]] w fun e w'=>e=.returned (.iface 103 (.agg #[.i v0,.i v1,.i v2,.i v3,.i v4,.slice a1 nv k1]))/\w.S w':=by
 have sA:=bJ w (.cells #[.i v0,.i v1,.i v2,.i v3,.i v4,.slice a1 nv k1] 48);go_enter Tryz.func57,Tryz.ntmps57;go_wp2;go_ret;exact⟨rfl,sA⟩
theorem acE{v0 v1 v2 v3 v4:Int}{a1:Option Addr}{nv k1:Nat}{w:World}:Cl 58 #[.agg #[.i v0,.i v1,.i v2,.i v3,.i v4,.slice a1 nv k1]] w fun e w'=>e=.returned (.iface 105 (.agg #[.i v0,.i v1,.i v2,.i v3,.i v4,.slice a1 nv k1]))/\w.S w':=by
 have sA:=bJ w (.cells #[.i v0,.i v1,.i v2,.i v3,.i v4,.slice a1 nv k1] 48);go_enter Tryz.func58,Tryz.ntmps58;go_wp2;go_ret;exact⟨rfl,sA⟩
theorem acD{v0 v1 v2 v3 v4:Int}{a1:Option Addr}{nv k1:Nat}{w:World}:Cl 59 #[.agg #[.i v0,.i v1,.i v2,.i v3,.i v4,.slice a1 nv k1]] w fun e w'=>e=.returned (.iface 106 (.agg #[.i v0,.i v1,.i v2,.i v3,.i v4,.slice a1 nv k1]))/\w.S w':=by
 have sA:=bJ w (.cells #[.i v0,.i v1,.i v2,.i v3,.i v4,.slice a1 nv k1] 48);go_enter Tryz.func59,Tryz.ntmps59;go_wp2;go_ret;exact⟨rfl,sA⟩
theorem acC{v0 v1 v2 v3 v4:Int}{a1:Option Addr}{nv k1:Nat}{w:World}:Cl 60 #[.agg #[.i v0,.i v1,.i v2,.i v3,.i v4,.slice a1 nv k1]] w fun e w'=>e=.returned (.iface 107 (.agg #[.i v0,.i v1,.i v2,.i v3,.i v4,.slice a1 nv k1]))/\w.S w':=by
 have sA:=bJ w (.cells #[.i v0,.i v1,.i v2,.i v3,.i v4,.slice a1 nv k1] 48);go_enter Tryz.func60,Tryz.ntmps60;go_wp2;go_ret;exact⟨rfl,sA⟩
theorem acB{v0 v1 v2 v3 v4:Int}{a1:Option Addr}{nv k1:Nat}{w:World}:Cl 61 #[.agg #[.i v0,.i v1,.i v2,.i v3,.i v4,.slice a1 nv k1]] w fun e w'=>e=.returned (.iface 108 (.agg #[.i v0,.i v1,.i v2,.i v3,.i v4,.slice a1 nv k1]))/\w.S w':=by
 have sA:=bJ w (.cells #[.i v0,.i v1,.i v2,.i v3,.i v4,.slice a1 nv k1] 48);go_enter Tryz.func61,Tryz.ntmps61;go_wp2;go_ret;exact⟨rfl,sA⟩
theorem acA{v0 v1 v2 v3 v4:Int}{a1:Option Addr}{nv k1:Nat}{w:World}:Cl 62 #[.agg #[.i v0,.i v1,.i v2,.i v3,.i v4,.slice a1 nv k1]] w fun e w'=>e=.returned (.iface 109 (.agg #[.i v0,.i v1,.i v2,.i v3,.i v4,.slice a1 nv k1]))/\w.S w':=by
 have sA:=bJ w (.cells #[.i v0,.i v1,.i v2,.i v3,.i v4,.slice a1 nv k1] 48);go_enter Tryz.func62,Tryz.ntmps62;go_wp2;go_ret;exact⟨rfl,sA⟩
theorem ac9{v0 v1 v2 v3 v4:Int}{a1:Option Addr}{nv k1:Nat}{w:World}:Cl 63 #[.agg #[.i v0,.i v1,.i v2,.i v3,.i v4,.slice a1 nv k1]] w fun e w'=>e=.returned (.iface 110 (.agg #[.i v0,.i v1,.i v2,.i v3,.i v4,.slice a1 nv k1]))/\w.S w':=by
 have sA:=bJ w (.cells #[.i v0,.i v1,.i v2,.i v3,.i v4,.slice a1 nv k1] 48);go_enter Tryz.func63,Tryz.ntmps63;go_wp2;go_ret;exact⟨rfl,sA⟩
theorem acK{z:Int}{w:World}(h:z<1∨7<z)(_hi:ef z):Cl 64 #[.i z] w fun e w'=>e=.returned (.string ⟨#[]⟩)/\w.S w':=by
 have h1:¬z=1:=om
 have h2:¬z=2:=om
 have h3:¬z=3:=om
 have h4:¬z=4:=om
 have h5:¬z=5:=om
 have h6:¬z=6:=om
 have h7:¬z=7:=om
 go_enter Tryz.func64,Tryz.ntmps64;go_wp2;go_ret;exact⟨rfl,eg _ _⟩
theorem abW{w:World}:Cl 64 #[.i 1] w fun e w'=>e=.returned (.string ⟨#[100,101,110,115,101]⟩)/\w.S w':=by
 go_enter Tryz.func64,Tryz.ntmps64;go_wp2;go_ret;exact⟨rfl,eg _ _⟩
theorem abV{w:World}:Cl 64 #[.i 2] w fun e w'=>e=.returned (.string ⟨#[114,101,108,117]⟩)/\w.S w':=by
 go_enter Tryz.func64,Tryz.ntmps64;go_wp2;go_ret;exact⟨rfl,eg _ _⟩
theorem abU{w:World}:Cl 64 #[.i 3] w fun e w'=>e=.returned (.string ⟨#[108,101,97,107,121]⟩)/\w.S w':=by
 go_enter Tryz.func64,Tryz.ntmps64;go_wp2;go_ret;exact⟨rfl,eg _ _⟩
theorem abT{w:World}:Cl 64 #[.i 4] w fun e w'=>e=.returned (.string ⟨#[97,100,100]⟩)/\w.S w':=by
 go_enter Tryz.func64,Tryz.ntmps64;go_wp2;go_ret;exact⟨rfl,eg _ _⟩
theorem abS{w:World}:Cl 64 #[.i 5] w fun e w'=>e=.returned (.string ⟨#[109,97,120,112,111,111,108]⟩)/\w.S w':=by
 go_enter Tryz.func64,Tryz.ntmps64;go_wp2;go_ret;exact⟨rfl,eg _ _⟩
theorem abR{w:World}:Cl 64 #[.i 6] w fun e w'=>e=.returned (.string ⟨#[99,111,110,118]⟩)/\w.S w':=by
 go_enter Tryz.func64,Tryz.ntmps64;go_wp2;go_ret;exact⟨rfl,eg _ _⟩
theorem abQ{w:World}:Cl 64 #[.i 7] w fun e w'=>e=.returned (.string ⟨#[110,111,114,109]⟩)/\w.S w':=by
 go_enter Tryz.func64,Tryz.ntmps64;go_wp2;go_ret;exact⟨rfl,eg _ _⟩
theorem jX:Tryz.prog.underlying 61=some (.map 9 104):=by kernel_rfl
theorem js:Tryz.prog.underlying 9=some .string:=by kernel_rfl
theorem fq{z:Int}{T F i:Nat}{s:ByteArray}{m:Nat}{v1 v2 v3 v4:Int}{a1:Option Addr}{nv k1:Nat}{w:World}(K:dg w m)(hwd:∀w,Cl 64 #[.i z] w fun e w'=>e=.returned (.string s)/\w.S w')(hf:Instr.findNow .string (.string s) uN.toList 0=some (some (i,.func (.func F) #[] #[])))
 (hen:∀(args:Array Value) (w:World),(callFunc F args).run Tryz.prog w=.ok (.enter F args) w)(hbe:∀w,Cl F #[.agg #[.i z,.i v1,.i v2,.i v3,.i v4,.slice a1 nv k1]] w fun e w'=>e=.returned (.iface T (.agg #[.i z,.i v1,.i v2,.i v3,.i v4,.slice a1 nv k1]))/\w.S w'):
 Cl 24 #[.map (some m),.agg #[.i z,.i v1,.i v2,.i v3,.i v4,.slice a1 nv k1]] w fun e w'=>e=.returned (.tuple #[.iface T (.agg #[.i z,.i v1,.i v2,.i v3,.i v4,.slice a1 nv k1]),.bool true])/\w.S w':=by
 have sA:=bJ w (.cells #[.i z,.i v1,.i v2,.i v3,.i v4,.slice a1 nv k1] 48);have bA:=au.new w (.i z) (.i v1) (.i v2) (.i v3) (.i v4) (.slice a1 nv k1) 48;go_enter Tryz.func24,Tryz.ntmps24;go_wp2_with fail;generalize w.alloc _=wA at*;refine (hwd wA).mono ?_;rintro e w1 ⟨rfl,s1⟩;have S1:=sA.tr s1;have B1:=bA.aA s1;have hl:=pI (s:=s) jX js (K.aA S1) (i:=i) (val:=.func (.func F) #[] #[]) hf;obtain⟨q0,q1,q2,q3,q4,q5⟩:=B1.g;go_wp2_with fail;refine (hbe w1).mono ?_;rintro e w2 ⟨rfl,s2⟩;go_wp2;go_ret2;exact⟨rfl,S1.tr s2⟩
theorem si{m:Nat}{v1 v2 v3 v4:Int}{a1:Option Addr}{nv k1:Nat}{w:World}(K:dg w m):Cl 24 #[.map (some m),.agg #[.i 1,.i v1,.i v2,.i v3,.i v4,.slice a1 nv k1]] w fun e w'=>e=.returned (.tuple #[.iface 103 (.agg #[.i 1,.i v1,.i v2,.i v3,.i v4,.slice a1 nv k1]),.bool true])/\w.S w':=
 @fq 1 103 57 0 ⟨#[100,101,110,115,101]⟩ m v1 v2 v3 v4 a1 nv k1 w K @abW kr (fun _ _=>by kernel_rfl) (@acF 1 v1 v2 v3 v4 a1 nv k1)
theorem sg{m:Nat}{v1 v2 v3 v4:Int}{a1:Option Addr}{nv k1:Nat}{w:World}(K:dg w m):Cl 24 #[.map (some m),.agg #[.i 2,.i v1,.i v2,.i v3,.i v4,.slice a1 nv k1]] w fun e w'=>e=.returned (.tuple #[.iface 105 (.agg #[.i 2,.i v1,.i v2,.i v3,.i v4,.slice a1 nv k1]),.bool true])/\w.S w':=
 @fq 2 105 58 1 ⟨#[114,101,108,117]⟩ m v1 v2 v3 v4 a1 nv k1 w K @abV kr (fun _ _=>by kernel_rfl) (@acE 2 v1 v2 v3 v4 a1 nv k1)
theorem sf{m:Nat}{v1 v2 v3 v4:Int}{a1:Option Addr}{nv k1:Nat}{w:World}(K:dg w m):Cl 24 #[.map (some m),.agg #[.i 3,.i v1,.i v2,.i v3,.i v4,.slice a1 nv k1]] w fun e w'=>e=.returned (.tuple #[.iface 106 (.agg #[.i 3,.i v1,.i v2,.i v3,.i v4,.slice a1 nv k1]),.bool true])/\w.S w':=
 @fq 3 106 59 2 ⟨#[108,101,97,107,121]⟩ m v1 v2 v3 v4 a1 nv k1 w K @abU kr (fun _ _=>by kernel_rfl) (@acD 3 v1 v2 v3 v4 a1 nv k1)
theorem se{m:Nat}{v1 v2 v3 v4:Int}{a1:Option Addr}{nv k1:Nat}{w:World}(K:dg w m):Cl 24 #[.map (some m),.agg #[.i 4,.i v1,.i v2,.i v3,.i v4,.slice a1 nv k1]] w fun e w'=>e=.returned (.tuple #[.iface 107 (.agg #[.i 4,.i v1,.i v2,.i v3,.i v4,.slice a1 nv k1]),.bool true])/\w.S w':=
 @fq 4 107 60 3 ⟨#[97,100,100]⟩ m v1 v2 v3 v4 a1 nv k1 w K @abT kr (fun _ _=>by kernel_rfl) (@acC 4 v1 v2 v3 v4 a1 nv k1)
theorem rY{m:Nat}{v1 v2 v3 v4:Int}{a1:Option Addr}{nv k1:Nat}{w:World}(K:dg w m):Cl 24 #[.map (some m),.agg #[.i 5,.i v1,.i v2,.i v3,.i v4,.slice a1 nv k1]] w fun e w'=>e=.returned (.tuple #[.iface 108 (.agg #[.i 5,.i v1,.i v2,.i v3,.i v4,.slice a1 nv k1]),.bool true])/\w.S w':=
 @fq 5 108 61 4 ⟨#[109,97,120,112,111,111,108]⟩ m v1 v2 v3 v4 a1 nv k1 w K @abS kr (fun _ _=>by kernel_rfl) (@acB 5 v1 v2 v3 v4 a1 nv k1)
theorem rX{m:Nat}{v1 v2 v3 v4:Int}{a1:Option Addr}{nv k1:Nat}{w:World}(K:dg w m):Cl 24 #[.map (some m),.agg #[.i 6,.i v1,.i v2,.i v3,.i v4,.slice a1 nv k1]] w fun e w'=>e=.returned (.tuple #[.iface 109 (.agg #[.i 6,.i v1,.i v2,.i v3,.i v4,.slice a1 nv k1]),.bool true])/\w.S w':=
 @fq 6 109 62 5 ⟨#[99,111,110,118]⟩ m v1 v2 v3 v4 a1 nv k1 w K @abR kr (fun _ _=>by kernel_rfl) (@acA 6 v1 v2 v3 v4 a1 nv k1)
theorem rW{m:Nat}{v1 v2 v3 v4:Int}{a1:Option Addr}{nv k1:Nat}{w:World}(K:dg w m):Cl 24 #[.map (some m),.agg #[.i 7,.i v1,.i v2,.i v3,.i v4,.slice a1 nv k1]] w fun e w'=>e=.returned (.tuple #[.iface 110 (.agg #[.i 7,.i v1,.i v2,.i v3,.i v4,.slice a1 nv k1]),.bool true])/\w.S w':=
 @fq 7 110 63 6 ⟨#[110,111,114,109]⟩ m v1 v2 v3 v4 a1 nv k1 w K @abQ kr (fun _ _=>by kernel_rfl) (@ac9 7 v1 v2 v3 v4 a1 nv k1)
theorem vE{m:Nat}{v0 v1 v2 v3 v4:Int}{a1:Option Addr}{nv k1:Nat}{w:World}(K:dg w m)(h:v0<1∨7<v0)(hi:ef v0):Cl 24 #[.map (some m),.agg #[.i v0,.i v1,.i v2,.i v3,.i v4,.slice a1 nv k1]] w fun e w'=>e=.returned (.tuple #[.nilIface,.bool false])/\w.S w':=by
 have sA:=bJ w (.cells #[.i v0,.i v1,.i v2,.i v3,.i v4,.slice a1 nv k1] 48);go_enter Tryz.func24,Tryz.ntmps24;go_wp2_with fail;generalize w.alloc _=wA at*;refine (acK h hi).mono ?_;rintro e w1 ⟨rfl,s1⟩;have S1:=sA.tr s1;have hz:(zeroValue 104).run Tryz.prog w1=.ok .nilFunc w1:=by kernel_rfl
 have hl:=rV (s:=⟨#[]⟩) jX js (K.aA S1) kr hz;go_wp2;go_ret2;exact⟨rfl,S1⟩
theorem acT:(Tryz.prog.info? 70).map (·.size)=some 5:=by kernel_rfl
theorem dc.two(w:World)(X:Obj)(x y z u v:Value)(T:Nat):dc ((w.alloc X).alloc (.cells #[x,y,z,u,v] T)) (w.heap.size+1) x y z u v:=by simpa using dc.new (w.alloc X) x y z u v T
theorem fmT{p:Prop}(h:p:=by
 go_wp2;exact bodyPost_ret (kh rfl Tryz.underlying70 rfl acT _ _ _ _ _ _ _ _ rfl (dc.two _ _ _ _ _ _ _ _)) rfl ⟨rfl,((eg _ _).alloc (Nat.le_refl _) _).alloc qz _⟩):p:=h
section
variable(v0 v1 v2 v3 v4:Int)(a1:Option Addr)(nv k1:Nat)(w:World)
theorem afl:Cl 244 #[.agg #[.i v0,.i v1,.i v2,.i v3,.i v4,.slice a1 nv k1]] w fun e w'=>e=.returned (.agg #[.i 1,.bool false,.bool true,.bool false,.i (-1)])/\w.S w':=by
 go_enter Tryz.func244,Tryz.ntmps244;exact fmT
theorem afk:Cl 247 #[.agg #[.i v0,.i v1,.i v2,.i v3,.i v4,.slice a1 nv k1]] w fun e w'=>e=.returned (.agg #[.i 2,.bool false,.bool false,.bool false,.i (0)])/\w.S w':=by
 go_enter Tryz.func247,Tryz.ntmps247;exact fmT
theorem afj:Cl 250 #[.agg #[.i v0,.i v1,.i v2,.i v3,.i v4,.slice a1 nv k1]] w fun e w'=>e=.returned (.agg #[.i 3,.bool false,.bool false,.bool false,.i (1)])/\w.S w':=by
 go_enter Tryz.func250,Tryz.ntmps250;exact fmT
theorem afi:Cl 253 #[.agg #[.i v0,.i v1,.i v2,.i v3,.i v4,.slice a1 nv k1]] w fun e w'=>e=.returned (.agg #[.i 4,.bool true,.bool false,.bool false,.i (0)])/\w.S w':=by
 go_enter Tryz.func253,Tryz.ntmps253;exact fmT
theorem afh:Cl 256 #[.agg #[.i v0,.i v1,.i v2,.i v3,.i v4,.slice a1 nv k1]] w fun e w'=>e=.returned (.agg #[.i 5,.bool false,.bool true,.bool false,.i (0)])/\w.S w':=by
 go_enter Tryz.func256,Tryz.ntmps256;exact fmT
theorem afg:Cl 259 #[.agg #[.i v0,.i v1,.i v2,.i v3,.i v4,.slice a1 nv k1]] w fun e w'=>e=.returned (.agg #[.i 6,.bool false,.bool true,.bool true,.i (-1)])/\w.S w':=by
 go_enter Tryz.func259,Tryz.ntmps259;exact fmT
theorem aff:Cl 262 #[.agg #[.i v0,.i v1,.i v2,.i v3,.i v4,.slice a1 nv k1]] w fun e w'=>e=.returned (.agg #[.i 7,.bool false,.bool false,.bool false,.i (4)])/\w.S w':=by
 go_enter Tryz.func262,Tryz.ntmps262;exact fmT
end
def mf(w:World)(a:Option Addr)(b off n:Nat)(X:Nat->Int):Prop:=∀j,j<n->a=some ⟨b,off,none⟩/\w.cell? ⟨b,off+j,none⟩=some (.int .i64 (X j))
section
variable{w w':World}{a:Option Addr}{b off n c:Nat}{X:Nat->Int}
theorem mf.aA(h:mf w a b off n X)(s:w.S w'):mf w' a b off n X:=fun j hj=>
 ⟨(h j hj).1,(s.cell (a:=jj b (off+j)) (gz _ _ (h j hj).2)).trans (h j hj).2⟩
end
def iJ(e:Ending)(p:Prop):Prop:=∃r:Bool,e=.returned (.bool r)/\(r=true↔p)
theorem pF{z:Int}{u:Bool}{w:World}:Cl 170 #[.i z,.bool u] w fun e w'=>iJ e (iK z u)/\w.S w':=by
 cases u
 . go_enter Tryz.func170,Tryz.ntmps170
   go_wp2;go_ret;exact⟨⟨z==0,rfl,by simp[iK]⟩,eg _ _⟩
 . by_cases h:1<=z
   . by_cases h2:z<=1000
     . go_enter Tryz.func170,Tryz.ntmps170
       go_wp2;go_ret;exact⟨⟨true,rfl,by simp[iK,h,h2]⟩,eg _ _⟩
     . go_enter Tryz.func170,Tryz.ntmps170
       go_wp2;go_ret;exact⟨⟨false,rfl,by unfold iK;simp;omega⟩,eg _ _⟩
   . go_enter Tryz.func170,Tryz.ntmps170
     go_wp2;go_ret;exact⟨⟨false,rfl,by unfold iK;simp;omega⟩,eg _ _⟩
theorem afm{op:Int}{ub uk us:Bool}{nums:Int}{d:ay}{a1:Option Addr}{lo k1:Nat}{w:World}(hw:0<=w.heap.size)(hT:rI w)(hd:d.size<=1048576)(H:ov w lo d a1 k1):
 Cl 148 #[.agg #[.i op,.bool ub,.bool uk,.bool us,.i nums],.agg #[.i d.op,.i d.a,.i d.b,.i d.k,.i d.s,.slice a1 d.nv k1]] w fun e w'=>iJ e (acI d ub uk us nums)/\w.S w':=by
 have ts:=hd;unfold ay.size at ts;obtain⟨wA,eA⟩:∃wA:World,wA=(w.alloc (.cells #[.i op,.bool ub,.bool uk,.bool us,.i nums] 70)).alloc (.cells #[.i d.op,.i d.a,.i d.b,.i d.k,.i d.s,.slice a1 d.nv k1] 48):=⟨_,rfl⟩;have sA:w.S wA:=by rw[eA];exact (bJ _ _).alloc qz _
 have fA:dc wA w.heap.size (.i op) (.bool ub) (.bool uk) (.bool us) (.i nums):=by rw[eA];exact (dc.new w _ _ _ _ _ _).aA (bJ _ _)
 have nA:au wA (w.heap.size+1) (.i d.op) (.i d.a) (.i d.b) (.i d.k) (.i d.s) (.slice a1 d.nv k1):=by
  rw[eA];have:=au.new (w.alloc (.cells #[.i op,.bool ub,.bool uk,.bool us,.i nums] 70)) (.i d.op) (.i d.a) (.i d.b) (.i d.k) (.i d.s) (.slice a1 d.nv k1) 48
  simpa using this
 have EA:=ae eA
 by_cases hx:ub=false/\d.b≠0
 . obtain⟨rfl,hb⟩:=hx
   go_enter Tryz.func148,Tryz.ntmps148;go_wp2;go_ret;exact⟨⟨false,rfl,by simp[acI,hb]⟩,by rw[<-EA.out];exact sA⟩
 have hU:ub=true∨(ub=false/\d.b=0):=by
  cases ub
  . exact .inr ⟨rfl,by simpa using hx⟩
  . exact .inl rfl
 have hu:ub=false->d.b=0:=by
  intro h
  rcases hU with e | e
  . rw[h] at e;cases e
  . exact e.2
 have HU:=ae hu;clear hu
 rcases hU with rfl | ⟨rfl,hb⟩
 focus
  go_enter Tryz.func148,Tryz.ntmps148
 rotate_left
 focus
  have hb2:(d.b != 0)=false:=by simp[hb]
  clear hb;go_enter Tryz.func148,Tryz.ntmps148
 all_goals
  go_wp2_with fail;rw[<-EA.out];refine (@pF d.k uk wA).mono ?_;rintro e w1 ⟨⟨r1,rfl,h1⟩,s1⟩;have F1:=fA.aA s1;have N1:=nA.aA s1;have q3:=F1.c3;have q4:=N1.c4;cases r1
  . go_wp2
    go_ret;exact⟨⟨false,rfl,by simp only[Bool.false_eq_true,false_iff] at h1⊢;exact fun h=>h1 h.2.1⟩,sA.tr s1⟩
  have Z1:=ae (h1.1 rfl);clear h1;go_wp2_with fail;refine (@pF d.s us w1).mono ?_;rintro e w2 ⟨⟨r2,rfl,h2⟩,s2⟩;have F2:=F1.aA s2;have N2:=N1.aA s2;have u2:=s1.tr s2;have S2:=sA.tr u2;cases r2
  . go_wp2
    go_ret;exact⟨⟨false,rfl,by simp only[Bool.false_eq_true,false_iff] at h2⊢;exact fun h=>h2 h.2.2.1⟩,S2⟩
  have Z2:=ae (h2.1 rfl);clear h2;have p4:=F2.c4;have p5:=N2.c5;obtain⟨bb,oo,-,LV⟩:=(H.aA S2).LV;have J3:=@lG a1 lo bb oo d.nv k1 d.V w2 (Nat.zero_le _) (hT.stay hw S2) om om LV
  by_cases hn:nums=-1
  . subst hn
    go_wp2_with fail;refine J3.mono ?_;rintro e w3 ⟨r3,rfl,h3,s3⟩;go_wp2;go_ret;exact⟨⟨r3,rfl,h3.trans ⟨fun h=>⟨(fun h=>by first | exact HU.out h | exact HU.out trivial),Z1.out,Z2.out,fun h=>absurd rfl h,h⟩,fun h=>h.2.2.2.2⟩⟩,S2.tr s3⟩
  by_cases hm:(d.nv:Int)=nums
  . subst hm
    go_wp2_with fail;refine J3.mono ?_;rintro e w3 ⟨r3,rfl,h3,s3⟩;go_wp2;go_ret;exact⟨⟨r3,rfl,h3.trans ⟨fun h=>⟨(fun h=>by first | exact HU.out h | exact HU.out trivial),Z1.out,Z2.out,fun _=>rfl,h⟩,fun h=>h.2.2.2.2⟩⟩,S2.tr s3⟩
  have n1:(nums != -1)=true:=by simp[hn]
  have n2:((d.nv:Int) != nums)=true:=by simp[hm]
  go_wp2;go_ret;exact⟨⟨false,rfl,by simp only[Bool.false_eq_true,false_iff];exact fun h=>hm (h.2.2.2.1 hn)⟩,S2⟩
def ny(va vb:Int)(n:Nat)(ub:Bool):Prop:=0<=va/\va<n/\(ub=true->0<=vb/\vb<n)
theorem adx{op:Int}{ub uk us:Bool}{nums v0 va vb v3 v4:Int}{a1:Option Addr}{nv k1 n:Nat}{w:World}:
 Cl 149 #[.agg #[.i op,.bool ub,.bool uk,.bool us,.i nums],.agg #[.i v0,.i va,.i vb,.i v3,.i v4,.slice a1 nv k1],.i n] w fun e w'=>iJ e (ny va vb n ub)/\w.S w':=by
 have sA:w.S ((w.alloc (.cells #[.i op,.bool ub,.bool uk,.bool us,.i nums] 70)).alloc (.cells #[.i v0,.i va,.i vb,.i v3,.i v4,.slice a1 nv k1] 48)):=(bJ _ _).alloc qz _
 by_cases h0:va<0
 . go_enter Tryz.func149,Tryz.ntmps149
   go_wp2;go_ret;exact⟨⟨_,rfl,by unfold ny;simp<;>omega⟩,sA⟩
 by_cases h1:(n:Int)<=va
 . go_enter Tryz.func149,Tryz.ntmps149
   go_wp2;go_ret;exact⟨⟨_,rfl,by unfold ny;simp<;>omega⟩,sA⟩
 cases ub
 . go_enter Tryz.func149,Tryz.ntmps149
   go_wp2;go_ret;exact⟨⟨_,rfl,by unfold ny;simp<;>omega⟩,sA⟩
 . by_cases h2:vb<0
   . go_enter Tryz.func149,Tryz.ntmps149
     go_wp2;go_ret;exact⟨⟨_,rfl,by unfold ny;simp<;>omega⟩,sA⟩
   by_cases h3:(n:Int)<=vb
   . go_enter Tryz.func149,Tryz.ntmps149
     go_wp2;go_ret;exact⟨⟨_,rfl,by unfold ny;simp<;>omega⟩,sA⟩
   go_enter Tryz.func149,Tryz.ntmps149;go_wp2;go_ret;exact⟨⟨_,rfl,by unfold ny;simp<;>omega⟩,sA⟩
def InP(x a b:Int):Prop:=a<=x/\x<=b
theorem ji{x a b:Int}{w:World}:Cl 13 #[.i x,.i a,.i b] w fun e w'=>iJ e (InP x a b)/\w'=w:=by
 by_cases h:a<=x
 . by_cases h2:x<=b
   . go_enter Tryz.func13,Tryz.ntmps13
     go_wp2;go_ret;exact⟨⟨_,rfl,by unfold InP;simp<;>omega⟩,rfl⟩
   . go_enter Tryz.func13,Tryz.ntmps13
     go_wp2;go_ret;exact⟨⟨_,rfl,by unfold InP;simp<;>omega⟩,rfl⟩
 . go_enter Tryz.func13,Tryz.ntmps13
   go_wp2;go_ret;exact⟨⟨_,rfl,by unfold InP;simp<;>omega⟩,rfl⟩
theorem aad{z:Int}{w:World}:Cl 106 #[.i z] w fun e w'=>iJ e (iz z=true)/\w'=w:=by
 by_cases h1:z=1
 . subst h1
   go_enter Tryz.func106,Tryz.ntmps106;go_wp2;go_ret;exact⟨⟨true,rfl,by decide⟩,rfl⟩
 by_cases h5:z=5
 . subst h5
   go_enter Tryz.func106,Tryz.ntmps106;go_wp2;go_ret;exact⟨⟨true,rfl,by decide⟩,rfl⟩
 go_enter Tryz.func106,Tryz.ntmps106;go_wp2;go_ret;exact⟨⟨_,rfl,by unfold iz;simp<;>omega⟩,rfl⟩
theorem aac{z:Int}{w:World}:Cl 107 #[.i z] w fun e w'=>iJ e (gF z=true)/\w'=w:=by
 go_enter Tryz.func107,Tryz.ntmps107;go_wp2;go_ret;exact⟨⟨_,rfl,by unfold gF;simp<;>omega⟩,rfl⟩
theorem aab{z:Int}{w:World}:Cl 108 #[.i z] w fun e w'=>iJ e (oC z=true)/\w'=w:=by
 by_cases h1:z=1
 . subst h1
   go_enter Tryz.func108,Tryz.ntmps108;go_wp2;go_ret;exact⟨⟨true,rfl,by decide⟩,rfl⟩
 by_cases h3:z=3
 . subst h3
   go_enter Tryz.func108,Tryz.ntmps108;go_wp2;go_ret;exact⟨⟨true,rfl,by decide⟩,rfl⟩
 by_cases h6:z=6
 . subst h6
   go_enter Tryz.func108,Tryz.ntmps108;go_wp2;go_ret;exact⟨⟨true,rfl,by decide⟩,rfl⟩
 go_enter Tryz.func108,Tryz.ntmps108;go_wp2;go_ret;exact⟨⟨_,rfl,by unfold oC;simp<;>omega⟩,rfl⟩
theorem aae{z:Int}{w:World}:Cl 49 #[.i z] w fun e w'=>iJ e (gG z=true)/\w'=w:=by
 go_enter Tryz.func49,Tryz.ntmps49;go_wp2;go_ret;exact⟨⟨_,rfl,by unfold gG;simp<;>omega⟩,rfl⟩
theorem lE{f:Nat}{a:Array Value}{w:World}{u b:Bool}(H:Cl f a w fun e w'=>iJ e (u=true)/\w'=w)(h:u=b):Cl f a w fun e w'=>e=.returned (.bool b)/\w'=w:=
 H.mono (by
  rintro e w' ⟨⟨r,rfl,hr⟩,rfl⟩;subst h;refine⟨?_,rfl⟩;cases r<;>cases u<;>simp_all)
theorem abt{z:Int}{b:Bool}{w:World}(h:iz z=b):Cl 106 #[.i z] w fun e w'=>e=.returned (.bool b)/\w'=w:=lE (aad) h
theorem abr{z:Int}{b:Bool}{w:World}(h:gF z=b):Cl 107 #[.i z] w fun e w'=>e=.returned (.bool b)/\w'=w:=lE (aac) h
theorem abq{z:Int}{b:Bool}{w:World}(h:oC z=b):Cl 108 #[.i z] w fun e w'=>e=.returned (.bool b)/\w'=w:=lE (aab) h
theorem uJ{z:Int}{b:Bool}{w:World}(h:gG z=b):Cl 49 #[.i z] w fun e w'=>e=.returned (.bool b)/\w'=w:=lE (aae) h
def Vn(c z:Int)(m nv:Nat):Prop:=z=c->nv=m
theorem adY{x:Int}{u:Bool}(h:iK x u):(x != 0)=u:=by
 cases u<;>simp[iK] at h<;>simp<;>omega
theorem aca{x:Int}{u:Bool}(h:iK x u):InP x 0 1000:=by
 cases u<;>simp[iK] at h<;>exact⟨om,om⟩
theorem abZ{x:Int}{u:Bool}(h:InP x 0 1000)(e:(x != 0)=u):iK x u:=by
 obtain⟨h1,h2⟩:=h;subst e
 by_cases hx:x=0
 . subst hx;simp[iK]
 . simp[iK,hx];omega
theorem fkN{p:Prop}(h:p:=by
 go_wp2;go_ret;exact⟨⟨false,rfl,by simp only[Bool.false_eq_true,false_iff];exact NF.out⟩,SD⟩):p:=h
theorem fkM2{p:Prop}(h:p:=by
 clear m1;refine tk 6 13 (.bool true) ?_;simp only[ap,la,lz,ls];refine tk 7 14 (.bool true) ?_;simp only[ap,la,lz,ls];refine sk 8 15 ?_;simp only[ap,la,lz,ls];refine sk 9 16 ?_;simp only[ap,la,lz,ls];refine sk 10 17 ?_;simp only[ap,la,lz,ls];refine sk 11 18 ?_;simp only[ap,la,lz,ls];refine sk 12 19 ?_;simp only[ap,la,lz,ls];refine sk 13 20 ?_;simp only[ap,la,lz,ls];refine sk 14 21 ?_;simp only[ap,la,lz,ls];refine tk 15 22 (.bool true) ?_;simp only[ap,la,lz,ls];refine wpAnyH_done kr ?_ _;exact fkN):p:=h
theorem fkM{p:Prop}(h:p:=by
 go_wp2_with fail;refine wp_region_held_drew (S:=fun w'=>w'.cell? (jj w.heap.size 0)=some (.i z)/\w'.cell? (jj w.heap.size 3)=some (.i v3)) kr ⟨p0,p3⟩ (fun hHeld=> ?_);refine tk 0 7 (.p w.heap.size 0) ?_;simp only[ap,la,lz,ls];refine ta 1 8 (.i z) ?_ ?_
 . intro w' hSw
   try dsimp only at hSw
   go_simp
 simp only[ap,la,lz,ls];refine tk 3 10 (.p w.heap.size 3) ?_;simp only[ap,la,lz,ls];refine ta 4 11 (.i v3) ?_ ?_
 . intro w' hSw
   try dsimp only at hSw
   go_simp
 simp only[ap,la,lz,ls];refine ta 5 12 (.bool kb) ?_ ?_
 . intro w' hSw
   try dsimp only at hSw
   go_simp
 simp only[ap,la,lz,ls];refine wpAnyH_ready (rs:=[2]) kr qz ?_;refine AllReadyH.cons rfl (fun K hK=> ?_) AllReadyH.nil;go_simp
 go_wp2_with (go_at_call 106;with_reducible refine JK.mono ?_;rintro e w2 ⟨rfl,rfl⟩)
 refine hK.out _ _ ⟨p0,p3⟩ (fun h1=> ?_);clear hK K hHeld;cases uk<;>cases kb<;>first | exact absurd rfl m1 | exact fkM2):p:=h
theorem fkS{p:Prop}(h:p:=by
 go_wp2_with fail
 go_region_held3 (fun w'=>w'.cell? (jj w.heap.size 0)=some (.i z)/\w'.cell? (jj w.heap.size 3)=some (.i v3)/\w'.cell? (jj w.heap.size 4)=some (.i v4)) (go_keep)
  (first
    | (go_at_call 106
       with_reducible refine JK.mono ?_
       rintro e w2 ⟨rfl,rfl⟩)
    | (go_at_call 107
       with_reducible refine JS.mono ?_
       rintro e w2 ⟨rfl,rfl⟩))
 exact fkN):p:=h
theorem fkL{p:Prop}(h:p:=by
 have JA:=@mI a1 lo bV oV nv k1 V wA.drew om om (LV.aA NN);go_wp2_with fail;refine JA.mono ?_;rintro e w3 ⟨r,rfl,hr,s3⟩;have HR:=ae hr;clear hr;go_wp2;go_ret;exact⟨⟨r,rfl,HR.out.trans ⟨fun h=>⟨I0.out.1,I0.out.2,abZ IK.out (HK.out.trans EK.out.symm),abZ IS.out (HS.out.trans ES.out.symm),HB.out,HV.out,H3.out,H7.out,h⟩,fun f=>f.ok⟩⟩,SD.trans (sM s3 SD.size)⟩):p:=h
theorem fkV{p:Prop}(h:p:=by
 obtain⟨uv,ev⟩:∃x,oC z=x:=⟨_,rfl⟩;have JV:=@abq z uv wA.drew ev;have EV:=ae ev;clear ev;go_wp2_with fail;refine JV.mono ?_;rintro e w2 ⟨rfl,rfl⟩;clear JV;cases uv
 . have h3:¬z=3:=fun e=>by have:=EV.out;rw[e] at this;cases this
   have h7:¬z=7:=fun e=>by have:=EV.out;rw[e] at this;cases this
   have H3:=ae (show Vn 3 z 1 nv from fun e=>absurd e h3);have H7:=ae (show Vn 7 z 4 nv from fun e=>absurd e h7)
   by_cases hv:nv=0
   . have HV:=ae (show oC z=false->nv=0 from fun _=>hv)
     have vq:((nv:Int) != 0)=false:=by simp;omega
     clear hv;exact fkL
   . have vq:((nv:Int) != 0)=true:=by simp;omega
     have NF:=ae (show ¬(ay.mk z v1 v2 v3 v4 nv V).Form from fun f=>hv (f.v EV.out));clear hv;exact fkN
 . have HV:=ae (show oC z=false->nv=0 from fun e=>by rw[EV.out] at e;cases e)
   by_cases h3:z=3
   . subst h3
     have H7:=ae (show Vn 7 3 4 nv from fun e=>by cases e)
     by_cases hv:nv=1
     . have H3:=ae (show Vn 3 3 1 nv from fun _=>hv)
       have vq:((nv:Int) != 1)=false:=by simp;omega
       clear hv;exact fkL
     . have vq:((nv:Int) != 1)=true:=by simp;omega
       have NF:=ae (show ¬(ay.mk 3 v1 v2 v3 v4 nv V).Form from fun f=>hv (f.v3 rfl));clear hv;exact fkN
   have H3:=ae (show Vn 3 z 1 nv from fun e=>absurd e h3)
   by_cases h7:z=7
   . subst h7
     by_cases hv:nv=4
     . have H7:=ae (show Vn 7 7 4 nv from fun _=>hv)
       have vq:((nv:Int) != 4)=false:=by simp;omega
       clear hv;exact fkL
     . have vq:((nv:Int) != 4)=true:=by simp;omega
       have NF:=ae (show ¬(ay.mk 7 v1 v2 v3 v4 nv V).Form from fun f=>hv (f.v7 rfl));clear hv;exact fkN
   have H7:=ae (show Vn 7 z 4 nv from fun e=>absurd e h7);exact fkL):p:=h
theorem fkR{p:Prop}(h:p:=by
 go_wp2_with fail
 go_region_held3 (fun w'=>w'.cell? (jj w.heap.size 0)=some (.i z)/\w'.cell? (jj w.heap.size 3)=some (.i v3)/\w'.cell? (jj w.heap.size 4)=some (.i v4)) (go_keep)
  (first
    | (go_at_call 106
       with_reducible refine JK.mono ?_
       rintro e w2 ⟨rfl,rfl⟩)
    | (go_at_call 107
       with_reducible refine JS.mono ?_
       rintro e w2 ⟨rfl,rfl⟩))
 clear q0 q1 q2 q3 q4 q5 JK JS hk hs;go_wp2_with fail;refine (@ji v3 0 1000 wA.drew).mono ?_;rintro e w2 ⟨⟨r,rfl,hr⟩,rfl⟩;cases r
 . have NF:=ae (show ¬(ay.mk z v1 v2 v3 v4 nv V).Form from fun f=>absurd (hr.2 (aca f.k)) qz)
   clear hr;exact fkN
 have IK:=ae (hr.1 rfl);clear hr;go_wp2_with fail;refine (@ji v4 0 1000 wA.drew).mono ?_;rintro e w2 ⟨⟨r,rfl,hr⟩,rfl⟩;cases r
 . have NF:=ae (show ¬(ay.mk z v1 v2 v3 v4 nv V).Form from fun f=>absurd (hr.2 (aca f.s)) qz)
   clear hr;exact fkN
 have IS:=ae (hr.1 rfl);clear hr;obtain⟨ub,eb⟩:∃x,gG z=x:=⟨_,rfl⟩;have JB:=@uJ z ub wA.drew eb;have EB:=ae eb;clear eb;go_wp2_with fail;refine JB.mono ?_;rintro e w2 ⟨rfl,rfl⟩;clear JB;cases ub
 . by_cases hb:v2=0
   . have bq:(v2 != 0)=false:=by simp[hb]
     have HB:=ae (show gG z=false->v2=0 from fun _=>hb);clear hb;exact fkV
   . have bq:(v2 != 0)=true:=by simp[hb]
     have NF:=ae (show ¬(ay.mk z v1 v2 v3 v4 nv V).Form from fun f=>hb (f.b EB.out));clear hb;exact fkN
 . have HB:=ae (show gG z=false->v2=0 from fun e=>by rw[EB.out] at e;cases e)
   exact fkV):p:=h
theorem xS{d:ay}{a1:Option Addr}{lo k1:Nat}{w:World}(hd:d.size<=1048576)(H:ov w lo d a1 k1):
 Cl 48 #[.agg #[.i d.op,.i d.a,.i d.b,.i d.k,.i d.s,.slice a1 d.nv k1]] w fun e w'=>iJ e d.Form/\w.S w':=by
 obtain⟨z,v1,v2,v3,v4,nv,V⟩:=d
 dsimp only
 have ts:nv+mj V nv<=1048576:=hd;have sA:=bJ w (.cells #[.i z,.i v1,.i v2,.i v3,.i v4,.slice a1 nv k1] 48);have nA:=au.new w (.i z) (.i v1) (.i v2) (.i v3) (.i v4) (.slice a1 nv k1) 48;obtain⟨bV,oV,-,LV⟩:=(H.aA sA).LV
 dsimp only at LV
 clear H hd;go_enter Tryz.func48,Tryz.ntmps48;go_wp2_with fail;generalize w.alloc _=wA at*;refine (@ji z 1 7 wA).mono ?_;rintro e w1 ⟨⟨r,rfl,hr⟩,hw1⟩;have hw2:=hw1.symm;clear hw1;subst hw2;cases r
 . have NF:=ae (show ¬(ay.mk z v1 v2 v3 v4 nv V).Form from fun f=>absurd (hr.2 ⟨f.o1,f.o7⟩) qz)
   have SD:=sA;clear hr;exact fkN
 have I0:=ae (hr.1 rfl);clear hr;obtain⟨q0,q1,q2,q3,q4,q5⟩:=nA.g;have NN:=sT wA;have nD:=nA.aA NN;obtain⟨p0,p1,p2,p3,p4,p5⟩:=nD.g;have SD:=sA.tr NN;obtain⟨uk,ek⟩:∃x,iz z=x:=⟨_,rfl⟩;obtain⟨us,es⟩:∃x,gF z=x:=⟨_,rfl⟩;have JK:=@abt z uk wA.drew ek;have JS:=@abr z us wA.drew es;have EK:=ae ek;have ES:=ae es;clear ek es;obtain⟨kb,hk⟩:∃x,(v3 != 0)=x:=⟨_,rfl⟩;obtain⟨sb,hs⟩:∃x,(v4 != 0)=x:=⟨_,rfl⟩;have HK:=ae hk;have HS:=ae hs
 by_cases m1:uk=kb
 case neg=>
  have NF:=ae (show ¬(ay.mk z v1 v2 v3 v4 nv V).Form from fun f=>m1 (by rw[<-EK.out,<-HK.out];exact (adY f.k).symm));exact fkM
 subst m1
 by_cases m2:us=sb
 case neg=>
  have NF:=ae (show ¬(ay.mk z v1 v2 v3 v4 nv V).Form from fun f=>m2 (by rw[<-ES.out,<-HS.out];exact (adY f.s).symm));cases uk<;>cases us<;>cases sb<;>first | exact absurd rfl m2 | (clear m2;exact fkS)
 subst m2;cases uk<;>cases us<;>exact fkR
theorem bW{p:Prop}(h:p:=by
 go_wp2;go_ret;exact⟨di E.out.symm,S3⟩):p:=h
theorem nkD{p:Prop}(h:p:=by
 have HE:=ae (vg (D:=D) F.out G.out);obtain⟨j,hj⟩:∃j:Nat,v1=j:=⟨v1.toNat,by have h:0<=v1/\v1<=i:=IA.out;omega⟩;subst hj;have hjn:j<i+1:=by have h:0<=(j:Int)/\(j:Int)<=i:=IA.out;omega
 obtain⟨x,hx⟩:∃x,D j=x:=⟨_,rfl⟩;have hDj:=hD j hjn;rw[hx] at hDj;obtain⟨ed,gx⟩:=(HD.aA S3) j hjn;rw[Nat.zero_add,hx] at gx;subst ed;have hz2:(j:Int)<((i+1:Nat):Int):=om
 have hc:op=1∨op=2∨op=3∨op=4∨op=5∨op=6∨op=7:=by have h1:1<=op:=F.out.o1;have h7:op<=7:=F.out.o7;omega
 rcases hc with rfl | rfl | rfl | rfl | rfl | rfl | rfl
 . have hk:0<=v3/\v3<=1000:=by have h:1<=v3/\v3<=1000:=F.out.k;omega
   have hv:nv<=1048576:=by have h:nv+mj V nv<=1048576:=hd;omega
   have y0:0<=v3*(x+1):=Int.mul_nonneg hk.1 om;have y1:v3*(x+1)<=1000*1001:=Int.mul_le_mul hk.2 om om om;obtain⟨y,hy⟩:∃y,v3*(x+1)=y:=⟨_,rfl⟩;rw[hy] at y0 y1
   by_cases h:(nv:Int)=y
   . have E:=ae (HE.out.trans (c:=0) (by simp[cQ,hx,hy,h]))
     have tq:((nv:Int) != y)=false:=by simp[h]
     clear h;exact bW
   . have E:=ae (HE.out.trans (c:=14) (by simp[cQ,hx,hy,h]))
     have tq:((nv:Int) != y)=true:=by simp[h]
     clear h;exact bW
 . have E:=ae (HE.out.trans (c:=0) (by simp[cQ]))
   exact bW
 . have E:=ae (HE.out.trans (c:=0) (by simp[cQ]))
   exact bW
 . obtain⟨i2,hi2⟩:∃i2:Nat,v2=i2:=⟨v2.toNat,by have h:0<=v2/\v2<((i+1:Nat):Int):=G.out.2.2 rfl;omega⟩
   subst hi2;have hi3:i2<i+1:=by have h:0<=(i2:Int)/\(i2:Int)<((i+1:Nat):Int):=G.out.2.2 rfl;omega
   obtain⟨-,gy⟩:=(HD.aA S3) i2 hi3;rw[Nat.zero_add] at gy;have hz3:(i2:Int)<((i+1:Nat):Int):=om
   obtain⟨y,hy⟩:∃y,D i2=y:=⟨_,rfl⟩;rw[hy] at gy
   by_cases h:y=x
   . have E:=ae (HE.out.trans (c:=0) (by simp[cQ,hx,hy,h]))
     have tq:(y != x)=false:=by simp[h]
     clear h;exact bW
   . have E:=ae (HE.out.trans (c:=14) (by simp[cQ,hx,hy,h]))
     have tq:(y != x)=true:=by simp[h]
     clear h;exact bW
 . have hk:1<=v3/\v3<=1000:=F.out.k
   have hk0:¬v3=0:=om
   have p1:x.tmod v3=x % v3:=Int.tmod_eq_emod_of_nonneg om;obtain⟨y,hy⟩:∃y,y=x % v3:=⟨_,rfl⟩;rw[<-hy] at p1
   by_cases h:y=0
   . have E:=ae (HE.out.trans (c:=0) (by rw[h] at hy;simp[cQ,hx,<-hy]))
     have tq:(y != 0)=false:=by simp[h]
     clear h hy;exact bW
   . have E:=ae (HE.out.trans (c:=14) (by rw[hy] at h;simp[cQ,hx,h]))
     have tq:(y != 0)=true:=by simp[h]
     clear h hy;exact bW
 . have hk:1<=v3/\v3<=1000:=F.out.k
   have hv:nv<=1048576:=by have h:nv+mj V nv<=1048576:=hd;omega
   by_cases h:x<v3
   . have E:=ae (HE.out.trans (c:=14) (by simp[cQ,hx,h]))
     exact bW
   by_cases h2:(nv:Int)=v3+1
   . have E:=ae (HE.out.trans (c:=0) (by simp[cQ,hx,h2]<;>omega))
     have tq:((nv:Int) != v3+1)=false:=by simp[h2]
     clear h2;exact bW
   . have E:=ae (HE.out.trans (c:=14) (by simp[cQ,hx,h2]))
     have tq:((nv:Int) != v3+1)=true:=by simp[h2]
     clear h2;exact bW
 . have h4:=ae (show nv=4 from F.out.v7 rfl)
   obtain⟨bV,oV,-,LV⟩:=(M.L.aA S3).LV;obtain⟨ev,y1,y2,l1,l2,MV⟩:=LV 2 (by show 2<nv;rw[h4.out];omega);have mv1:=MV.c1;subst ev;have hz4:(2:Int)<(nv:Int):=by rw[h4.out];decide
   by_cases h:(V 2).n=0
   . have E:=ae (HE.out.trans (c:=15) (by simp[cQ,h]))
     have tq:(((V 2).n:Int)==0)=true:=by simp[h]
     clear h;exact bW
   . have E:=ae (HE.out.trans (c:=0) (by simp[cQ,h]))
     have tq:(((V 2).n:Int)==0)=false:=by simp;omega
     clear h;exact bW):p:=h
theorem uK{g:ax}{d:ay}{aL aH:Option Addr}{lo kL kH kN bN oN:Nat}{a1:Option Addr}{k1 i:Nat}{aD:Option Addr}{bD cD:Nat}{D:Nat->Int}{w:World}(hd:d.size<=1048576)(M:mb w lo bN (oN+i*6) d a1 k1)(hi:i<g.nn)(hnn:g.nn<=1000)(HD:mf w aD bD 0 (i+1) D)(hD:Dok D (i+1)):
 Cl 16 #[.agg #[.i g.inn,.i g.rounds,.slice aL g.nl kL,.slice aH g.nh kH,.slice (jp bN oN) g.nn kN,.i g.out],.slice aD (i+1) cD,.i ((i+1:Nat):Int)] w fun e w'=>e=.returned (.i (dp D (i+1) d))/\w.S w':=by
 obtain⟨op,v1,v2,v3,v4,nv,V⟩:=d;have sA:=bJ w (.cells #[.i g.inn,.i g.rounds,.slice aL g.nl kL,.slice aH g.nh kH,.slice (jp bN oN) g.nn kN,.i g.out] 26);have zA:(w.alloc (.cells #[.i g.inn,.i g.rounds,.slice aL g.nl kL,.slice aH g.nh kH,.slice (jp bN oN) g.nn kN,.i g.out] 26)).heap.size=w.heap.size+1:=by simp
 have MA:=M.aA sA;obtain⟨g0,g1,g2,g3,g4,g5⟩:=MA.g;have hz:(i:Int)<(g.nn:Int):=om
 go_enter Tryz.func16,Tryz.ntmps16;go_wp2_with fail;have sB:=(eg (w.alloc (.cells #[.i g.inn,.i g.rounds,.slice aL g.nl kL,.slice aH g.nh kH,.slice (jp bN oN) g.nn kN,.i g.out] 26)).heap.size (w.alloc (.cells #[.i g.inn,.i g.rounds,.slice aL g.nl kL,.slice aH g.nh kH,.slice (jp bN oN) g.nn kN,.i g.out] 26))).alloc (Nat.le_refl _) (.cells #[.i op,.i v1,.i v2,.i v3,.i v4,.slice a1 nv k1] 48);have nB:=au.new (w.alloc (.cells #[.i g.inn,.i g.rounds,.slice aL g.nl kL,.slice aH g.nh kH,.slice (jp bN oN) g.nn kN,.i g.out] 26)) (.i op) (.i v1) (.i v2) (.i v3) (.i v4) (.slice a1 nv k1) 48;rw[zA] at nB;have S2:=sA.tr sB;generalize (w.alloc _).alloc _=w2 at*;refine (@xS (ay.mk op v1 v2 v3 v4 nv V) a1 lo k1 w2 hd (M.L.aA S2)).mono ?_;rintro e w3 ⟨⟨r,rfl,hr⟩,s3⟩;have S3:=S2.tr s3;have N3:=nB.aA s3;clear g0 g1 g2 g3 g4 g5 MA;cases r
 . have E:=ae (rz (D:=D) (i:=i+1) (d:=(ay.mk op v1 v2 v3 v4 nv V)) (fun h=>by have:=hr.2 h;cases this))
   clear hr;exact bW
 have F:=ae (hr.1 rfl);clear hr;obtain⟨q0,q1,q2,q3,q4,q5⟩:=N3.g;go_wp2_with fail;refine (@ji v1 0 (i:Int) w3).mono ?_;rintro e w4 ⟨⟨r,rfl,hr⟩,hw4⟩;have hw5:=hw4.symm;clear hw4;subst hw5;cases r
 . have E:=ae (ve (D:=D) (i:=i+1) F.out (fun h=>by have h2:0<=v1/\v1<((i+1:Nat):Int):=⟨h.1,h.2.1⟩;have:=hr.2 (by unfold InP;omega);cases this))
   clear hr;exact bW
 have IA:=ae (hr.1 rfl);clear hr;obtain⟨ub,eb⟩:∃x,gG op=x:=⟨_,rfl⟩;have JB:=@uJ op ub w3 eb;have EB:=ae eb;clear eb;go_wp2_with fail;refine JB.mono ?_;rintro e w4 ⟨rfl,hw4⟩;have hw5:=hw4.symm;clear hw4;subst hw5;clear JB;have hA:=ae (show 0<=v1/\v1<((i+1:Nat):Int) by have h:0<=v1/\v1<=i:=IA.out;omega);cases ub
 . have G:=ae (show lT (ay.mk op v1 v2 v3 v4 nv V) (i+1) from⟨hA.out.1,hA.out.2,fun h=>by have:=EB.out.symm.trans h;cases this⟩)
   clear EB;exact nkD
 go_wp2_with fail;refine (@ji v2 0 (i:Int) w3).mono ?_;rintro e w4 ⟨⟨r,rfl,hr⟩,hw4⟩;have hw5:=hw4.symm;clear hw4;subst hw5;cases r
 . have E:=ae (ve (D:=D) (i:=i+1) F.out (fun h=>by have h2:0<=v2/\v2<((i+1:Nat):Int):=h.2.2 EB.out;have:=hr.2 (by unfold InP;omega);cases this))
   clear hr;exact bW
 have IB:=ae (hr.1 rfl);clear hr;have G:=ae (show lT (ay.mk op v1 v2 v3 v4 nv V) (i+1) from⟨hA.out.1,hA.out.2,fun _=>by have h:0<=v2/\v2<=i:=IB.out;show 0<=v2/\v2<((i+1:Nat):Int);omega⟩);clear EB IB;exact nkD
theorem xm{z:Int}(h0:-9223372036854775808<=z)(h1:z<=9223372036854775807):IntKind.i64.wrap z=z:=by
 rw[IntKind.wrap_i64];omega
theorem dim1{v0 v2 v3 v4 x:Int}{j:Nat}{a1:Option Addr}{nv k1:Nat}{aD:Option Addr}{bD n cD:Nat}{D:Nat->Int}{w:World}(HD:mf w aD bD 0 n D)(hjn:j<n)(hx:D j=x)(_x1:1<=x)(_x2:x<=1000)(c0:0<=v3)(c1:v3<=1000)(_hv:nv<=1048576):
 Cl 243 #[.agg #[.i v0,.i (j:Int),.i v2,.i v3,.i v4,.slice a1 nv k1],.slice aD n cD] w fun e w'=>e=.returned (.tuple #[.i (if (nv:Int)=v3*(x+1) then v3 else 0),.i (if (nv:Int)=v3*(x+1) then 0 else 14)])/\w.S w':=by
 have sA:=bJ w (.cells #[.i v0,.i j,.i v2,.i v3,.i v4,.slice a1 nv k1] 103);have hz:(j:Int)<n:=om
 obtain⟨rfl,g0⟩:=(HD.aA sA) j hjn;rw[Nat.zero_add,hx] at g0;have y0:0<=v3*(x+1):=Int.mul_nonneg c0 om;have y1:v3*(x+1)<=1000*1001:=Int.mul_le_mul c1 om om om;obtain⟨y,hy⟩:∃y,y=v3*(x+1):=⟨_,rfl⟩;rw[<-hy] at y0 y1⊢;have q1:=xm (z:=x+1) om om;have q2:IntKind.i64.wrap (v3*(x+1))=y:=by rw[<-hy];exact xm om om
 by_cases h:(nv:Int)=y
 . rw[if_pos h,if_pos h]
   have q3:((nv:Int) != y)=false:=by simp[h]
   go_enter Tryz.func243,Tryz.ntmps243;go_wp2
   go_region
   go_wp2;go_ret2;exact⟨rfl,sA.drew⟩
 . rw[if_neg h,if_neg h]
   have q3:((nv:Int) != y)=true:=by simp[h]
   go_enter Tryz.func243,Tryz.ntmps243;go_wp2
   go_region
   go_wp2;go_ret2;exact⟨rfl,sA.drew⟩
theorem dim2{v0 v2 v3 v4 x:Int}{j:Nat}{a1:Option Addr}{nv k1:Nat}{aD:Option Addr}{bD n cD:Nat}{D:Nat->Int}{w:World}(HD:mf w aD bD 0 n D)(hjn:j<n)(hx:D j=x)(_x1:1<=x)(_x2:x<=1000):
 Cl 246 #[.agg #[.i v0,.i (j:Int),.i v2,.i v3,.i v4,.slice a1 nv k1],.slice aD n cD] w fun e w'=>e=.returned (.tuple #[.i x,.i 0])/\w.S w':=by
 have sA:=bJ w (.cells #[.i v0,.i j,.i v2,.i v3,.i v4,.slice a1 nv k1] 105);have hz:(j:Int)<n:=om
 obtain⟨rfl,g0⟩:=(HD.aA sA) j hjn;rw[Nat.zero_add,hx] at g0;go_enter Tryz.func246,Tryz.ntmps246;go_wp2;go_ret2;exact⟨rfl,sA⟩
theorem dim3{v0 v2 v3 v4 x:Int}{j:Nat}{a1:Option Addr}{nv k1:Nat}{aD:Option Addr}{bD n cD:Nat}{D:Nat->Int}{w:World}(HD:mf w aD bD 0 n D)(hjn:j<n)(hx:D j=x)(_x1:1<=x)(_x2:x<=1000):
 Cl 249 #[.agg #[.i v0,.i (j:Int),.i v2,.i v3,.i v4,.slice a1 nv k1],.slice aD n cD] w fun e w'=>e=.returned (.tuple #[.i x,.i 0])/\w.S w':=by
 have sA:=bJ w (.cells #[.i v0,.i j,.i v2,.i v3,.i v4,.slice a1 nv k1] 106);have hz:(j:Int)<n:=om
 obtain⟨rfl,g0⟩:=(HD.aA sA) j hjn;rw[Nat.zero_add,hx] at g0;go_enter Tryz.func249,Tryz.ntmps249;go_wp2;go_ret2;exact⟨rfl,sA⟩
theorem dim4{v0 v2 v3 v4 x:Int}{j:Nat}{a1:Option Addr}{nv k1:Nat}{aD:Option Addr}{bD n cD:Nat}{D:Nat->Int}{w:World}(HD:mf w aD bD 0 n D)(hjn:j<n)(hx:D j=x)(_x1:1<=x)(_x2:x<=1000){i:Nat}(hi:i<n)(hv2:v2=i):
 Cl 252 #[.agg #[.i v0,.i (j:Int),.i v2,.i v3,.i v4,.slice a1 nv k1],.slice aD n cD] w fun e w'=>e=.returned (.tuple #[.i (if D i=x then x else 0),.i (if D i=x then 0 else 14)])/\w.S w':=by
 have sA:=bJ w (.cells #[.i v0,.i j,.i v2,.i v3,.i v4,.slice a1 nv k1] 107);have hz:(j:Int)<n:=om
 obtain⟨rfl,g0⟩:=(HD.aA sA) j hjn;rw[Nat.zero_add,hx] at g0;subst hv2;have hz2:(i:Int)<n:=om
 obtain⟨-,g1⟩:=(HD.aA sA) i hi;rw[Nat.zero_add] at g1;obtain⟨y,hy⟩:∃y,y=D i:=⟨_,rfl⟩;rw[<-hy] at g1⊢
 by_cases h:y=x
 . rw[if_pos h,if_pos h]
   have q3:(x != y)=false:=by simp[h]
   go_enter Tryz.func252,Tryz.ntmps252;go_wp2
   go_region
   go_wp2;go_ret2;exact⟨rfl,sA.drew⟩
 . rw[if_neg h,if_neg h]
   have q3:(x != y)=true:=by simp;omega
   go_enter Tryz.func252,Tryz.ntmps252;go_wp2
   go_region
   go_wp2;go_ret2;exact⟨rfl,sA.drew⟩
def jR(op k s x:Int):Int:=if op=1 then k else if op=5 then x/k else if op=6 then (x-k)/s+1 else x
theorem oG{op v1 v2 v3 v4 x:Int}{a1:Option Addr}{nv k1:Nat}{w:World}(x1:1<=x)(x2:x<=1000)(c5:op=5->1<=v3/\v3<=1000)(c6:op=6->1<=v3/\v3<=x/\1<=v4/\v4<=1000):
 Cl 17 #[.agg #[.i op,.i v1,.i v2,.i v3,.i v4,.slice a1 nv k1],.i x] w fun e w'=>e=.returned (.i (jR op v3 v4 x))/\w.S w':=by
 by_cases h1:op=1
 . subst h1
   have sA:=bJ w (.cells #[.i 1,.i v1,.i v2,.i v3,.i v4,.slice a1 nv k1] 48);have HX:=ae (show jR 1 v3 v4 x=v3 from rfl);go_enter Tryz.func17,Tryz.ntmps17;go_wp2;go_ret;exact⟨di HX.out.symm,sA⟩
 by_cases h5:op=5
 . subst h5
   obtain⟨k0,k2⟩:=c5 rfl;have sA:=bJ w (.cells #[.i 5,.i v1,.i v2,.i v3,.i v4,.slice a1 nv k1] 48);have p2:x.tdiv v3=x/v3:=Int.tdiv_eq_ediv_of_nonneg om;have d0:0<=x/v3:=Int.ediv_nonneg om om;have d1:x/v3<=x:=Int.ediv_le_self _ om;obtain⟨z,hz'⟩:∃z,z=x/v3:=⟨_,rfl⟩;have HX:=ae (show jR 5 v3 v4 x=z by rw[hz'];rfl);rw[<-hz'] at p2 d0 d1;have q0:¬v3=0:=om
   clear c5 c6 hz';go_enter Tryz.func17,Tryz.ntmps17;go_wp2;go_ret;exact⟨di HX.out.symm,sA⟩
 by_cases h6:op=6
 . subst h6
   obtain⟨k0,k2,s0,s2⟩:=c6 rfl;have sA:=bJ w (.cells #[.i 6,.i v1,.i v2,.i v3,.i v4,.slice a1 nv k1] 48);have nA:=au.new w (.i 6) (.i v1) (.i v2) (.i v3) (.i v4) (.slice a1 nv k1) 48;go_enter Tryz.func17,Tryz.ntmps17;go_wp2_with fail;generalize w.alloc _=wA at*
   go_loopw [5,6] (fun c i wr=>∃k:Nat,k<=1000/\c=.i k/\i=.i k/\wr=wA/\(0<k->((k:Int)-1)*v4+v3<=x)) (fun _ i _=>1001-(intOf i).toNat)
   case atStart=>exact⟨0,om,rfl,rfl,rfl,fun h=>absurd h om⟩
   case round=>
    obtain⟨k,hk,rfl,rfl,rfl,hb⟩:=hrel;have g3:=nA.c3;have g4:=nA.c4;have m0:0<=(k:Int)*v4:=Int.mul_nonneg om om;have m1:=Int.mul_le_mul om om om om;have m2:((k:Int)-1)*v4=(k:Int)*v4-v4:=by rw[Int.sub_mul,Int.one_mul]
    have m3:(k:Int)<=k*v4:=by
     have:=Int.mul_le_mul_of_nonneg_left s0 (show 0<=(k:Int) by omega);omega
    obtain⟨t,ht⟩:∃t,t=(k:Int)*v4:=⟨_,rfl⟩;rw[<-ht] at m0 m1 m2 m3;rw[m2] at hb;have HT:=ae ht;have e1:=ht.symm;clear ht m2
    by_cases hlt:t+v3<=x
    . go_wp2
      go_roundw
      case rel=>exact⟨k+1,om,by go_num,by go_num,(by first | rfl | trivial),fun _=>by rw[show (((k+1:Nat):Int)-1)=(k:Int) by omega,<-HT.out];exact hlt⟩
      case measure=>simp[intOf];omega
    . have kp:0<k:=by
       rcases Nat.eq_zero_or_pos k with e | e
       . subst e
         exfalso
         have:t=0:=by rw[HT.out];simp
         omega
       . exact e
      have hb':=hb kp
      have ee:(x-v3)/v4=(k:Int)-1:=by
       rw[Int.ediv_eq_iff_of_pos om];rw[Int.sub_mul,Int.one_mul,<-HT.out]
       constructor<;>omega
      have HX:=ae (show jR 6 v3 v4 x=(k:Int) by unfold jR;rw[if_neg qd,if_neg qd,if_pos rfl,ee];omega);go_wp2;go_ret;exact⟨di HX.out.symm,sA⟩
 have sA:=bJ w (.cells #[.i op,.i v1,.i v2,.i v3,.i v4,.slice a1 nv k1] 48);have HX:=ae (show jR op v3 v4 x=x by unfold jR;rw[if_neg h1,if_neg h5,if_neg h6]);go_enter Tryz.func17,Tryz.ntmps17;go_wp2;go_ret;exact⟨di HX.out.symm,sA⟩
theorem dim5{v0 v2 v3 v4 x:Int}{j:Nat}{a1:Option Addr}{nv k1:Nat}{aD:Option Addr}{bD n cD:Nat}{D:Nat->Int}{w:World}(HD:mf w aD bD 0 n D)(hjn:j<n)(hx:D j=x)(_x1:1<=x)(_x2:x<=1000)(c0:1<=v3)(c1:v3<=1000):
 Cl 255 #[.agg #[.i v0,.i (j:Int),.i v2,.i v3,.i v4,.slice a1 nv k1],.slice aD n cD] w fun e w'=>e=.returned (.tuple #[.i (if x % v3=0 then x/v3 else 0),.i (if x % v3=0 then 0 else 14)])/\w.S w':=by
 have sA:=bJ w (.cells #[.i v0,.i j,.i v2,.i v3,.i v4,.slice a1 nv k1] 108);have hz:(j:Int)<n:=om
 obtain⟨rfl,g0⟩:=(HD.aA sA) j hjn;rw[Nat.zero_add,hx] at g0;have p1:x.tmod v3=x % v3:=Int.tmod_eq_emod_of_nonneg om;have p2:x.tdiv v3=x/v3:=Int.tdiv_eq_ediv_of_nonneg om;have d0:0<=x/v3:=Int.ediv_nonneg om om;have d1:x/v3<=x:=Int.ediv_le_self _ om;obtain⟨y,hy⟩:∃y,y=x % v3:=⟨_,rfl⟩;obtain⟨z,hz'⟩:∃z,z=x/v3:=⟨_,rfl⟩;rw[<-hy] at p1⊢;rw[<-hz'] at p2 d0 d1⊢;have q0:¬v3=0:=om
 have q1:IntKind.i64.wrap (x.tdiv v3)=z:=by rw[p2];exact xm om om
 clear hy hz'
 by_cases h:y=0
 . rw[if_pos h,if_pos h]
   have q3:(y != 0)=false:=by simp[h]
   go_enter Tryz.func255,Tryz.ntmps255;go_wp2
   go_region
   go_wp2
   go_region
   go_wp2;go_ret2;exact⟨rfl,sA.drew.drew⟩
 . rw[if_neg h,if_neg h]
   have q3:(y != 0)=true:=by simp[h]
   go_enter Tryz.func255,Tryz.ntmps255;go_wp2
   go_region
   go_wp2;go_ret2;exact⟨rfl,sA.drew⟩
theorem dim6{v0 v2 v3 v4 x:Int}{j:Nat}{a1:Option Addr}{nv k1:Nat}{aD:Option Addr}{bD n cD:Nat}{D:Nat->Int}{w:World}(HD:mf w aD bD 0 n D)(hjn:j<n)(hx:D j=x)(_x1:1<=x)(_x2:x<=1000)(c0:1<=v3)(c1:v3<=1000)(s0:1<=v4)(s1:v4<=1000)(_hv:nv<=1048576):
 Cl 258 #[.agg #[.i v0,.i (j:Int),.i v2,.i v3,.i v4,.slice a1 nv k1],.slice aD n cD] w fun e w'=>e=.returned (.tuple #[.i (if v3>x∨(nv:Int)≠v3+1 then 0 else (x-v3)/v4+1),.i (if v3>x∨(nv:Int)≠v3+1 then 14 else 0)])/\w.S w':=by
 have sA:=bJ w (.cells #[.i v0,.i j,.i v2,.i v3,.i v4,.slice a1 nv k1] 109);have hz:(j:Int)<n:=om
 obtain⟨rfl,g0⟩:=(HD.aA sA) j hjn;rw[Nat.zero_add,hx] at g0
 by_cases h:v3>x
 . rw[if_pos (.inl h),if_pos (.inl h)]
   have h':x<v3:=h;go_enter Tryz.func258,Tryz.ntmps258;go_wp2;go_ret2;exact⟨rfl,sA⟩
 by_cases h2:(nv:Int)=v3+1
 . rw[if_neg om,if_neg om]
   have p2:(x-v3).tdiv v4=(x-v3)/v4:=Int.tdiv_eq_ediv_of_nonneg om;have d0:0<=(x-v3)/v4:=Int.ediv_nonneg om om;have d1:(x-v3)/v4<=x-v3:=Int.ediv_le_self _ om;obtain⟨z,hz'⟩:∃z,z=(x-v3)/v4:=⟨_,rfl⟩;rw[<-hz'] at p2 d0 d1⊢;have q0:¬v4=0:=om
   go_enter Tryz.func258,Tryz.ntmps258;go_wp2;go_ret2;exact⟨rfl,sA⟩
 . rw[if_pos (.inr h2),if_pos (.inr h2)]
   have q3:((nv:Int) != v3+1)=true:=by simp[h2]
   go_enter Tryz.func258,Tryz.ntmps258;go_wp2;go_ret2;exact⟨rfl,sA⟩
theorem dim7{v0 v2 v3 v4 x:Int}{j:Nat}{a1:Option Addr}{nv k1:Nat}{aD:Option Addr}{bD n cD:Nat}{D:Nat->Int}{w:World}(HD:mf w aD bD 0 n D)(hjn:j<n)(hx:D j=x)(_x1:1<=x)(_x2:x<=1000){lo bV oV:Nat}{V:Nat->br}(HV:fw w lo a1 bV oV nv V)(h4:nv=4):
 Cl 261 #[.agg #[.i v0,.i (j:Int),.i v2,.i v3,.i v4,.slice a1 nv k1],.slice aD n cD] w fun e w'=>e=.returned (.tuple #[.i (if (V 2).n=0 then 0 else x),.i (if (V 2).n=0 then 15 else 0)])/\w.S w':=by
 have sA:=bJ w (.cells #[.i v0,.i j,.i v2,.i v3,.i v4,.slice a1 nv k1] 110);have hz:(j:Int)<n:=om
 obtain⟨rfl,g0⟩:=(HD.aA sA) j hjn;rw[Nat.zero_add,hx] at g0;subst h4;obtain⟨ea1,y1,y2,l1,l2,M⟩:=(HV.aA sA) 2 om;subst ea1;obtain⟨m0,m1,m2⟩:=M.g;have nA:=au.new w (.i v0) (.i j) (.i v2) (.i v3) (.i v4) (.slice (jp bV oV) 4 k1) 110
 by_cases h:(V 2).n=0
 . rw[if_pos h,if_pos h]
   have q:(((V 2).n:Int)==0)=true:=by simp[h]
   clear h;go_enter Tryz.func261,Tryz.ntmps261;go_wp2_with fail;generalize w.alloc _=wA at*;refine (oP).mono ?_;rintro e w1 ⟨rfl,s1⟩;have N1:=nA.aA s1;have n1:=N1.c1;have S1:=sA.tr s1;have g1:=(s1.cell (a:=jj bD j) (gz _ _ g0)).trans g0;go_wp2;go_ret2;exact⟨rfl,S1⟩
 . rw[if_neg h,if_neg h]
   have q:(((V 2).n:Int)==0)=false:=by simp;omega
   go_enter Tryz.func261,Tryz.ntmps261;go_wp2_with fail;generalize w.alloc _=wA at*;refine (oP).mono ?_;rintro e w1 ⟨rfl,s1⟩;have N1:=nA.aA s1;have n1:=N1.c1;have S1:=sA.tr s1;have g1:=(s1.cell (a:=jj bD j) (gz _ _ g0)).trans g0;go_wp2;go_ret2;exact⟨rfl,S1⟩
def mP(D:Nat->Int)(n:Nat)(d:ay):Int:=if dp D n d=0 then iA D d else 0
theorem lC(z:Int)(T FF FD:Nat)(ub uk us:Bool)(nums:Int)(v1 v2 v3 v4:Int)(nv:Nat)(V:Nat->br)(a1:Option Addr)(lo k1 m:Nat)(aD:Option Addr)(n cD:Nat)(D:Nat->Int)(w:World)(hw:0<=w.heap.size)(hT:rI w)(K:dg w m)(hd:(ay.mk z v1 v2 v3 v4 nv V).size<=1048576)(H:ov w lo (ay.mk z v1 v2 v3 v4 nv V) a1 k1)
 (jo:∀w,dg w m->Cl 24 #[.map (some m),.agg #[.i z,.i v1,.i v2,.i v3,.i v4,.slice a1 nv k1]] w fun e w'=>e=.returned (.tuple #[.iface T (.agg #[.i z,.i v1,.i v2,.i v3,.i v4,.slice a1 nv k1]),.bool true])/\w.S w')
 (jf:∀w,Cl FF #[.agg #[.i z,.i v1,.i v2,.i v3,.i v4,.slice a1 nv k1]] w fun e w'=>e=.returned (.agg #[.i z,.bool ub,.bool uk,.bool us,.i nums])/\w.S w')
 (hf:(ay.mk z v1 v2 v3 v4 nv V).Form↔acI (ay.mk z v1 v2 v3 v4 nv V) ub uk us nums)(hs:lT (ay.mk z v1 v2 v3 v4 nv V) n↔ny v1 v2 n ub)
 (jd:∀w',w.S w'->(ay.mk z v1 v2 v3 v4 nv V).Form->lT (ay.mk z v1 v2 v3 v4 nv V) n->Cl FD #[.agg #[.i z,.i v1,.i v2,.i v3,.i v4,.slice a1 nv k1],.slice aD n cD] w' fun e w''=>e=.returned (.tuple #[.i (mP D n (ay.mk z v1 v2 v3 v4 nv V)),.i (dp D n (ay.mk z v1 v2 v3 v4 nv V))])/\w'.S w'')
 (m1:∀w:World,(method 368 T (.agg #[.i z,.i v1,.i v2,.i v3,.i v4,.slice a1 nv k1]) "loop.example/s0015/impl.form").run Tryz.prog w=.ok (FF,.agg #[.i z,.i v1,.i v2,.i v3,.i v4,.slice a1 nv k1]) w:=by intro;kernel_rfl)
 (m2:∀w:World,(method 368 T (.agg #[.i z,.i v1,.i v2,.i v3,.i v4,.slice a1 nv k1]) "loop.example/s0015/impl.dimension").run Tryz.prog w=.ok (FD,.agg #[.i z,.i v1,.i v2,.i v3,.i v4,.slice a1 nv k1]) w:=by intro;kernel_rfl)
 (e1:∀(args:Array Value) (w:World),(callFunc FF args).run Tryz.prog w=.ok (.enter FF args) w:=by intros;kernel_rfl)(e2:∀(args:Array Value) (w:World),(callFunc FD args).run Tryz.prog w=.ok (.enter FD args) w:=by intros;kernel_rfl):
 Cl 111 #[.agg #[.i z,.i v1,.i v2,.i v3,.i v4,.slice a1 nv k1],.slice aD n cD,.map (some m)] w fun e w'=>e=.returned (.tuple #[.i (mP D n (ay.mk z v1 v2 v3 v4 nv V)),.i (dp D n (ay.mk z v1 v2 v3 v4 nv V))])/\w.S w':=by
 have sA:=bJ w (.cells #[.i z,.i v1,.i v2,.i v3,.i v4,.slice a1 nv k1] 48);have nA:=au.new w (.i z) (.i v1) (.i v2) (.i v3) (.i v4) (.slice a1 nv k1) 48;have HF:=ae hf;have HS:=ae hs;have HJ:=ae jf;have HO:=ae jo;have HJD:=ae jd;clear hf hs jf jo jd;go_enter Tryz.func111,Tryz.ntmps111;go_wp2_with fail;generalize w.alloc _=wA at*;refine (HO.out wA (K.aA sA)).mono ?_;rintro e w1 ⟨rfl,s1⟩;have d1:=sT w1;have S1:=sA.tr s1;have N1:=nA.aA s1;have J1:=HJ.out w1.drew;obtain⟨q0,q1,q2,q3,q4,q5⟩:=N1.g;go_wp2_with fail
 go_region_held3 (fun w'=>w'.cell? (jj w.heap.size 0)=some (.i z)/\w'.cell? (jj w.heap.size 1)=some (.i v1)/\w'.cell? (jj w.heap.size 2)=some (.i v2)/\w'.cell? (jj w.heap.size 3)=some (.i v3)/\w'.cell? (jj w.heap.size 4)=some (.i v4)/\w'.cell? (jj w.heap.size 5)=some (.slice a1 nv k1)) (go_keep)
  (first
    | (go_at_call 148
       with_reducible refine J2.mono ?_
       rintro e w3 ⟨⟨r,rfl,hr⟩,s3⟩;have S3:=S2.tr s3;have N3:=N2.aA s3;obtain⟨i0,i1,i2,i3,i4,i5⟩:=N3.g;have hF:=ae (hr.trans HF.out.symm);clear hr)
    | (with_reducible refine J1.mono ?_
       rintro e w2 ⟨rfl,s2⟩;have u2:=d1.tr s2;have S2:=S1.tr u2;have N2:=N1.aA u2;obtain⟨i0,i1,i2,i3,i4,i5⟩:=N2.g;have J2:=@afm z ub uk us nums (ay.mk z v1 v2 v3 v4 nv V) a1 lo k1 w2 (Nat.zero_le _) (hT.stay hw S2) hd (H.aA S2)
       dsimp only at J2))
 cases r
 . have E:=ae (rz (D:=D) (i:=n) (d:=(ay.mk z v1 v2 v3 v4 nv V)) (fun h=>by have:=hF.out.2 h;cases this))
   clear hF;go_wp2;go_ret2;exact⟨by rw[E.out];unfold mP;rw[E.out];rfl,S3⟩
 have F:=ae (hF.out.1 rfl);clear hF q0 q1 q2 q3 q4 q5;have d3:=sT w3;have J3:=HJ.out w3.drew;go_wp2_with fail
 go_region_held3 (fun w'=>w'.cell? (jj w.heap.size 0)=some (.i z)/\w'.cell? (jj w.heap.size 1)=some (.i v1)/\w'.cell? (jj w.heap.size 2)=some (.i v2)/\w'.cell? (jj w.heap.size 3)=some (.i v3)/\w'.cell? (jj w.heap.size 4)=some (.i v4)/\w'.cell? (jj w.heap.size 5)=some (.slice a1 nv k1)) (go_keep)
  (first
    | (go_at_call 149
       with_reducible refine J4.mono ?_
       rintro e w5 ⟨⟨r,rfl,hr⟩,s5⟩;have S5:=S4.tr s5;have N5:=N4.aA s5;obtain⟨j0,j1,j2,j3,j4,j5⟩:=N5.g;have hS:=ae hr;clear hr)
    | (with_reducible refine J3.mono ?_
       rintro e w4 ⟨rfl,s4⟩;have u4:=d3.tr s4;have S4:=S3.tr u4;have N4:=N3.aA u4;obtain⟨j0,j1,j2,j3,j4,j5⟩:=N4.g;have J4:=@adx z ub uk us nums z v1 v2 v3 v4 a1 nv k1 n w4))
 cases r
 . have E:=ae (ve (D:=D) F.out (fun h=>by have:=hS.out.2 (HS.out.1 h);cases this))
   clear hS F;go_wp2;go_ret2;exact⟨by rw[E.out];unfold mP;rw[E.out];rfl,S5⟩
 have G:=ae (show lT (ay.mk z v1 v2 v3 v4 nv V) n from HS.out.2 (hS.out.1 rfl));clear hS;have J5:=HJD.out w5 S5 F.out G.out;go_wp2_with fail;refine J5.mono ?_;rintro e w6 ⟨rfl,s6⟩;go_wp2;go_ret2;exact⟨rfl,S5.tr s6⟩
theorem agA{f:Nat}{a:Array Value}{w:World}{D:Nat->Int}{n:Nat}{d:ay}{x c:Int}(J:Cl f a w fun e w'=>e=.returned (.tuple #[.i x,.i c])/\w.S w')(F:d.Form)(G:lT d n)(h:cQ D d=c/\(if c=0 then iA D d else 0)=x):Cl f a w fun e w'=>e=.returned (.tuple #[.i (mP D n d),.i (dp D n d)])/\w.S w':=by
 unfold mP;rw[vg F G,h.1,h.2];exact J
theorem dmT{p:Prop}(h:p:=by
 refine agA J F G ?_;clear J;simp only[cQ,iA,hx]
 (repeat' split)<;>simp_all<;>omega):p:=h
theorem afu{d:ay}{a1:Option Addr}{k1 m:Nat}{aD:Option Addr}{n cD:Nat}{D:Nat->Int}{w:World}(K:dg w m)(hi:ef d.op)(h:d.op<1∨7<d.op):
 Cl 111 #[.agg #[.i d.op,.i d.a,.i d.b,.i d.k,.i d.s,.slice a1 d.nv k1],.slice aD n cD,.map (some m)] w fun e w'=>e=.returned (.tuple #[.i (mP D n d),.i (dp D n d)])/\w.S w':=by
 have E:=ae (rz (D:=D) (i:=n) (d:=d) (fun f=>by have:=f.o1;have:=f.o7;omega));have sA:=bJ w (.cells #[.i d.op,.i d.a,.i d.b,.i d.k,.i d.s,.slice a1 d.nv k1] 48);go_enter Tryz.func111,Tryz.ntmps111;go_wp2_with fail;generalize w.alloc _=wA at*;refine (vE (K.aA sA) h hi).mono ?_;rintro e w1 ⟨rfl,s1⟩;have S1:=sA.tr s1;go_wp2_with fail;refine wp_region_held_drew (S:=fun _=>True) kr trivial (fun hHeld=> ?_);refine ci 0 (some 16) (.bool false) rfl kr kr kr kr (fun _ _ _ h=>h) kr trivial ?_ ?_
 . intro w' hSw
   kernel_rfl
 simp only[ap,la,lz,ls];refine ci 1 (some 17) (.bool true) rfl kr kr kr kr (fun _ _ _ h=>h) kr trivial ?_ ?_
 . intro w' hSw
   kernel_rfl
 simp only[ap,la,lz,ls];refine ci 2 (some 18) (.bool true) rfl kr kr kr kr (fun _ _ _ h=>h) kr trivial ?_ ?_
 . intro w' hSw
   kernel_rfl
 simp only[ap,la,lz,ls];refine nI 3 (some 19) rfl kr kr kr kr (fun _ _ _ h=>h) kr trivial ?_;simp only[ap,la,lz,ls];refine nI 4 (some 20) rfl kr kr kr kr (fun _ _ _ h=>h) kr trivial ?_;simp only[ap,la,lz,ls];refine nI 5 (some 21) rfl kr kr kr kr (fun _ _ _ h=>h) kr trivial ?_;simp only[ap,la,lz,ls];refine nI 6 (some 22) rfl kr kr kr kr (fun _ _ _ h=>h) kr trivial ?_;simp only[ap,la,lz,ls];refine nI 7 (some 23) rfl kr kr kr kr (fun _ _ _ h=>h) kr trivial ?_;simp only[ap,la,lz,ls];refine ci 8 (some 24) (.bool true) rfl kr kr kr kr (fun _ _ _ h=>h) kr trivial ?_ ?_
 . intro w' hSw
   kernel_rfl
 simp only[ap,la,lz,ls];refine wpAnyH_done kr ?_ _;go_wp2;go_ret2;exact⟨by rw[E.out];unfold mP;rw[E.out];rfl,S1.drew⟩
theorem tb{d:ay}{a1:Option Addr}{lo k1 m:Nat}{aD:Option Addr}{bD n cD:Nat}{D:Nat->Int}{w:World}(hw:0<=w.heap.size)(hT:rI w)(K:dg w m)(hd:d.size<=1048576)(H:ov w lo d a1 k1)(HD:mf w aD bD 0 n D)(hD:Dok D n):
 Cl 111 #[.agg #[.i d.op,.i d.a,.i d.b,.i d.k,.i d.s,.slice a1 d.nv k1],.slice aD n cD,.map (some m)] w fun e w'=>e=.returned (.tuple #[.i (mP D n d),.i (dp D n d)])/\w.S w':=by
 by_cases h:d.op<1∨7<d.op
 . exact @afu d a1 k1 m aD n cD D w K H.iop h
 have hc:d.op=1∨d.op=2∨d.op=3∨d.op=4∨d.op=5∨d.op=6∨d.op=7:=om
 clear h;obtain⟨op,a,b,k,s,nv,V⟩:=d
 dsimp only at hc
 rcases hc with rfl | rfl | rfl | rfl | rfl | rfl | rfl
 . refine lC 1 103 244 243 false true false (-1) a b k s nv V a1 lo k1 m aD n cD D w hw hT K hd H (@si m a b k s a1 nv k1) (afl 1 a b k s a1 nv k1) (jF (z:=1) rfl qd qd rfl rfl rfl (.inl ⟨rfl,rfl,by decide,by decide⟩)) Iff.rfl (fun w' S F G=> ?_)
   obtain⟨j,hj⟩:∃j:Nat,a=j:=⟨a.toNat,by have h:0<=a:=G.1;omega⟩;subst hj;have hjn:j<n:=by have h:(j:Int)<n:=G.2.1;omega
   obtain⟨x,hx⟩:∃x,D j=x:=⟨_,rfl⟩;have hDj:=hD j hjn;rw[hx] at hDj;have hk:0<=k/\k<=1000:=by have h:1<=k/\k<=1000:=F.k;omega
   have hv:nv<=1048576:=by have h:nv+mj V nv<=1048576:=hd;omega
   have J:=@dim1 1 b k s x j a1 nv k1 aD bD n cD D w' (HD.aA S) hjn hx hDj.1 hDj.2 hk.1 hk.2 hv;exact dmT
 . refine lC 2 105 247 246 false false false (0) a b k s nv V a1 lo k1 m aD n cD D w hw hT K hd H (@sg m a b k s a1 nv k1) (afk 2 a b k s a1 nv k1) (jF (z:=2) rfl qd qd rfl rfl rfl (.inr (.inl ⟨rfl,rfl⟩))) Iff.rfl (fun w' S F G=> ?_)
   obtain⟨j,hj⟩:∃j:Nat,a=j:=⟨a.toNat,by have h:0<=a:=G.1;omega⟩;subst hj;have hjn:j<n:=by have h:(j:Int)<n:=G.2.1;omega
   obtain⟨x,hx⟩:∃x,D j=x:=⟨_,rfl⟩;have hDj:=hD j hjn;rw[hx] at hDj;have J:=@dim2 2 b k s x j a1 nv k1 aD bD n cD D w' (HD.aA S) hjn hx hDj.1 hDj.2;exact dmT
 . refine lC 3 106 250 249 false false false (1) a b k s nv V a1 lo k1 m aD n cD D w hw hT K hd H (@sf m a b k s a1 nv k1) (afj 3 a b k s a1 nv k1) (jF (z:=3) rfl qd qd rfl rfl rfl (.inr (.inr (.inl ⟨rfl,rfl⟩)))) Iff.rfl (fun w' S F G=> ?_)
   obtain⟨j,hj⟩:∃j:Nat,a=j:=⟨a.toNat,by have h:0<=a:=G.1;omega⟩;subst hj;have hjn:j<n:=by have h:(j:Int)<n:=G.2.1;omega
   obtain⟨x,hx⟩:∃x,D j=x:=⟨_,rfl⟩;have hDj:=hD j hjn;rw[hx] at hDj;have J:=@dim3 3 b k s x j a1 nv k1 aD bD n cD D w' (HD.aA S) hjn hx hDj.1 hDj.2;exact dmT
 . refine lC 4 107 253 252 true false false (0) a b k s nv V a1 lo k1 m aD n cD D w hw hT K hd H (@se m a b k s a1 nv k1) (afi 4 a b k s a1 nv k1) (jF (z:=4) rfl qd qd rfl rfl rfl (.inr (.inl ⟨rfl,rfl⟩))) Iff.rfl (fun w' S F G=> ?_)
   obtain⟨j,hj⟩:∃j:Nat,a=j:=⟨a.toNat,by have h:0<=a:=G.1;omega⟩;subst hj;have hjn:j<n:=by have h:(j:Int)<n:=G.2.1;omega
   obtain⟨x,hx⟩:∃x,D j=x:=⟨_,rfl⟩;have hDj:=hD j hjn;rw[hx] at hDj;obtain⟨i,hi2⟩:∃i:Nat,b=i:=⟨b.toNat,by have h:0<=b/\b<n:=G.2.2 rfl;omega⟩;subst hi2;have hi:i<n:=by have h:0<=(i:Int)/\(i:Int)<n:=G.2.2 rfl;omega
   have J:=@dim4 4 (i:Int) k s x j a1 nv k1 aD bD n cD D w' (HD.aA S) hjn hx hDj.1 hDj.2 i hi rfl;exact dmT
 . refine lC 5 108 256 255 false true false (0) a b k s nv V a1 lo k1 m aD n cD D w hw hT K hd H (@rY m a b k s a1 nv k1) (afh 5 a b k s a1 nv k1) (jF (z:=5) rfl qd qd rfl rfl rfl (.inr (.inl ⟨rfl,rfl⟩))) Iff.rfl (fun w' S F G=> ?_)
   obtain⟨j,hj⟩:∃j:Nat,a=j:=⟨a.toNat,by have h:0<=a:=G.1;omega⟩;subst hj;have hjn:j<n:=by have h:(j:Int)<n:=G.2.1;omega
   obtain⟨x,hx⟩:∃x,D j=x:=⟨_,rfl⟩;have hDj:=hD j hjn;rw[hx] at hDj;have hk:1<=k/\k<=1000:=F.k;have J:=@dim5 5 b k s x j a1 nv k1 aD bD n cD D w' (HD.aA S) hjn hx hDj.1 hDj.2 hk.1 hk.2;exact dmT
 . refine lC 6 109 259 258 false true true (-1) a b k s nv V a1 lo k1 m aD n cD D w hw hT K hd H (@rX m a b k s a1 nv k1) (afg 6 a b k s a1 nv k1) (jF (z:=6) rfl qd qd rfl rfl rfl (.inl ⟨rfl,rfl,by decide,by decide⟩)) Iff.rfl (fun w' S F G=> ?_)
   obtain⟨j,hj⟩:∃j:Nat,a=j:=⟨a.toNat,by have h:0<=a:=G.1;omega⟩;subst hj;have hjn:j<n:=by have h:(j:Int)<n:=G.2.1;omega
   obtain⟨x,hx⟩:∃x,D j=x:=⟨_,rfl⟩;have hDj:=hD j hjn;rw[hx] at hDj;have hk:1<=k/\k<=1000:=F.k;have hs:1<=s/\s<=1000:=F.s;have hv:nv<=1048576:=by have h:nv+mj V nv<=1048576:=hd;omega
   have J:=@dim6 6 b k s x j a1 nv k1 aD bD n cD D w' (HD.aA S) hjn hx hDj.1 hDj.2 hk.1 hk.2 hs.1 hs.2 hv;exact dmT
 . refine lC 7 110 262 261 false false false (4) a b k s nv V a1 lo k1 m aD n cD D w hw hT K hd H (@rW m a b k s a1 nv k1) (aff 7 a b k s a1 nv k1) (jF (z:=7) rfl qd qd rfl rfl rfl (.inr (.inr (.inr ⟨rfl,rfl⟩)))) Iff.rfl (fun w' S F G=> ?_)
   obtain⟨j,hj⟩:∃j:Nat,a=j:=⟨a.toNat,by have h:0<=a:=G.1;omega⟩;subst hj;have hjn:j<n:=by have h:(j:Int)<n:=G.2.1;omega
   obtain⟨x,hx⟩:∃x,D j=x:=⟨_,rfl⟩;have hDj:=hD j hjn;rw[hx] at hDj;obtain⟨bV,oV,-,LV⟩:=(H.aA S).LV;have J:=@dim7 7 b k s x j a1 nv k1 aD bD n cD D w' (HD.aA S) hjn hx hDj.1 hDj.2 lo bV oV V LV (F.v7 rfl);exact dmT
theorem cu.grown{c:Nat}{w w1 w2:World}{row:Option Nat}(h:cu c w w1)(g:w1.grownBy w2 row)(hr:∀k,row=some k->w.heap.size<=k):cu c w w2:=
 ⟨g.os.trans h.os,g.tape.trans h.tape,g.output.trans h.output,Nat.le_trans h.size g.size,fun k h1 h2=>(g.block k (Nat.lt_of_lt_of_le h1 h.size) (fun e=>by have:=hr k e.symm;omega)).trans (h.block k h1 h2)⟩
theorem Rd.grown{w1 w2:World}{c:Nat}{a:Option Addr}{b off n cap:Nat}{X:Nat->Nat}{row:Option Nat}(h:Rd w1 c a b off n cap X)(g:w1.grownBy w2 row)(hc:some c≠row)(hb:0<n->some b≠row):Rd w2 c a b off n cap X:=by
 obtain⟨p,hp,h1⟩:=h.c1;have e:=g.block c h.lt hc
 exact⟨(fa (w:=w1) (a:=jj c 0) e).trans h.c0,⟨p,hp,(fa (w:=w1) (a:=jj c 1) e).trans h1⟩,fun k=>(wW (w:=w1) (a:=jj c k) e).trans (h.f k),
  fun j hj=>⟨(h.code j hj).1,(h.code j hj).2.1,(fa (w:=w1) (a:=jj b (off+j)) (g.block b (h.code.lt om) (hb om))).trans (h.code j hj).2.2⟩,h.ne⟩
theorem Rd.bE{w w':World}{c d:Nat}{a:Option Addr}{b off n cap:Nat}{X:Nat->Nat}(h:Rd w c a b off n cap X)(M:af w w' d)(hc:c≠d)(hb:0<n->b≠d):Rd w' c a b off n cap X:=by
 have O:=cu.aP M;obtain⟨p,hp,h1⟩:=h.c1;exact⟨(O.cell (a:=jj c 0) h.lt hc).trans h.c0,⟨p,hp,(O.cell (a:=jj c 1) h.lt hc).trans h1⟩,fun k=>(O.frozen (a:=jj c k) h.lt hc).trans (h.f k),h.code.aI O hb,h.ne⟩
theorem jl{w w1 w2:World}{c d:Nat}(h:cu c w w1)(M:af w1 w2 d)(hd:w.heap.size<=d):cu c w w2:=
 ⟨M.os.trans h.os,M.tape.trans h.tape,M.output.trans h.output,by rw[M.size];exact h.size,fun k hk hne=>(M.other k om).trans (h.block k hk hne)⟩
theorem dz.otH{w w':World}{a:Option Addr}{b off n c:Nat}{B:Nat->Bool}(h:dz w a b off n B)(s:cu c w w')(hne:0<n->b≠c):dz w' a b off n B:=
 fun j hj=>⟨(h j hj).1,(s.cell (a:=jj b (off+j)) (h.lt om) (hne om)).trans (h j hj).2⟩
structure Rp(w:World)(c:Nat)(a:Option Addr)(b off n cap:Nat)(X:Nat->Nat)(p:Nat):Prop where
 R:Rd w c a b off n cap X
 le:p<=n
 at_:w.cell? ⟨c,1,none⟩=some (.int .i64 p)
 bl:0<n->b<c
section
variable{w w' w1 w2:World}{c b off n cap p d:Nat}{a:Option Addr}{X:Nat->Nat}{row:Option Nat}
theorem Rp.aA(h:Rp w c a b off n cap X p)(s:w.S w'):Rp w' c a b off n cap X p:=
 ⟨h.R.aA s,h.le,(s.cell (a:=jj c 1) h.R.lt).trans h.at_,h.bl⟩
theorem Rp.grown(h:Rp w1 c a b off n cap X p)(g:w1.grownBy w2 row)(hr:∀k,row=some k->c<k):Rp w2 c a b off n cap X p:=by
 have hc:some c≠row:=fun e=>by have:=hr c e.symm;omega
 exact⟨h.R.grown g hc (fun h0 e=>by have:=hr b e.symm;have:=h.bl h0;omega),h.le,(fa (w:=w1) (a:=jj c 1) (g.block c h.R.lt hc)).trans h.at_,h.bl⟩
theorem Rp.marked(h:Rp w c a b off n cap X p)(M:af w w' d)(hc:c<d):Rp w' c a b off n cap X p:=
 ⟨h.R.bE M om (fun h0=>by have:=h.bl h0;omega),h.le,(M.cell (a:=jj c 1) (by show c≠d;omega)).trans h.at_,h.bl⟩
end
def nV(X:Nat->Nat)(n p:Nat):Nat:=if p<n then X p else 0
def nP(n p:Nat):Nat:=if p<n then p+1 else p
theorem cT{c:Nat}{a:Option Addr}{b off n cap:Nat}{X:Nat->Nat}{p:Nat}{w:World}(hn:n<=16777216)(R:Rp w c a b off n cap X p):
 Cl 41 #[.p c 0] w fun e w'=>∃v:Nat,nV X n p=v/\e=.returned (.i v)/\v<256/\Rp w' c a b off n cap X (nP n p)/\cu c w w':=by
 have k0:=R.R.c0;have k1:=R.at_;have kf:=R.R.f 1;unfold nV nP
 by_cases hlt:p<n
 . rw[if_pos hlt,if_pos hlt]
   obtain⟨hx,rfl,kx⟩:=R.R.code p hlt;have hlt':(p:Int)<n:=om
   obtain⟨x,ex⟩:∃x,x=X p:=⟨_,rfl⟩;rw[<-ex] at kx hx⊢;clear ex;go_enter Tryz.func41,Tryz.ntmps41;go_wp2
   go_quiet (fail)
   go_wp2
   go_quiet (fail)
   go_wp2;go_ret;go_light;obtain⟨R1,O1⟩:=R.R.step hlt k1 ((Same.refl _).drewN _);exact⟨x,rfl,rfl,hx,⟨R1,hlt,j6 _ _ _ (by rw[((Same.refl w).drewN _).cell];exact k1),R.bl⟩,O1⟩
 . rw[if_neg hlt,if_neg hlt]
   go_enter Tryz.func41,Tryz.ntmps41;go_wp2
   go_quiet (fail)
   go_wp2;go_ret;exact⟨0,rfl,rfl,om,R.aA (((Same.refl _).drewN _).since _),cu.bG c ((Same.refl _).drewN _)⟩
theorem xP{c:Nat}{a:Option Addr}{b off n cap:Nat}{X:Nat->Nat}{p:Nat}{w:World}(hn:n<=16777216)(R:Rp w c a b off n cap X p):
 Cl 88 #[.p c 0] w fun e w'=>e=.returned (.i ((n-p:Nat):Int))/\Same w w':=by
 have k0:=R.R.c0;have k1:=R.at_;have hp:=R.le;go_enter Tryz.func88,Tryz.ntmps88;go_wp2
 go_quiet (fail)
 go_wp2;go_ret;go_light;exact⟨di om,(Same.refl _).drewN _⟩
def rR(X:Nat->Nat)(n v q:Nat):Nat->Nat×Nat
 | 0=>(v,q)
 | i+1=>((rR X n v q i).1*256 % 4294967296+nV X n (rR X n v q i).2,nP n (rR X n v q i).2)
def lb(X:Nat->Nat)(n p:Nat):Nat×Nat:=
 if nV X n p % 8=1 then (4294967295,nP n p) else if nV X n p % 8=2 then (2147483648,nP n p) else if nV X n p % 8=3 then (0,nP n p)
 else if nV X n p % 8=4 then (nV X n p/8,nP n p) else rR X n (nV X n p) (nP n p) 3
theorem ahF{c:Nat}{a:Option Addr}{b off n cap:Nat}{X:Nat->Nat}{p:Nat}{w:World}(hn:n<=16777216)(R:Rp w c a b off n cap X p):
 Cl 139 #[.p c 0] w fun e w'=>e=.returned (.int .u32 ((lb X n p).1:Nat))/\(lb X n p).1<4294967296/\Rp w' c a b off n cap X (lb X n p).2/\cu c w w':=by
 obtain⟨LB,hLB⟩:∃x,lb X n p=x:=⟨_,rfl⟩;rw[hLB];have HLB:=ae hLB;go_enter Tryz.func139,Tryz.ntmps139;go_wp2_with fail;refine (cT hn R).mono ?_;rintro e w1 ⟨v,ev,rfl,hv,R1,O1⟩;obtain⟨p1,hp1⟩:∃q,nP n p=q:=⟨_,rfl⟩;have HE:=HLB.out;unfold lb at HE;rw[ev,hp1] at HE;rw[hp1] at R1
 by_cases c1:v % 8=1
 . rw[if_pos c1] at HE
   have H2:=ae HE;have h1:((v:Int) % 8==1)=true:=by simp;omega
   go_wp2_with fail;go_ret;rw[<-H2.out];exact⟨rfl,qz,R1,O1⟩
 rw[if_neg c1] at HE;have h1:((v:Int) % 8==1)=false:=by simp;omega
 by_cases c2:v % 8=2
 . rw[if_pos c2] at HE
   have H2:=ae HE;have h2:((v:Int) % 8==2)=true:=by simp;omega
   go_wp2_with fail;go_ret;rw[<-H2.out];exact⟨rfl,qz,R1,O1⟩
 rw[if_neg c2] at HE;have h2:((v:Int) % 8==2)=false:=by simp;omega
 by_cases c3:v % 8=3
 . rw[if_pos c3] at HE
   have H2:=ae HE;have h3:((v:Int) % 8==3)=true:=by simp;omega
   go_wp2_with fail;go_ret;rw[<-H2.out];exact⟨rfl,qz,R1,O1⟩
 rw[if_neg c3] at HE;have h3:((v:Int) % 8==3)=false:=by simp;omega
 by_cases c4:v % 8=4
 . rw[if_pos c4] at HE
   have H2:=ae HE;have h4:((v:Int) % 8==4)=true:=by simp;omega
   go_wp2_with fail;go_ret;rw[<-H2.out];exact⟨rfl,(by show v/8<4294967296;omega),R1,O1⟩
 rw[if_neg c4] at HE;have H2:=ae HE;have h4:((v:Int) % 8==4)=false:=by simp;omega
 go_wp2_with fail
 . go_loopw [4,5] (fun q t wr=>∃(x k y:Nat),q=.int .u32 x/\x<4294967296/\t=.i k/\k<=3/\Hid (rR X n v p1 k=(x,y))/\Rp wr c a b off n cap X y/\cu c w wr) (fun _ t _=>3-(intOf t).toNat)
   case atStart=>exact⟨v,0,p1,rfl,om,rfl,om,ae rfl,R1,O1⟩
   case round=>
    obtain⟨x,k,y,rfl,hx,rfl,hk,HL,R2,O2⟩:=hrel
    by_cases hlt:k<3
    . go_wp2_with fail
      refine (cT hn R2).mono ?_;rintro e w2 ⟨u,eu,rfl,hu,R3,O3⟩;have HL2:Hid (rR X n v p1 (k+1)=(x*256 % 4294967296+u,nP n y)):=ae (by rw[rR,HL.out,eu]);go_wp2;go_roundw
      case rel=>
       go_light;exact⟨x*256 % 4294967296+u,k+1,nP n y,congrArg (Value.int .u32) om,om,by go_num,om,HL2,R3,O2.trans O3⟩
      case measure=>simp[intOf];omega
    . have e:k=3:=om
      subst e;go_wp2;go_ret;rw[<-H2.out,HL.out];exact⟨rfl,hx,R2,O2⟩
def ntQ(X:Nat->Nat)(n q:Nat):Nat->Nat
 | 0=>q
 | i+1=>(lb X n (ntQ X n q i)).2
def ntN(X:Nat->Nat)(n p:Nat):Nat:=if nV X n p % 5=4 then (if 10<4+(n-nP n p)/12 then 10 else 4+(n-nP n p)/12) else nV X n p % 6
def vF(X:Nat->Nat)(n p:Nat):Nat:=ntN X n p+(if 224<=nV X n p then 1 else 0)
def xF(X:Nat->Nat)(n p:Nat)(i:Nat):Nat:=if i<ntN X n p then (lb X n (ntQ X n (nP n p) i)).1 else 0
def xC(X:Nat->Nat)(n p:Nat):Nat:=ntQ X n (nP n p) (ntN X n p)
theorem ae3{c:Nat}{a:Option Addr}{b off n cap:Nat}{X:Nat->Nat}{p:Nat}{w:World}(hn:n<=16777216)(R:Rp w c a b off n cap X p):
 Cl 94 #[.p c 0] w fun e w'=>∃g cap',e=.returned (.s g (vF X n p) cap')/\vF X n p<=cap'/\vF X n p<=11/\ag w' (jp g 0) g 0 (vF X n p) (xF X n p)/\(∀j,j<vF X n p->xF X n p j<4294967296)/\w.heap.size<=g/\g<w'.heap.size/\Rp w' c a b off n cap X (xC X n p)/\cu c w w':=by
 obtain⟨i0,hi,hz0,hz1,hz2⟩:=info_parts Tryz.info129;have hcl:=R.R.lt;obtain⟨p1,hp1⟩:∃q,nP n p=q:=⟨_,rfl⟩;obtain⟨N,hN⟩:∃N,ntN X n p=N:=⟨_,rfl⟩;have HP1:=ae hp1;have HN:=ae hN;have hD:∀i,i<N->xF X n p i=(lb X n (ntQ X n p1 i)).1:=fun i h=>by unfold xF;rw[if_pos om,hp1]
 have hD2:xF X n p N=0:=by unfold xF;rw[if_neg om]
 have hP:xC X n p=ntQ X n p1 N:=by unfold xC;rw[hp1,hN]
 have hL:vF X n p=N+(if 224<=nV X n p then 1 else 0):=by unfold vF;rw[hN]
 obtain⟨DD,hDD⟩:∃D,xF X n p=D:=⟨_,rfl⟩;rw[hDD] at hD hD2;obtain⟨LL,hLL⟩:∃l,vF X n p=l:=⟨_,rfl⟩;rw[hDD,hP,hLL];have HLL:Hid (LL=N+(if 224<=nV X n p then 1 else 0)):=ae (by rw[<-hLL];exact hL);clear hLL;have HD:=ae hD;have HD2:=ae hD2;clear hD hD2 hDD hP hL hN hp1;go_enter Tryz.func94,Tryz.ntmps94;go_wp2_with fail;refine (cT hn R).mono ?_;rintro e w1 ⟨v,ev,rfl,hv,R1,O1⟩;have HNN:=HN.out;unfold ntN at HNN;rw[HP1.out,ev] at HNN;rw[HP1.out] at R1;have EV:=ae ev;clear ev
 have hcase:(v % 5=4/\10<4+(n-p1)/12/\10=N)∨(v % 5=4/\¬10<4+(n-p1)/12/\4+(n-p1)/12=N)∨(¬v % 5=4/\v % 6=N):=by
  by_cases c1:v % 5=4
  . rw[if_pos c1] at HNN
    by_cases c2:10<4+(n-p1)/12
    . rw[if_pos c2] at HNN;exact Or.inl ⟨c1,c2,HNN⟩
    . rw[if_neg c2] at HNN;exact Or.inr (Or.inl ⟨c1,c2,HNN⟩)
  . rw[if_neg c1] at HNN;exact Or.inr (Or.inr ⟨c1,HNN⟩)
 clear HNN;have hNl:N<=10:=om
 rcases hcase with ⟨c1,c2,c3⟩ | ⟨c1,c2,c3⟩ | ⟨c1,c3⟩
 focus
  have h1:((v:Int) % 5==4)=true:=by simp;omega
  have C4:=ae (show (10:Int)=N by omega);have JL:=xP hn R1;obtain⟨q,hq⟩:∃q,n-p1=q:=⟨_,rfl⟩;rw[hq] at JL c2;obtain⟨M,hM⟩:∃M:Nat,4+(q:Int)/12=(M:Int):=⟨4+q/12,om⟩;have hMl:(10:Int)<M:=om
  have hql:q<=16777216:=om
  clear c1 c2 c3 hq;go_wp2_with fail;refine JL.mono ?_;clear JL;rintro e w2 ⟨rfl,s2⟩;have O2:=O1.trans (cu.bG c s2);have R2:=R1.aA (s2.since _);clear O1 R1 s2;go_wp2_with fail;rw[C4.out];clear C4 hM hMl
 rotate_left
 focus
  have h1:((v:Int) % 5==4)=true:=by simp;omega
  have hM:¬(10:Int)<N:=om
  have c4:4+((n-p1:Nat):Int)/12=(N:Int):=om
  clear c1 c2 c3;go_wp2_with fail;refine (xP hn R1).mono ?_;rintro e w2 ⟨rfl,s2⟩;have O2:=O1.trans (cu.bG c s2);have R2:=R1.aA (s2.since _);clear O1 R1 s2;go_wp2_with fail;clear c4 hM
 rotate_left
 focus
  have h1:((v:Int) % 5==4)=false:=by simp;omega
  have c4:(v:Int) % 6=(N:Int):=om
  have O2:=O1;have R2:=R1;clear c1 c3 O1 R1;go_wp2_with fail;rw[c4];clear c4
 rotate_left
 all_goals
  go_loopw [5,6] (fun o t wr=>∃k:Nat,k<=N/\t=.i k/\Hid (o≠ .n)/\wr.ownsRow w.heap.size 129 1 o k (ll DD k)/\Hid (∀j,j<k->DD j<4294967296)/\Rp wr c a b off n cap X (ntQ X n p1 k)/\cu c w wr) (fun _ t _=>N-(intOf t).toNat)
  case atStart=>exact⟨0,Nat.zero_le _,rfl,ae qz,pv _ #[] 0 O2.size qd rfl,ae (fun j hj=>absurd hj om),R2.aA (bJ _ _),O2.trans (cu.aC c (bJ _ _))⟩
  case round=>
   clear R2 O2;obtain⟨k,hkN,rfl,HN0,hown,HB,R2,O2⟩:=hrel;have hs2:=O2.size
   by_cases hlt:k<N
   . go_wp2_with fail
     have JL:=ahF hn R2;obtain⟨x,ex⟩:∃x,(lb X n (ntQ X n p1 k)).1=x:=⟨_,rfl⟩;rw[ex] at JL;refine JL.mono ?_;rintro e w3 ⟨rfl,hx,R3,O3⟩;clear JL;have own3:=tJ hown O3 hcl;have hs3:=O3.size;have O03:=O2.trans O3;have EX:Hid (DD k=x):=ae ((HD.out k hlt).trans ex);clear hown R2 O3 O2 ex
     go_wp2_with (at_builtin;refine wpList_append_own _ rfl _ _ 42 rfl w.heap.size 129 i0 (.int .u32 0) 1 4 Tryz.underlying42 hi hz0 hz1 hz2 rfl qd _ _ _ rfl (own3.alloc _) (jj w3.heap.size 0) 1 1 [.int .u32 x] rfl rfl (bO _ _ _) (bZ _ rfl) (by unfold maxLen;omega) om (by simp;omega) ?_)
     intro v' w4 hown' hgrow hnn;rw[show ll DD k++[.int .u32 x]=ll DD (k+1) from by rw[jV,EX.out]] at hown';have sW:=bJ w3 (.cells #[.int .u32 x] 129);have hlow:=fun q hq=>(own3.lt q hq).1
     have O4:cu c w w4:=(O03.trans (cu.aC c sW)).grown hgrow hlow;have R4:Rp w4 c a b off n cap X (ntQ X n p1 (k+1)):=(R3.aA sW).grown hgrow (fun q e=>by have:=hlow q e;omega);have HN1:=ae hnn
     have HB1:Hid (∀j,j<k+1->DD j<4294967296):=ae (fun j hj=>by
      by_cases e2:j=k
      . subst e2;rw[EX.out];exact hx
      . exact HB.out j om)
     clear hgrow own3 hnn HN0 HB R3 O03 sW hlow;go_wp2;go_roundw
     case rel=>exact⟨k+1,om,by go_num,HN1,hown',HB1,R4,O4⟩
     case measure=>simp[intOf];omega
   . have e:k=N:=om
     subst e
     by_cases h224:(224:Int)<=v
     . have HL:Hid (LL=k+1):=ae (by rw[HLL.out,EV.out,if_pos om])
       go_wp2_with (at_builtin;refine wpList_append_own _ rfl _ _ 42 rfl w.heap.size 129 i0 (.int .u32 0) 1 4 Tryz.underlying42 hi hz0 hz1 hz2 rfl qd _ _ _ rfl (hown.alloc _) (jj wr.heap.size 0) 1 1 [.int .u32 0] rfl rfl (bO _ _ _) (bZ _ rfl) (by unfold maxLen;omega) om (by simp;omega) ?_)
       intro v' w4 hown' hgrow hnn;rw[show ll DD k++[.int .u32 0]=ll DD (k+1) from by rw[jV,HD2.out];rfl] at hown';have sW:=bJ wr (.cells #[.int .u32 0] 129);have hlow:=fun q hq=>(hown.lt q hq).1
       have O4:cu c w w4:=(O2.trans (cu.aC c sW)).grown hgrow hlow;have R4:=(R2.aA sW).grown hgrow (fun q e=>by have:=hlow q e;omega);obtain⟨g,cap3,rfl,hmc,hbg,hgl,L3,-⟩:=bX hown' hnn;clear hgrow hown sW hlow R2 O2;go_wp2;go_ret;rw[HL.out];refine⟨g,cap3,rfl,hmc,om,L3,fun j hj=> ?_,hbg,hgl,R4,O4⟩
       by_cases e2:j=k
       . subst e2;rw[HD2.out];omega
       . exact HB.out j om
     . have HL:Hid (LL=k):=ae (by rw[HLL.out,EV.out,if_neg om,Nat.add_zero])
       obtain⟨g,cap3,rfl,hmc,hbg,hgl,L3,-⟩:=bX hown HN0.out;go_wp2;go_ret;rw[HL.out];exact⟨g,cap3,rfl,hmc,om,L3,HB.out,hbg,hgl,R2,O2⟩
def bd(k:Nat)(z:Int):Int:=if k % 6=0 then z else if k % 6=1 then z+1 else if k % 6=2 then-1 else if k % 6=3 then 0 else if k % 6=4 then 1000+(k:Int)/6 % 3 else (k:Int)/6
theorem sK{c:Nat}{a:Option Addr}{b off n cap:Nat}{X:Nat->Nat}{p:Nat}{z:Int}{w:World}(hn:n<=16777216)(R:Rp w c a b off n cap X p)(h1:-100000<=z)(h2:z<=100000):
 Cl 95 #[.p c 0,.i z] w fun e w'=>e=.returned (.i (bd (nV X n p) z))/\Rp w' c a b off n cap X (nP n p)/\cu c w w':=by
 obtain⟨y,hy⟩:∃y,bd (nV X n p) z=y:=⟨_,rfl⟩;rw[hy];have HY:=ae hy;go_enter Tryz.func95,Tryz.ntmps95;go_wp2_with fail;refine (cT hn R).mono ?_;rintro e w1 ⟨k,ek,rfl,hk,R1,O1⟩;have HE:Hid (bd k z=y):=ae (by rw[<-ek];exact HY.out);go_wp2
 all_goals
  go_ret;refine⟨di ?_,R1,O1⟩;rw[<-HE.out];unfold bd;simp only[beq_iff_eq,beq_eq_false_iff_ne] at*
  repeat' split
  all_goals omega
theorem dM.marked{w w':World}{v:Value}{f:Bool}{N D B M c:Nat}(h:dM w v f N D B M)(s:af w w' c)(hc:c<B):dM w' v f N D B M:=by
 obtain⟨v1,v2,g,k,e,h1,h2,h3,h4,h5⟩:=h;exact⟨v1,v2,g,k,e,h1.marked s om,h2.marked s om,h3,h4,h5⟩
theorem dM.low{w:World}{v:Value}{f:Bool}{N D B B' M:Nat}(h:dM w v f N D B M)(hB:B'<=B):dM w v f N D B' M:=by
 obtain⟨v1,v2,g,k,e,h1,h2,h3,h4,h5⟩:=h;exact⟨v1,v2,g,k,e,h1,h2,om,om,h5⟩
theorem dM.form{w:World}{v:Value}{f:Bool}{N D B M:Nat}(h:dM w v f N D B M):∃a n ca b m cb,v=.agg #[.bool f,.slice a n ca,.slice b m cb]:=by
 obtain⟨v1,v2,g,k,rfl,⟨a,n,ca,X,rfl,-⟩,⟨b,m,cb,Y,rfl,-⟩,-⟩:=h;exact⟨a,n,ca,b,m,cb,rfl⟩
def fr(z:Int)(d:Nat):Bool×Nat×Nat:=(decide (z<0),z.natAbs/Nat.gcd z.natAbs d,d/Nat.gcd z.natAbs d)
theorem pm{z d0:Int}{w:World}(h1:-100000<=z)(h2:z<=100000)(hd:0<d0)(hd2:d0<=100000):
 Cl 92 #[.i z,.i d0] w fun e w'=>∃v,e=.returned v/\dM w' v (fr z d0.toNat).1 (fr z d0.toNat).2.1 (fr z d0.toNat).2.2 w.heap.size 67108864/\w.S w':=by
 obtain⟨d,rfl⟩:∃d:Nat,d0=(d:Int):=⟨d0.toNat,om⟩;have sA:=bJ w (.cells #[.bool false,.n,.n] 44);have rA:=bj.new w (.bool false) (.n) (.n) 44;obtain⟨FR,hFR⟩:∃x,fr z ((d:Int)).toNat=x:=⟨_,rfl⟩;rw[hFR];have HFR:=ae hFR
 by_cases hz:z<0
 focus
  obtain⟨m,hm,hm0⟩:∃m:Nat,z=-(m:Int)/\0<m:=⟨z.natAbs,om,om⟩;have JM:=fun wA=>@fE true m d wA om om om
  obtain⟨f6,hf6⟩:∃f,(true&&m != 0)=f:=⟨_,rfl⟩
  have HE:Hid (FR=(f6,m/Nat.gcd m d,d/Nat.gcd m d)):=ae (by
   rw[<-HFR.out,hm,<-hf6];have:m≠0:=om
   simp[fr,this,hm0])
  rw[hf6] at JM
 rotate_left
 focus
  obtain⟨m,hm⟩:∃m:Nat,z=(m:Int):=⟨z.toNat,om⟩;have JM:=fun wA=>@fE false m d wA om om om
  obtain⟨f6,hf6⟩:∃f,(false&&m != 0)=f:=⟨_,rfl⟩
  have HE:Hid (FR=(f6,m/Nat.gcd m d,d/Nat.gcd m d)):=ae (by
   rw[<-HFR.out,hm,<-hf6]
   simp[fr])
  rw[hf6] at JM
 rotate_left
 all_goals
  subst hm;rw[HE.out];have HJ:=ae JM;go_enter Tryz.func92,Tryz.ntmps92;go_wp2_with fail;generalize (w.alloc _)=wA at*;refine (HJ.out wA).mono ?_;rintro e w6 ⟨v,rfl,HV,s6⟩;have r6:=rA.aA s6;have rl:=rA.lt;have S6:=sA.tr s6;obtain⟨a6,q6,c6,b6,m6,d6,e6⟩:=HV.form;subst e6;have HV6:=ae HV;have zA:=sA.size;obtain⟨u0,u1,u2⟩:=r6.g;obtain⟨uf0,uf1,uf2⟩:=r6.k;go_wp2;have rC:=((r6.aE (.bool f6)).aG (.slice a6 q6 c6)).aF (.slice b6 m6 d6);refine bodyPost_ret (mu rfl _ _ _ _ _ _ rfl rC) rfl ?_;have M:af w6 _ w.heap.size:=(((af.refl w6 _).setCell 0 (.bool f6)).setCell 1 (.slice a6 q6 c6)).setCell 2 (.slice b6 m6 d6);exact⟨_,rfl,(HV6.out.marked M om).low om,S6.trans (M.since (Nat.le_refl _))⟩
theorem ai2(k:Nat):(k % 2==1)=((k:Int) % 2==1):=by
 rw[Bool.eq_iff_iff,beq_iff_eq,beq_iff_eq];omega
def cz(X:Nat->Nat)(n p:Nat):Nat:=lv (xF X n (nP n p)) (vF X n (nP n p))
def gE(X:Nat->Nat)(n p:Nat):Nat:=lv (xF X n (xC X n (nP n p))) (vF X n (xC X n (nP n p)))
def bg(X:Nat->Nat)(n p:Nat):Bool×Nat×Nat:=
 (nV X n p % 2==1&&cz X n p != 0,cz X n p/Nat.gcd (cz X n p) (if gE X n p=0 then 1 else gE X n p),(if gE X n p=0 then 1 else gE X n p)/Nat.gcd (cz X n p) (if gE X n p=0 then 1 else gE X n p))
def bgP(X:Nat->Nat)(n p:Nat):Nat:=xC X n (xC X n (nP n p))
theorem aiL{c:Nat}{a:Option Addr}{b off n cap:Nat}{X:Nat->Nat}{p:Nat}{w:World}(hn:n<=16777216)(R:Rp w c a b off n cap X p):
 Cl 144 #[.p c 0] w fun e w'=>∃v,e=.returned v/\dM w' v (bg X n p).1 (bg X n p).2.1 (bg X n p).2.2 w.heap.size 67108864/\Rp w' c a b off n cap X (bgP X n p)/\cu c w w':=by
 have sA:=bJ w (.cells #[.bool false,.n,.n] 44);have rA:=bj.new w (.bool false) (.n) (.n) 44;have rl:=R.R.lt;have bl:=rA.lt;have RA:=R.aA sA;obtain⟨BG,hBG⟩:∃x,bg X n p=x:=⟨_,rfl⟩;rw[hBG];have HBG:=ae hBG;unfold bgP;go_enter Tryz.func144,Tryz.ntmps144;go_wp2_with fail;generalize (w.alloc _)=wA at*;have zA:=sA.size;refine (@cT c a b off n cap X p wA hn RA).mono ?_;rintro e w1 ⟨k,ek,rfl,hk,R1,O1⟩;have r1:=rA.aI O1 om;have O01:=(cu.aC c sA).trans O1;have z1:=O1.size;have EK:=ae ek;go_wp2_with fail;refine (@ae3 c a b off n cap X _ w1 hn R1).mono ?_;rintro e w2 ⟨g1,c1,rfl,k11,k12,L1,l1,k13,k14,R2,O2⟩;have r2:=r1.aI O2 om;have O02:=O01.trans O2;have z2:=O2.size;have HN1:=ae (show lv (xF X n (nP n p)) (vF X n (nP n p))=cz X n p from rfl);generalize vF X n (nP n p)=t1 at*;generalize xF X n (nP n p)=D1 at*;go_wp2_with fail;refine (@cO (jp g1 0) g1 0 t1 c1 D1 w2 om L1 l1).mono ?_;rintro e w3 ⟨a3,g3,m3,c3,B3,rfl,k31,k32,L3,k33,k34,e3,s3⟩;have r3:=r2.aA s3;have R3:=R2.aA s3;have O03:=O02.trans (cu.aC c s3);have z3:=s3.size;have h3g:0<m3->c≠g3:=fun h=>by have:=k33 h;omega
 have HE3:=ae (e3.trans HN1.out);go_wp2_with fail;refine (@ae3 c a b off n cap X _ w3 hn R3).mono ?_;rintro e w4 ⟨g4,c4,rfl,k41,k42,L4,l4,k43,k44,R4,O4⟩;have r4:=r3.aI O4 om;have O04:=O03.trans O4;have z4:=O4.size;have HN2:=ae (show lv (xF X n (xC X n (nP n p))) (vF X n (xC X n (nP n p)))=gE X n p from rfl);generalize vF X n (xC X n (nP n p))=t4 at*;generalize xF X n (xC X n (nP n p))=D4 at*;have T4:Tr w4 (.slice a3 m3 c3) m3 B3:=⟨a3,g3,0,c3,rfl,k31,L3.otH O4 (fun h=>(h3g h).symm),k34⟩;go_wp2_with fail;refine (@cO (jp g4 0) g4 0 t4 c4 D4 w4 om L4 l4).mono ?_;rintro e w5 ⟨a5,g5,m5,c5,B5,rfl,k51,k52,L5,-,k54,e5,s5⟩;have T5:Tr w5 (.slice a5 m5 c5) m5 B5:=⟨a5,g5,0,c5,rfl,k51,L5,k54⟩;have HE5:=ae (e5.trans HN2.out);have r5:=r4.aA s5;have R5:=R4.aA s5;have T53:=T4.aA s5;have O05:=O04.trans (cu.aC c s5);have z5:=s5.size;obtain⟨fl,hfl⟩:∃f,((k:Int) % 2==1)=f:=⟨_,rfl⟩;obtain⟨DD,hDD⟩:∃d,(if gE X n p=0 then 1 else gE X n p)=d:=⟨_,rfl⟩
 have HB:Hid (BG=(fl&&cz X n p != 0,cz X n p/Nat.gcd (cz X n p) DD,DD/Nat.gcd (cz X n p) DD)):=ae (by
  rw[<-HBG.out];unfold bg;rw[hDD,EK.out,ai2,hfl])
 have HDD:=ae hDD;generalize cz X n p=NN at*
 by_cases h0:m5=0
 focus
  subst h0;go_wp2_with fail;refine (@eJ 1 _ qd).mono ?_;rintro e w6 ⟨v6,t6,B6,rfl,k6,T6,e6,s6⟩;have r6:=r5.aA s6;have R6:=R5.aA s6;have T63:=T53.aA s6;have O06:=O05.trans (cu.aC c s6);have z6:=s6.size;have JM:=@fT fl _ _ m3 t6 B3 B6 w6 om om T63 T6 (by rw[e6];decide);have HD:(1:Nat)=DD:=by rw[<-HDD.out,if_pos (by rw[<-HE5.out];rfl)]
  rw[e6,HE3.out,HD] at JM;clear e6 T6 T63 T53 R5 r5 O05 HD
 rotate_left
 focus
  have h0':((m5:Int)==0)=false:=by simp;omega
  have hp:=mU (Nat.pos_of_ne_zero h0) (by obtain⟨_,_,_,_,h1,_,_,h4⟩:=T5;exact h4 (Nat.pos_of_ne_zero h0));have JM:=@fT fl _ _ m3 m5 B3 B5 w5 om om T53 T5 hp;have HD:bv B5 m5=DD:=by rw[<-HDD.out,if_neg (by rw[<-HE5.out];omega)];exact HE5.out
  rw[HE3.out,HD] at JM;have r6:=r5;have R6:=R5;have O06:=O05;have z6:=Nat.le_refl w5.heap.size
 rotate_left
 all_goals
  go_wp2_with fail;refine JM.mono ?_;rintro e w7 ⟨v,rfl,HV,s7⟩;have r7:=r6.aA s7;have R7:=R6.aA s7;have O07:=O06.trans (cu.aC c s7);have z7:=s7.size;obtain⟨a6,q6,c6,b6,m6,d6,e6⟩:=HV.form;subst e6;have HV7:=ae HV;generalize (fl&&NN != 0)=f6 at*;obtain⟨u0,u1,u2⟩:=r7.g;obtain⟨uf0,uf1,uf2⟩:=r7.k;go_wp2;have rC:=((r7.aE (.bool f6)).aG (.slice a6 q6 c6)).aF (.slice b6 m6 d6);refine bodyPost_ret (mu rfl _ _ _ _ _ _ rfl rC) rfl ?_;have M:af w7 _ w.heap.size:=(((af.refl w7 _).setCell 0 (.bool f6)).setCell 1 (.slice a6 q6 c6)).setCell 2 (.slice b6 m6 d6);rw[HB.out];exact⟨_,rfl,(HV7.out.marked M om).low om,R7.marked M om,jl O07 M (Nat.le_refl _)⟩
def rt(X:Nat->Nat)(n p:Nat):(Bool×Nat×Nat)×Nat:=
 if 252<=nV X n p then (bg X n (nP n p),bgP X n (nP n p))
 else if 232<=nV X n p then (fr ((nV X n (nP n p):Int)*8+nV X n p-1100) (1+nV X n (nP n (nP n p))),nP n (nP n (nP n p)))
 else if 128<=nV X n p then (fr ((nV X n p:Int) % 9-4) 1,nP n p)
 else if 64<=nV X n p then (fr ((nV X n p:Int) % 11-5) (1+nV X n p % 4),nP n p)
 else if 44<=nV X n p then (fr ((nV X n p:Int)-54) 6,nP n p)
 else if 22<=nV X n p then (fr 1 1,nP n p)
 else if 12<=nV X n p then (fr (-1) 1,nP n p)
 else ((false,0,1),nP n p)
theorem aiw{c:Nat}{a:Option Addr}{b off n cap:Nat}{X:Nat->Nat}{p:Nat}{w:World}(hn:n<=16777216)(R:Rp w c a b off n cap X p):
 Cl 98 #[.p c 0] w fun e w'=>∃v,e=.returned v/\dM w' v (rt X n p).1.1 (rt X n p).1.2.1 (rt X n p).1.2.2 w.heap.size 67108864/\Rp w' c a b off n cap X (rt X n p).2/\cu c w w':=by
 have sA:=bJ w (.cells #[.bool false,.n,.n] 44);have rA:=bj.new w (.bool false) (.n) (.n) 44;have rl:=R.R.lt;have bl:=rA.lt;have RA:=R.aA sA;obtain⟨RT,hRT⟩:∃x,rt X n p=x:=⟨_,rfl⟩;rw[hRT];have HRT:=ae hRT;clear hRT;go_enter Tryz.func98,Tryz.ntmps98;go_wp2_with fail;generalize (w.alloc _)=wA at*;have zA:=sA.size;refine (cT hn RA).mono ?_;rintro e w1 ⟨k,ek,rfl,hk,R1,O1⟩;have r1:=rA.aI O1 om;have O01:=(cu.aC c sA).trans O1;have z1:=O1.size;have HE:=HRT.out;unfold rt at HE;rw[ek] at HE;clear RA O1 sA ek HRT
 have fin:∀(RR:(Bool×Nat×Nat)×Nat),RR=RT->∀(v:Value) (w7:World),dM w7 v RR.1.1 RR.1.2.1 RR.1.2.2 w1.heap.size 67108864->Rp w7 c a b off n cap X RR.2->cu c w1 w7->Hid (dM w7 v RT.1.1 RT.1.2.1 RT.1.2.2 w1.heap.size 67108864)/\Rp w7 c a b off n cap X RT.2/\cu c w w7/\bj w7 w.heap.size (.bool false) (.n) (.n)/\w1.heap.size<=w7.heap.size:=fun RR e v w7 hv hr ho=>by
  subst e;exact⟨ae hv,hr,O01.trans ho,r1.aI ho om,ho.size⟩
 have FIN:=ae fin;clear fin;have hcase:252<=k∨(¬252<=k/\232<=k)∨(¬232<=k/\128<=k)∨(¬128<=k/\64<=k)∨(¬64<=k/\44<=k)∨(¬44<=k/\22<=k)∨(¬22<=k/\12<=k)∨¬12<=k:=om
 rcases hcase with x | ⟨y,x⟩ | ⟨y,x⟩ | ⟨y,x⟩ | ⟨y,x⟩ | ⟨y,x⟩ | ⟨y,x⟩ | y
 focus
  rw[if_pos x] at HE;have x':(252:Int)<=k:=om
  have H2:=ae HE;clear HE x;go_wp2_with fail;refine (aiL hn R1).mono ?_;rintro e w7 ⟨v,rfl,HV,R7,O7⟩;obtain⟨HV7,R7,O07,r7,z7⟩:=FIN.out _ H2.out v w7 HV R7 O7;clear HV O7
 rotate_left
 focus
  rw[if_neg om,if_pos x] at HE;have y':¬(252:Int)<=k:=om
  have x':(232:Int)<=k:=om
  have H2:=ae HE;clear HE x y;go_wp2_with fail;refine (cT hn R1).mono ?_;rintro e w2 ⟨k2,ek2,rfl,hk2,R2,O2⟩;have E2:=ae ek2;clear ek2;go_wp2_with fail;refine (cT hn R2).mono ?_;rintro e w3 ⟨k3,ek3,rfl,hk3,R3,O3⟩;have E3:=ae ek3;clear ek3;go_wp2_with fail;refine (pm om om om om).mono ?_;rintro e w7 ⟨v,rfl,HV,s7⟩;have zz:=O2.size;have zz3:=O3.size
  obtain⟨HV7,R7,O07,r7,z7⟩:=FIN.out _ H2.out v w7 (by
   rw[E2.out,E3.out,show 1+k3=(1+(k3:Int)).toNat by omega];exact HV.low om) (R3.aA s7) ((O2.trans O3).trans (cu.aC c s7))
  clear HV s7
 rotate_left
 focus
  rw[if_neg om,if_neg om,if_pos x] at HE;have y':¬(232:Int)<=k:=om
  have y0:¬(252:Int)<=k:=om
  have x':(128:Int)<=k:=om
  have H2:=ae HE;clear HE x y;go_wp2_with fail;refine (pm om om om om).mono ?_;rintro e w7 ⟨v,rfl,HV,s7⟩;obtain⟨HV7,R7,O07,r7,z7⟩:=FIN.out _ H2.out v w7 HV (R1.aA s7) (cu.aC c s7);clear HV s7
 rotate_left
 focus
  rw[if_neg om,if_neg om,if_neg om,if_pos x] at HE;have y':¬(128:Int)<=k:=om
  have y0:¬(252:Int)<=k:=om
  have y1:¬(232:Int)<=k:=om
  have x':(64:Int)<=k:=om
  have H2:=ae HE;clear HE x y;go_wp2_with fail;refine (pm om om om om).mono ?_;rintro e w7 ⟨v,rfl,HV,s7⟩;obtain⟨HV7,R7,O07,r7,z7⟩:=FIN.out _ H2.out v w7 (by rw[show 1+k % 4=(1+(k:Int) % 4).toNat by omega];exact HV) (R1.aA s7) (cu.aC c s7);clear HV s7
 rotate_left
 focus
  rw[if_neg om,if_neg om,if_neg om,if_neg om,if_pos x] at HE;have y':¬(64:Int)<=k:=om
  have y0:¬(252:Int)<=k:=om
  have y1:¬(232:Int)<=k:=om
  have y2:¬(128:Int)<=k:=om
  have x':(44:Int)<=k:=om
  have H2:=ae HE;clear HE x y;go_wp2_with fail;refine (pm om om om om).mono ?_;rintro e w7 ⟨v,rfl,HV,s7⟩;obtain⟨HV7,R7,O07,r7,z7⟩:=FIN.out _ H2.out v w7 HV (R1.aA s7) (cu.aC c s7);clear HV s7
 rotate_left
 focus
  rw[if_neg om,if_neg om,if_neg om,if_neg om,if_neg om,if_pos x] at HE;have y':¬(44:Int)<=k:=om
  have y0:¬(252:Int)<=k:=om
  have y1:¬(232:Int)<=k:=om
  have y2:¬(128:Int)<=k:=om
  have y3:¬(64:Int)<=k:=om
  have x':(22:Int)<=k:=om
  have H2:=ae HE;clear HE x y;go_wp2_with fail;refine (pm om om om om).mono ?_;rintro e w7 ⟨v,rfl,HV,s7⟩;obtain⟨HV7,R7,O07,r7,z7⟩:=FIN.out _ H2.out v w7 HV (R1.aA s7) (cu.aC c s7);clear HV s7
 rotate_left
 focus
  rw[if_neg om,if_neg om,if_neg om,if_neg om,if_neg om,if_neg om,if_pos x] at HE;have y':¬(22:Int)<=k:=om
  have y0:¬(252:Int)<=k:=om
  have y1:¬(232:Int)<=k:=om
  have y2:¬(128:Int)<=k:=om
  have y3:¬(64:Int)<=k:=om
  have y4:¬(44:Int)<=k:=om
  have x':(12:Int)<=k:=om
  have H2:=ae HE;clear HE x y;go_wp2_with fail;refine (pm om om om om).mono ?_;rintro e w7 ⟨v,rfl,HV,s7⟩;obtain⟨HV7,R7,O07,r7,z7⟩:=FIN.out _ H2.out v w7 HV (R1.aA s7) (cu.aC c s7);clear HV s7
 rotate_left
 focus
  rw[if_neg om,if_neg om,if_neg om,if_neg om,if_neg om,if_neg om,if_neg om] at HE;have y':¬(12:Int)<=k:=om
  have y0:¬(252:Int)<=k:=om
  have y1:¬(232:Int)<=k:=om
  have y2:¬(128:Int)<=k:=om
  have y3:¬(64:Int)<=k:=om
  have y4:¬(44:Int)<=k:=om
  have y5:¬(22:Int)<=k:=om
  have H2:=ae HE;clear HE y;go_wp2_with fail;refine (dY).mono ?_;rintro e w7 ⟨v,rfl,HV,s7⟩;obtain⟨HV7,R7,O07,r7,z7⟩:=FIN.out _ H2.out v w7 HV (R1.aA s7) (cu.aC c s7);clear HV s7
 rotate_left
 all_goals
  clear H2 FIN;obtain⟨a6,q6,c6,b6,m6,d6,e6⟩:=HV7.out.form;subst e6;obtain⟨f6,hf6⟩:∃f,RT.1.1=f:=⟨_,rfl⟩;rw[hf6] at HV7⊢;have HF6:=ae hf6;clear hf6;obtain⟨u0,u1,u2⟩:=r7.g;obtain⟨uf0,uf1,uf2⟩:=r7.k;go_wp2;have rC:=((r7.aE (.bool f6)).aG (.slice a6 q6 c6)).aF (.slice b6 m6 d6);refine bodyPost_ret (mu rfl _ _ _ _ _ _ rfl rC) rfl ?_;have M:af w7 _ w.heap.size:=(((af.refl w7 _).setCell 0 (.bool f6)).setCell 1 (.slice a6 q6 c6)).setCell 2 (.slice b6 m6 d6);rw[HF6.out];exact⟨_,rfl,(HV7.out.marked M om).low om,R7.marked M om,jl O07 M (Nat.le_refl _)⟩
theorem vh{N k:Nat}(h:N<4294967296^k):(iE N).1<=k:=iV (gh N).2.1 (by rw[(gh N).2.2];exact h)
def rd(q:Rat):br:=mx (qn q) q.num.natAbs q.den
def tr(q:Rat):Bool×Nat×Nat:=(qn q,q.num.natAbs,q.den)
def tq(t:Bool×Nat×Nat):Rat:=mkRat (if t.1 then-(t.2.1:Int) else t.2.1) t.2.2
theorem agO(q:Rat):tq (tr q)=q:=by
 unfold tq tr qn;simp only[decide_eq_true_eq];rw[show (if q.num<0 then-(q.num.natAbs:Int) else (q.num.natAbs:Int))=q.num by split<;>omega];exact Rat.mkRat_self q
theorem ac0(z:Int)(d:Nat)(hd:d≠0):fr z d=tr (mkRat z d):=by
 rw[<-Rat.normalize_eq_mkRat hd];obtain⟨e1,e2,e3⟩:=xw z d hd;unfold tr;rw[e1,e2,e3]
 rfl
theorem pJ{z:Int}{d k:Nat}(hd:d≠0)(h1:z.natAbs<4294967296^k)(h2:d<4294967296^k):Qb (mkRat z d) k:=by
 rw[<-Rat.normalize_eq_mkRat hd];obtain⟨-,e2,e3⟩:=xw z d hd;unfold Qb;rw[e2,e3];exact⟨Nat.lt_of_le_of_lt (Nat.div_le_self _ _) h1,Nat.lt_of_le_of_lt (Nat.div_le_self _ _) h2⟩
section
variable{X:Nat->Nat}{n:Nat}
theorem gK(hX:∀j,j<n->X j<256)(p:Nat):nV X n p<256:=by
 unfold nV
 split
 . exact hX _ ‹_›
 . omega
theorem aiE(hX:∀j,j<n->X j<256)(p:Nat):(lb X n p).1<4294967296:=by
 have h0:=gK hX p
 have h3:∀v q i,v<4294967296->(rR X n v q i).1<4294967296:=fun v q i hv=>by
  cases i with
  | zero=>exact hv
  | succ i=>
    have:=gK hX (rR X n v q i).2
    show (rR X n v q i).1*256 % 4294967296+nV X n (rR X n v q i).2<4294967296
    omega
 unfold lb
 repeat' split
 all_goals first | exact h3 _ _ _ om | (simp only;omega)
theorem ai0{a k:Nat}(h:a<=k):2^(32*a)<=4294967296^k:=by
 rw[show (4294967296:Nat)=2^32 by decide,<-Nat.pow_mul];exact Nat.pow_le_pow_right qd om
theorem aey(hX:∀j,j<n->X j<256)(p:Nat):lv (xF X n p) (vF X n p)<4294967296^11:=by
 have h1:vF X n p<=11:=by
  unfold vF ntN;have:=gK hX p
  repeat' split
  all_goals omega
 have h2:=fy (xF X n p) (vF X n p) (fun j _=>by
  unfold xF
  split
  . exact aiE hX _
  . omega)
 exact Nat.lt_of_lt_of_le h2 (ai0 h1)
theorem aiM(hX:∀j,j<n->X j<256)(p:Nat):∃q,bg X n p=tr q/\Qb q 11:=by
 have hd:(if gE X n p=0 then 1 else gE X n p)≠0:=by split<;>omega
 have e:(if (nV X n p % 2==1)=true then-(cz X n p:Int) else (cz X n p:Int)).natAbs=cz X n p:=by split<;>omega
 have hd2:(if gE X n p=0 then 1 else gE X n p)<4294967296^11:=by
  split
  . exact Nat.one_lt_pow qd qd
  . exact aey hX _
 refine⟨mkRat (if nV X n p % 2==1 then-(cz X n p:Int) else cz X n p) (if gE X n p=0 then 1 else gE X n p), ?_,pJ hd ?_ hd2⟩
 . rw[<-ac0 _ _ hd]
   unfold bg fr;rw[e];refine Prod.ext ?_ rfl
   show (nV X n p % 2==1&&cz X n p != 0)=decide _
   cases nV X n p % 2==1
   . simp
   . clear hd2
     rw[Bool.eq_iff_iff]
     simp
     omega
 . rw[e]
   exact aey hX _
theorem ait(hX:∀j,j<n->X j<256)(p:Nat):∃q,(rt X n p).1=tr q/\Qb q 11:=by
 have h0:=gK hX p;have h1:=gK hX (nP n p);have h2:=gK hX (nP n (nP n p))
 have hf:∀(z:Int) (d:Nat),z.natAbs<4294967296->d≠0->d<4294967296->∃q,fr z d=tr q/\Qb q 11:=fun z d hz hd hd2=>
  ⟨_,ac0 z d hd,(pJ (k:=1) hd (by simpa using hz) (by simpa using hd2)).more om⟩
 unfold rt
 repeat' split
 . exact aiM hX _
 all_goals first | exact hf _ _ om om om | exact hf 0 1 qd qd qd
theorem kg(hX:∀j,j<n->X j<256)(p:Nat):(rt X n p).1=tr (tq (rt X n p).1)/\Qb (tq (rt X n p).1) 11:=by
 obtain⟨q,e,h⟩:=ait hX p;rw[e,agO];exact⟨rfl,h⟩
end
end Go.Proofs.YtclgkofcooibfaaGreatDoor
