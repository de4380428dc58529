import Derived.Test.YtinihjgnnlemmaaGreatDoorOwnP4
import Derived.Deep.RegionHeld3
set_option maxHeartbeats 6400000
set_option maxRecDepth 100000
namespace Go.Proofs.YtinihjgnnlemmaaGreatDoor
open Go.RowKit
variable{w v W V:World}{n m c d i j l o b p q t r s h e:Nat}{u U:Value}
structure eS(w:World)(c:Nat)(x y z:Value):Prop where
 c0:w.cell? ⟨c,0,none⟩=some x
 c1:w.cell? ⟨c,1,none⟩=some y
 c2:w.cell? ⟨c,2,none⟩=some z
 f:∀k,w.frozen? ⟨c,k,none⟩=false
theorem eS.g{x:Value}(h:eS w c x u U):w.cell? (jj c 0)=some x/\w.cell? (jj c 1)=some u/\w.cell? (jj c 2)=some U:=⟨h.c0,h.c1,h.c2⟩
theorem eS.k{x z:Value}(h:eS w n x u z):w.frozen? (jj n 0)=false/\w.frozen? (jj n 1)=false/\w.frozen? (jj n 2)=false:=⟨h.f 0,h.f 1,h.f 2⟩
theorem eS.lt{z:Value}(h:eS w n u U z):n<w.heap.size:=aG _ _ h.c0
theorem eS.new(w:World)(u U z:Value)(t:TypeId):eS (w.alloc (.cells #[u,U,z] t)) w.heap.size u U z:=⟨by simp[go_sem],by simp[go_sem],by simp[go_sem],fun k=>by simp[go_sem]⟩
theorem eS.since{B:Nat}{z:Value}(h:eS w n u U z)(s:w.Since B v)(b:n<B):eS v n u U z:=
 ⟨(s.cell (a:=jj n 0) b).trans h.c0,(s.cell (a:=jj n 1) b).trans h.c1,(s.cell (a:=jj n 2) b).trans h.c2,fun k=>(s.frozen (a:=jj n k) b).trans (h.f k)⟩
theorem eS.aA{w w':World}{z:Value}(h:eS w n u U z)(s:w.S w'):eS w' n u U z:=h.since s h.lt
theorem eS.marked{z:Value}(h:eS w n u U z)(s:eM w v m)(b:n≠m):eS v n u U z:=
 ⟨(s.cell (a:=jj n 0) b).trans h.c0,(s.cell (a:=jj n 1) b).trans h.c1,(s.cell (a:=jj n 2) b).trans h.c2,fun k=>(s.bU (a:=jj n k) b).trans (h.f k)⟩
theorem eS.bE{z:Value}(h:eS w n u U z)(v:Value):eS (w.setCell ⟨n,0,none⟩ v) n v U z:=
 ⟨aQ _ _ _ h.c0,(lM).trans h.c1,(lM).trans h.c2,fun k=>by rw[((eM.refl w n).setCell 0 v).frozen];exact h.f k⟩
theorem eS.bH{z:Value}(h:eS w n u U z)(v:Value):eS (w.setCell ⟨n,1,none⟩ v) n u v z:=
 ⟨(lM).trans h.c0,aQ _ _ _ h.c1,(lM).trans h.c2,fun k=>by rw[((eM.refl w n).setCell 1 v).frozen];exact h.f k⟩
theorem eS.bF{z:Value}(h:eS w n u U z)(v:Value):eS (w.setCell ⟨n,2,none⟩ v) n u U v:=
 ⟨(lM).trans h.c0,(lM).trans h.c1,aQ _ _ _ h.c2,fun k=>by rw[((eM.refl w n).setCell 2 v).frozen];exact h.f k⟩
theorem cb:(Tryz.prog.info? 70).map (·.size)=some 3:=by kernel_rfl
theorem qi{d:Func}{p:Tmp}(h:d.results= #[.cell p 70])(b:Array Value)(w:World)(n:Nat)(u U z:Value)(e:b.getD p undef=.p n 0)(B:eS w n u U z):
 (results d b).run Tryz.prog w=.ok (.agg #[u,U,z]) w:=by
 have f:b[p]?.getD undef=.p n 0:=by simpa using e
 have hl:=run_loadVar_mid (P:=Tryz.prog) w n 0 70 [u,U,z] _ (fun j v a=>by
  rcases j with _ | _ | _ | j
  . simp at a;subst a;exact B.c0
  . simp at a;subst a;exact B.c1
  . simp at a;subst a;exact B.c2
  . simp at a) Tryz.underlying70 rfl cb
 simp[results,h,f,asAddr,hl]
theorem fB{e:Func}{p:Tmp}{T:TypeId}{d:TypeDesc}(h:e.results= #[.cell p T])(l:Tryz.prog.underlying T=some d)(f:d.isRow=true)(g:(Tryz.prog.info? T).map (·.size)=some 3)(b:Array Value)(w:World)(n:Nat)(u U z:Value)
 (i:b.getD p undef=.p n 0)(B:eS w n u U z):(results e b).run Tryz.prog w=.ok (.agg #[u,U,z]) w:=by
 have k:b[p]?.getD undef=.p n 0:=by simpa using i
 have hl:=run_loadVar_mid (P:=Tryz.prog) w n 0 T [u,U,z] d (fun j v a=>by
  rcases j with _ | _ | _ | j
  . simp at a;subst a;exact B.c0
  . simp at a;subst a;exact B.c1
  . simp at a;subst a;exact B.c2
  . simp at a) l f g
 simp[results,h,k,asAddr,hl]
theorem bx(w:World)(u U c d e f g h a:Value):w.S (((w.alloc (.cells #[u,U,c] 70)).alloc (.cells #[d,e,f] 70)).alloc (.cells #[g,h,a] 70))/\(((w.alloc (.cells #[u,U,c] 70)).alloc (.cells #[d,e,f] 70)).alloc (.cells #[g,h,a] 70)).heap.size=w.heap.size+1+1+1/\eS (((w.alloc (.cells #[u,U,c] 70)).alloc (.cells #[d,e,f] 70)).alloc (.cells #[g,h,a] 70)) w.heap.size u U c/\eS (((w.alloc (.cells #[u,U,c] 70)).alloc (.cells #[d,e,f] 70)).alloc (.cells #[g,h,a] 70)) (w.heap.size+1) d e f/\eS (((w.alloc (.cells #[u,U,c] 70)).alloc (.cells #[d,e,f] 70)).alloc (.cells #[g,h,a] 70)) (w.heap.size+1+1) g h a:=by
 refine⟨((fA _ _).alloc qz _).alloc (by simp;omega) _,qz,((eS.new w _ _ _ _).aA (fA _ _)).aA (fA _ _), ?_, ?_⟩
 . have:=(eS.new (w.alloc (.o #[u,U,c] 70)) d e f 70).aA (yD.alloc zR (.o #[g,h,a] 70));simpa using this
 . have:=eS.new ((w.alloc (.o #[u,U,c] 70)).alloc (.o #[d,e,f] 70)) g h a 70;simpa using this
structure ie(w:World)(c:Nat)(x y z u:Value):Prop where
 c0:w.cell? ⟨c,0,none⟩=some x
 c1:w.cell? ⟨c,1,none⟩=some y
 c2:w.cell? ⟨c,2,none⟩=some z
 c3:w.cell? ⟨c,3,none⟩=some u
 f:∀k,w.frozen? ⟨c,k,none⟩=false
theorem ie.g{x a:Value}(h:ie w c x u U a):w.cell? (jj c 0)=some x/\w.cell? (jj c 1)=some u/\w.cell? (jj c 2)=some U/\w.cell? (jj c 3)=some a:=⟨h.c0,h.c1,h.c2,h.c3⟩
theorem ie.k{x z:Value}(h:ie w n x u z U):w.frozen? (jj n 0)=false/\w.frozen? (jj n 1)=false/\w.frozen? (jj n 2)=false/\w.frozen? (jj n 3)=false:=⟨h.f 0,h.f 1,h.f 2,h.f 3⟩
section
variable{w w':World}{c d B:Nat}{x y z u:Value}
theorem ie.lt(h:ie w c x y z u):c<w.heap.size:=aG _ _ h.c0
theorem ie.new(w:World)(u U z a:Value)(t:TypeId):ie (w.alloc (.cells #[u,U,z,a] t)) w.heap.size u U z a:=⟨by simp[go_sem],by simp[go_sem],by simp[go_sem],by simp[go_sem],fun k=>by simp[go_sem]⟩
theorem ie.since(h:ie w c x y z u)(s:w.Since B w')(b:c<B):ie w' c x y z u:=
 ⟨(s.cell (a:=jj c 0) b).trans h.c0,(s.cell (a:=jj c 1) b).trans h.c1,(s.cell (a:=jj c 2) b).trans h.c2,(s.cell (a:=jj c 3) b).trans h.c3,fun k=>(s.frozen (a:=jj c k) b).trans (h.f k)⟩
theorem ie.aA(h:ie w c x y z u)(s:w.S w'):ie w' c x y z u:=h.since s h.lt
theorem ie.bE(h:ie w c x y z u)(U:Value):ie (w.setCell ⟨c,0,none⟩ U) c U y z u:=
 ⟨aQ _ _ _ h.c0,(lM).trans h.c1,(lM).trans h.c2,(lM).trans h.c3,fun k=>by rw[((eM.refl w c).setCell 0 U).frozen];exact h.f k⟩
theorem ie.bH(h:ie w c x y z u)(U:Value):ie (w.setCell ⟨c,1,none⟩ U) c x U z u:=
 ⟨(lM).trans h.c0,aQ _ _ _ h.c1,(lM).trans h.c2,(lM).trans h.c3,fun k=>by rw[((eM.refl w c).setCell 1 U).frozen];exact h.f k⟩
theorem ie.bF(h:ie w c x y z u)(U:Value):ie (w.setCell ⟨c,2,none⟩ U) c x y U u:=
 ⟨(lM).trans h.c0,(lM).trans h.c1,aQ _ _ _ h.c2,(lM).trans h.c3,fun k=>by rw[((eM.refl w c).setCell 2 U).frozen];exact h.f k⟩
theorem ie.bX(h:ie w c x y z u)(U:Value):ie (w.setCell ⟨c,3,none⟩ U) c x y z U:=
 ⟨(lM).trans h.c0,(lM).trans h.c1,(lM).trans h.c2,aQ _ _ _ h.c3,fun k=>by rw[((eM.refl w c).setCell 3 U).frozen];exact h.f k⟩
end
theorem pl{e:Func}{p:Tmp}{T:TypeId}{d:TypeDesc}(h:e.results= #[.cell p T])(l:Tryz.prog.underlying T=some d)(f:d.isRow=true)(g:(Tryz.prog.info? T).map (·.size)=some 4)(b:Array Value)(w:World)(n:Nat)(u U z c:Value)
 (i:b.getD p undef=.p n 0)(B:ie w n u U z c):(results e b).run Tryz.prog w=.ok (.agg #[u,U,z,c]) w:=by
 have k:b[p]?.getD undef=.p n 0:=by simpa using i
 have hl:=run_loadVar_mid (P:=Tryz.prog) w n 0 T [u,U,z,c] d (fun j v a=>by
  rcases j with _ | _ | _ | _ | j
  . simp at a;subst a;exact B.c0
  . simp at a;subst a;exact B.c1
  . simp at a;subst a;exact B.c2
  . simp at a;subst a;exact B.c3
  . simp at a) l f g
 simp[results,h,k,asAddr,hl]
structure ix(w:World)(c:Nat)(x:Value):Prop where
 c0:w.cell? ⟨c,0,none⟩=some x
 f:∀k,w.frozen? ⟨c,k,none⟩=false
section
variable{w w':World}{c d B:Nat}{x:Value}
theorem ix.lt(h:ix w c x):c<w.heap.size:=aG _ _ h.c0
theorem ix.new(w:World)(u:Value)(t:TypeId):ix (w.alloc (.cells #[u] t)) w.heap.size u:=⟨by simp[go_sem],fun k=>by simp[go_sem]⟩
theorem ix.since(h:ix w c x)(s:w.Since B w')(b:c<B):ix w' c x:=⟨(s.cell (a:=jj c 0) b).trans h.c0,fun k=>(s.frozen (a:=jj c k) b).trans (h.f k)⟩
theorem ix.aA(h:ix w c x)(s:w.S w'):ix w' c x:=h.since s h.lt
theorem ix.bE(h:ix w c x)(u:Value):ix (w.setCell ⟨c,0,none⟩ u) c u:=⟨aQ _ _ _ h.c0,fun k=>by rw[((eM.refl w c).setCell 0 u).frozen];exact h.f k⟩
end
theorem acN{e:Func}{p:Tmp}{T:TypeId}{d:TypeDesc}(h:e.results= #[.cell p T])(l:Tryz.prog.underlying T=some d)(f:d.isRow=true)(g:(Tryz.prog.info? T).map (·.size)=some 1)(b:Array Value)(w:World)(n:Nat)(u:Value)
 (i:b.getD p undef=.p n 0)(B:ix w n u):(results e b).run Tryz.prog w=.ok (.agg #[u]) w:=by
 have k:b[p]?.getD undef=.p n 0:=by simpa using i
 have hl:=run_loadVar_mid (P:=Tryz.prog) w n 0 T [u] d (fun j v a=>by
  rcases j with _ | j
  . simp at a;subst a;exact B.c0
  . simp at a) l f g
 simp[results,h,k,asAddr,hl]
structure kh(w:World)(c:Nat)(x y z u v:Value):Prop where
 c0:w.cell? ⟨c,0,none⟩=some x
 c1:w.cell? ⟨c,1,none⟩=some y
 c2:w.cell? ⟨c,2,none⟩=some z
 c3:w.cell? ⟨c,3,none⟩=some u
 c4:w.cell? ⟨c,4,none⟩=some v
 f:∀k,w.frozen? ⟨c,k,none⟩=false
theorem kh.g{x b a:Value}(h:kh w c x u U b a):w.cell? (jj c 0)=some x/\w.cell? (jj c 1)=some u/\w.cell? (jj c 2)=some U/\w.cell? (jj c 3)=some b/\w.cell? (jj c 4)=some a:=⟨h.c0,h.c1,h.c2,h.c3,h.c4⟩
theorem kh.k{x z v:Value}(h:kh w n x u z U v):w.frozen? (jj n 0)=false/\w.frozen? (jj n 1)=false/\w.frozen? (jj n 2)=false/\w.frozen? (jj n 3)=false/\w.frozen? (jj n 4)=false:=⟨h.f 0,h.f 1,h.f 2,h.f 3,h.f 4⟩
section
variable{w w':World}{c d B:Nat}{x y z u v:Value}
theorem kh.new(w:World)(u U z a v:Value)(T:TypeId):kh (w.alloc (.cells #[u,U,z,a,v] T)) w.heap.size u U z a v:=⟨by simp[go_sem],by simp[go_sem],by simp[go_sem],by simp[go_sem],by simp[go_sem],fun k=>by simp[go_sem]⟩
theorem kh.lt(h:kh w c x y z u v):c<w.heap.size:=aG _ _ h.c0
theorem kh.aA(h:kh w c x y z u v)(s:w.S w'):kh w' c x y z u v:=
 ⟨(s.cell (a:=jj c 0) h.lt).trans h.c0,(s.cell (a:=jj c 1) h.lt).trans h.c1,(s.cell (a:=jj c 2) h.lt).trans h.c2,(s.cell (a:=jj c 3) h.lt).trans h.c3,(s.cell (a:=jj c 4) h.lt).trans h.c4,fun k=>(s.frozen (a:=jj c k) h.lt).trans (h.f k)⟩
theorem kh.marked(h:kh w c x y z u v)(s:eM w w' d)(b:c≠d):kh w' c x y z u v:=
 ⟨(s.cell (a:=jj c 0) b).trans h.c0,(s.cell (a:=jj c 1) b).trans h.c1,(s.cell (a:=jj c 2) b).trans h.c2,(s.cell (a:=jj c 3) b).trans h.c3,(s.cell (a:=jj c 4) b).trans h.c4,fun k=>(s.bU (a:=jj c k) b).trans (h.f k)⟩
theorem kh.drew(h:kh w c x y z u v):kh w.drew c x y z u v:=⟨h.c0,h.c1,h.c2,h.c3,h.c4,h.f⟩
theorem kh.bE(h:kh w c x y z u v)(U:Value):kh (w.setCell ⟨c,0,none⟩ U) c U y z u v:=
 ⟨aQ _ _ _ h.c0,(lM).trans h.c1,(lM).trans h.c2,(lM).trans h.c3,(lM).trans h.c4,fun k=>by rw[((eM.refl w c).setCell 0 U).frozen];exact h.f k⟩
theorem kh.bH(h:kh w c x y z u v)(U:Value):kh (w.setCell ⟨c,1,none⟩ U) c x U z u v:=
 ⟨(lM).trans h.c0,aQ _ _ _ h.c1,(lM).trans h.c2,(lM).trans h.c3,(lM).trans h.c4,fun k=>by rw[((eM.refl w c).setCell 1 U).frozen];exact h.f k⟩
theorem kh.bF(h:kh w c x y z u v)(U:Value):kh (w.setCell ⟨c,2,none⟩ U) c x y U u v:=
 ⟨(lM).trans h.c0,(lM).trans h.c1,aQ _ _ _ h.c2,(lM).trans h.c3,(lM).trans h.c4,fun k=>by rw[((eM.refl w c).setCell 2 U).frozen];exact h.f k⟩
theorem kh.bX(h:kh w c x y z u v)(U:Value):kh (w.setCell ⟨c,3,none⟩ U) c x y z U v:=
 ⟨(lM).trans h.c0,(lM).trans h.c1,(lM).trans h.c2,aQ _ _ _ h.c3,(lM).trans h.c4,fun k=>by rw[((eM.refl w c).setCell 3 U).frozen];exact h.f k⟩
theorem kh.dX(h:kh w c x y z u v)(U:Value):kh (w.setCell ⟨c,4,none⟩ U) c x y z u U:=
 ⟨(lM).trans h.c0,(lM).trans h.c1,(lM).trans h.c2,(lM).trans h.c3,aQ _ _ _ h.c4,fun k=>by rw[((eM.refl w c).setCell 4 U).frozen];exact h.f k⟩
end
theorem wP{e:Func}{p:Tmp}{T:TypeId}{d:TypeDesc}(h:e.results= #[.cell p T])(l:Tryz.prog.underlying T=some d)(f:d.isRow=true)(g:(Tryz.prog.info? T).map (·.size)=some 5)(b:Array Value)(w:World)(n:Nat)(u U z c v:Value)
 (i:b.getD p undef=.p n 0)(B:kh w n u U z c v):(results e b).run Tryz.prog w=.ok (.agg #[u,U,z,c,v]) w:=by
 have k:b[p]?.getD undef=.p n 0:=by simpa using i
 have hl:=run_loadVar_mid (P:=Tryz.prog) w n 0 T [u,U,z,c,v] d (fun j q a=>by
  rcases j with _ | _ | _ | _ | _ | j
  . simp at a;subst a;exact B.c0
  . simp at a;subst a;exact B.c1
  . simp at a;subst a;exact B.c2
  . simp at a;subst a;exact B.c3
  . simp at a;subst a;exact B.c4
  . simp at a) l f g
 simp[results,h,k,asAddr,hl]
section
variable{P:Program}{ops:Array Oper}{Q:Exit->Act->World->Prop}{md:Region.Mode}{S:World->Prop}{fuel:Nat}{listed:Array Bool}{a:Act}{w:World}{oi:Oper}{v:Value}
theorem adY(n:Nat)(d:Option Tmp)(u:Value)(j:ops[n]?=some oi)(f:oi.dst=d)(l:Region.noSelect ops=true)(g:Region.free md ops listed n=true)(k:(Region.ready md ops listed).contains n=true)
 (b:∀c a w,Q (.panic c) (a.put d u) w->Q (.panic c) a w)(m:Region.wanted oi (yielded ops a.tmps)=true)(e:S w)(i:∀w,S w->(execOp a.eval oi).run P w=.ok (.value u) w)
 (h:wpAnyH P md ops Q S fuel (listed.setIfInBounds n true) (a.put d u) w):wpAnyH P md ops Q S (fuel+1) listed a w:=by
 subst f;exact wpAnyH_take j l g k b (Or.inl ⟨m,i⟩) e h
theorem amO(n:Nat)(d:Option Tmp)(j:ops[n]?=some oi)(f:oi.dst=d)(l:Region.noSelect ops=true)(g:Region.free md ops listed n=true)(k:(Region.ready md ops listed).contains n=true)
 (b:∀c a w,Q (.panic c) (a.put d undef) w->Q (.panic c) a w)(m:Region.wanted oi (yielded ops a.tmps)=false)(e:S w)
 (h:wpAnyH P md ops Q S fuel (listed.setIfInBounds n true) (a.put d undef) w):wpAnyH P md ops Q S (fuel+1) listed a w:=by
 subst f;exact wpAnyH_take j l g k b (Or.inr ⟨m,rfl⟩) e h
theorem tk(n m:Nat)(u:Value)(h:wpAnyH P md ops Q S fuel (listed.setIfInBounds n true) (a.put (some m) u) w)(k:ops[n]?=some oi:=by rfl)(g:oi.dst=some m:=by kernel_rfl)(d:Region.noSelect ops=true:=by kernel_rfl)(j:Region.free md ops listed n=true:=by kernel_rfl)(l:(Region.ready md ops listed).contains n=true:=by kernel_rfl)
 (b:∀c a w,Q (.panic c) (a.put (some m) u) w->Q (.panic c) a w:=by exact fun _ _ _ h=>h)(i:Region.wanted oi (yielded ops a.tmps)=true:=by kernel_rfl)(e:S w:=by assumption)(o:∀w,S w->(execOp a.eval oi).run P w=.ok (.value u) w:=by (intro _ f;clear f;kernel_rfl)):wpAnyH P md ops Q S (fuel+1) listed a w:=adY n (some m) u k g d j l b i e o h
theorem ta(n m:Nat)(u:Value)(i:∀w,S w->(execOp a.eval oi).run P w=.ok (.value u) w)(h:wpAnyH P md ops Q S fuel (listed.setIfInBounds n true) (a.put (some m) u) w)(j:ops[n]?=some oi:=by rfl)(f:oi.dst=some m:=by kernel_rfl)(l:Region.noSelect ops=true:=by kernel_rfl)(g:Region.free md ops listed n=true:=by kernel_rfl)(k:(Region.ready md ops listed).contains n=true:=by kernel_rfl)
 (b:∀c a w,Q (.panic c) (a.put (some m) u) w->Q (.panic c) a w:=by exact fun _ _ _ h=>h)(d:Region.wanted oi (yielded ops a.tmps)=true:=by kernel_rfl)(e:S w:=by assumption):wpAnyH P md ops Q S (fuel+1) listed a w:=adY n (some m) u j f l g k b d e i h
theorem sk(n m:Nat)(h:wpAnyH P md ops Q S fuel (listed.setIfInBounds n true) (a.put (some m) undef) w)(j:ops[n]?=some oi:=by rfl)(f:oi.dst=some m:=by kernel_rfl)(l:Region.noSelect ops=true:=by kernel_rfl)(g:Region.free md ops listed n=true:=by kernel_rfl)(k:(Region.ready md ops listed).contains n=true:=by kernel_rfl)
 (b:∀c a w,Q (.panic c) (a.put (some m) undef) w->Q (.panic c) a w:=by exact fun _ _ _ h=>h)(d:Region.wanted oi (yielded ops a.tmps)=false:=by kernel_rfl)(e:S w:=by assumption):wpAnyH P md ops Q S (fuel+1) listed a w:=amO n (some m) j f l g k b d e h
theorem kl(n m:Nat){b:Act}(h:wpAnyH P md ops Q S fuel (listed.setIfInBounds n true) b w)(k:ops[n]?=some oi:=by rfl)(i:oi.dst=some m:=by kernel_rfl)(o:Region.noSelect ops=true:=by kernel_rfl)(j:Region.free md ops listed n=true:=by kernel_rfl)(l:(Region.ready md ops listed).contains n=true:=by kernel_rfl)
 (e:∀c a w,Q (.panic c) (a.put (some m) u) w->Q (.panic c) a w:=by exact fun _ _ _ h=>h)(p:Region.wanted oi (yielded ops a.tmps)=true:=by kernel_rfl)(f:S w:=by assumption)(q:∀w,S w->(execOp a.eval oi).run P w=.ok (.value u) w:=by (intro _ g;(try dsimp only at g);first | (go_simp;done) | (go_simp;with_reducible rfl) | kernel_rfl))(d:a.put (some m) u=b:=by (simp only[ap,la,lz,ls];rfl)):wpAnyH P md ops Q S (fuel+1) listed a w:=by subst d;exact adY n (some m) u k i o j l e p f q h
theorem tu(n:Nat){o:Oper}(h:∀b:Act->World->Prop,Shut (∀a w,S w->(S w->wpAnyH P md ops Q S fuel (listed.setIfInBounds n true) a w)->b a w)->if Region.wanted o (yielded ops a.tmps)=true then Oper.wp P o a w b Q else b (a.put o.dst undef) w)(d:Region.ready md ops listed=[n]:=by kernel_rfl)(c:ops[n]?=some o:=by rfl):wpAnyH P md ops Q S (fuel+1) listed a w:=wpAnyH_ready d (by simp) (AllReadyH.cons c h AllReadyH.nil)
theorem ap(a:Act)(n:Nat)(u:Value):a.put (some n) u={ a with tmps:=a.tmps.setIfInBounds n u }:=rfl
theorem la{α:Type}{l:List α}{x:α}:l.toArray.setIfInBounds n x=(l.set n x).toArray:=aR ..
theorem lz{α:Type}{y x:α}{l:List α}:(y::l).set 0 x=x::l:=List.set_cons_zero
theorem ls{α:Type}{y x:α}{l:List α}:(y::l).set (n+1) x=y::l.set n x:=dI
end
theorem eS.cells{a:Value}(h:eS w n u U a):w.cell? (jj n 0)=some u/\w.cell? (jj n 1)=some U/\w.cell? (jj n 2)=some a:=⟨h.c0,h.c1,h.c2⟩
section
variable{P:Program}{ops:Array Oper}{Q:Exit->Act->World->Prop}{md:Region.Mode}{S:World->Prop}{L:Nat}{listed:Array Bool}
def kx(P:Program)(md:Region.Mode)(ops:Array Oper)(Q:Exit->Act->World->Prop)(S:World->Prop)(L:Nat):Nat->Array Bool->Act->World->Prop
 | 0,listed,a,w=>Region.ready md ops listed=[]/\Q .normal a w
 | fuel+1,listed,a,w=>
   (Region.ready md ops listed=[]->Q .normal a w)/\
   ∀i∈Region.ready md ops listed,wpOp P ops Q i (fun a' w'=>(i≠L->S w')/\kx P md ops Q S L fuel (listed.setIfInBounds i true) a' w') a w
theorem ab3:∀(b:Nat) (c:Array Bool) (a:Act) (w:World),kx P md ops Q S L b c a w->wpAny P md ops Q b c a w
 | 0,_,_,_,h=>h
 | b+1,_,_,_,h=>⟨h.1,fun i f=>wpOp_mono (fun d g e=>ab3 b _ d g e.2) (h.2 i f)⟩
def DC(md:Region.Mode)(ops:Array Oper)(listed:Array Bool):Prop:=∀j oj,ops[j]?=some oj->listed.getD j false=true->∀e∈oj.after,Region.binds md e=true->listed.getD e.on false=true
def dcB(md:Region.Mode)(ops:Array Oper)(listed:Array Bool):Bool:=(List.range ops.size).all fun j=> !listed.getD j false ||((ops[j]?).map fun o=>o.after.all fun e=> !Region.binds md e ||listed.getD e.on false).getD true
theorem DC.of(h:dcB md ops listed=true):DC md ops listed:=fun j g c hl e d hb=>by
 have f:j<ops.size:=(dM.1 c).1;have a:=tO.1 h j (dU.2 f);rw[hl,c] at a;simp only[Bool.not_true,Bool.false_or,kJ,gI] at a;have b:=(Array.all_eq_true_iff_forall_mem.1 a) e d;rw[hb] at b
 simpa using b
theorem DC.set(h:DC md ops listed)(g:n∈Region.ready md ops listed):DC md ops (listed.setIfInBounds n true):=fun k i c hl e b hb=>by
 by_cases a:n=k
 . subst a
   obtain⟨-,o,d,f⟩:=mem_ready.1 g;rw[c] at d;cases d;exact getD_set_true (f e b hb)
 . rw[getD_set_ne false a] at hl
   exact getD_set_true (h k i c hl e b hb)
def waits(md:Region.Mode)(ops:Array Oper)(i:Nat):Nat->Nat->Bool
 | 0,_=>false
 | f+1,L=>((ops[L]?).map fun o=>o.after.any fun e=>Region.binds md e&&(e.on==i ||waits md ops i f e.on)).getD false
theorem ab6(c:DC md ops listed):∀f j b,ops[j]?=some b->(∀e∈b.after,Region.binds md e=true->listed.getD e.on false=true)->waits md ops n f j=true->listed.getD n false=true
 | 0,_,_,_,_,h=>by cases h
 | f+1,j,b,hj,hall,h=>by
   simp only[waits,hj,kJ,gI] at h;rw[Array.any_eq_true] at h;obtain⟨x,k,h⟩:=h;generalize g:b.after[x]=e at h;have d:e∈b.after:=g▸Array.getElem_mem k;simp only[fT,jT,jJ] at h;have hl:=hall e d h.1
   rcases h.2 with a | a
   . rw[<-a];exact hl
   . cases hk:ops[e.on]? with
     | none=>
       cases f with
       | zero=>cases a
       | succ f=>simp[waits,hk] at a
     | some ok=>exact ab6 c f e.on ok hk (c e.on ok hk hl) a
theorem xZ{p:Oper}(B:ops[n]?=some p)(K:∀(j:Nat) (o:Oper) q b,ops[j]?=some o->o.op≠ .select q b)
 (U:∀c a w,Q (.panic c) (a.put p.dst u) w->Q (.panic c) a w)(T:waits md ops n m L=true):
 ∀(r:Nat) (d:Array Bool) (a:Act) (w:World),DC md ops d->
  (∀j f,ops[j]?=some f->j≠n->d.getD j true=false->(∀e∈f.after,Region.binds md e=true->e.on≠n)->p.apart ops f=true)->
  n∈Region.ready md ops d->YieldsIf P ops S p u a->S w->
  kx P md ops Q S L r (d.setIfInBounds n true) (a.put p.dst u) w->kx P md ops Q S L (r+1) d a w:=by
 intro r
 induction r with
 | zero=>
   intro d a w _ _ i z s H;refine⟨fun h=>(by rw[h] at i;cases i),fun j t=> ?_⟩;by_cases l:j=n
   . subst l;exact z.wpOp B s ⟨fun _=>s,H⟩
   . have:=ready_mono t l;rw[H.1] at this;cases this
 | succ r ih=>
   intro d a w E F i z s H;refine⟨fun h=>(by rw[h] at i;cases i),fun j t=> ?_⟩;by_cases l:j=n
   . subst l;exact z.wpOp B s ⟨fun _=>s,H⟩
   . have g:=H.2 j (ready_mono t l);obtain⟨I,f,y,D⟩:=mem_ready.1 t;have N:d.getD n false=true->False:=fun g=>by
      have C:=(mem_ready.1 i).1;rcases jI n d.size with A | A
      . simp[A] at C g;rw[C] at g;cases g
      . simp[Array.getElem?_eq_none A] at g
     have ac:∀e∈f.after,Region.binds md e=true->e.on≠n:=fun e V hb W=>N (by have g:=D e V hb;rwa[W] at g);have Y:j≠L:=fun e=>by subst e;exact N (ab6 E m j f y D T)
     have R:=wpOp_putIf y (F j f y l I ac) (fun q b=>K n p q b B) (fun q b=>K j f q b y) U z g
     have X:∀k v,ops[k]?=some v->k≠n->(d.setIfInBounds j true).getD k true=false->
      (∀e∈v.after,Region.binds md e=true->e.on≠n)->p.apart ops v=true:=fun k v Z aa M ab=>by
      refine F k v Z aa ?_ ab;by_cases G:j=k
      . subst G;exact I
      . rw[getD_set_ne true G] at M;exact M
     refine wpOp_mono (fun O w' x=>⟨x.2.1,ih (d.setIfInBounds j true) O w' (E.set t) X (ready_mono i (fL l)) x.1 (x.2.1 Y) ?_⟩) R;rw[Array.setIfInBounds_comm _ _ l];exact x.2.2
theorem aoc{d:Option Tmp}{a:Act}{e:Oper}(g:ops[n]?=some e)(l:e.dst=d)(i:Region.noSelect ops=true)(b:(Region.free md ops listed n&&(Region.ready md ops listed).contains n&&dcB md ops listed&&waits md ops n 20 L)=true)
 (j:∀c a w,Q (.panic c) (a.put d u) w->Q (.panic c) a w)(f:Region.wanted e (yielded ops a.tmps)=true)(k:S w)(o:∀w,S w->(execOp a.eval e).run P w=.ok (.value u) w)
 (h:kx P md ops Q S L m (listed.setIfInBounds n true) (a.put d u) w):kx P md ops Q S L (m+1) listed a w:=by
 subst l;simp only[fT] at b;exact xZ g (Region.noSelect_spec i) j b.2 m listed a w (DC.of b.1.2) (Region.free_spec g b.1.1.1) (by simpa using b.1.1.2) (Or.inl ⟨f,o⟩) k h
theorem aod{a:Act}{o:Oper}(e:Region.ready md ops listed=[n])(l:ops[n]?=some o)
 (h:∀b:Act->World->Prop,Shut (∀a w,(n≠L->S w)->kx P md ops Q S L m (listed.setIfInBounds n true) a w->b a w)->if Region.wanted o (yielded ops a.tmps)=true then Oper.wp P o a w b Q else b (a.put o.dst undef) w):kx P md ops Q S L (m+1) listed a w:=by
 refine⟨fun h=>(by rw[e] at h;cases h),fun j d=> ?_⟩;rw[e] at d;have:j=n:=by simpa using d
 subst this;exact wpOp_step l (fun b f=>h b (fun a w g k=>f a w ⟨g,k⟩))
theorem tX(n m:Nat){a d:Act}{e:Oper}(h:kx P md ops Q S L c (listed.setIfInBounds n true) d w)(g:ops[n]?=some e:=by rfl)(l:e.dst=some m:=by kernel_rfl)(r:Region.noSelect ops=true:=by kernel_rfl)(b:(Region.free md ops listed n&&(Region.ready md ops listed).contains n&&dcB md ops listed&&waits md ops n 20 L)=true:=by kernel_rfl)
 (j:∀i a w,Q (.panic i) (a.put (some m) u) w->Q (.panic i) a w:=by exact fun _ _ _ h=>h)(f:Region.wanted e (yielded ops a.tmps)=true:=by kernel_rfl)(k:S w:=by assumption)(o:∀w,S w->(execOp a.eval e).run P w=.ok (.value u) w:=by (intro _ q;(try dsimp only at q);first | (go_simp;done) | (go_simp;with_reducible rfl) | kernel_rfl))(p:a.put (some m) u=d:=by (simp only[ap,la,lz,ls];rfl)):kx P md ops Q S L (c+1) listed a w:=by
 subst p;exact aoc g l r b j f k o h
theorem uX(n:Nat){a:Act}{o:Oper}(h:∀b:Act->World->Prop,Shut (∀a w,(n≠L->S w)->kx P md ops Q S L m (listed.setIfInBounds n true) a w->b a w)->if Region.wanted o (yielded ops a.tmps)=true then Oper.wp P o a w b Q else b (a.put o.dst undef) w)(e:Region.ready md ops listed=[n]:=by kernel_rfl)(l:ops[n]?=some o:=by rfl):kx P md ops Q S L (m+1) listed a w:=aod e l h
theorem mZ{a:Act}(b:Region.ready md ops listed=[])(h:Q .normal a w):∀c,kx P md ops Q S L c listed a w
 | 0=>⟨b,h⟩
 | _+1=>⟨fun _=>h,by rw[b];simp⟩
theorem jZ(n:Nat)(S:World->Prop){id:Nat}{a:Act}(c:P.follows .mixedOrders=true)(b:S w.drew)
 (h:S w.drew->kx P .any ops Q S n ops.size (Array.replicate ops.size false) a w.drew):(Code.region id ops true).wp P Q a w:=
 wp_region_any c (ab3 _ _ _ _ (h b))
end
section
variable{P:Program}{ops:Array Oper}{Q:Exit->Act->World->Prop}{md:Region.Mode}{S:World->Prop}{L n:Nat}{listed:Array Bool}{w:World}
theorem vX(m c:Nat){a q:Act}{e:Oper}(h:kx P md ops Q S L n (listed.setIfInBounds m true) q w)(g:ops[m]?=some e:=by rfl)(l:e.dst=some c:=by kernel_rfl)(i:Region.noSelect ops=true:=by kernel_rfl)(b:(Region.free md ops listed m&&(Region.ready md ops listed).contains m&&dcB md ops listed&&waits md ops m 20 L)=true:=by kernel_rfl)
 (j:∀d a w,Q (.panic d) (a.put (some c) u) w->Q (.panic d) a w:=by exact fun _ _ _ h=>h)(f:Region.wanted e (yielded ops a.tmps)=true:=by kernel_rfl)(k:S w:=by assumption)(o:∀w,S w->(execOp a.eval e).run P w=.ok (.value u) w:=by (intro _ s;(try dsimp only at s);exact yG))(r:a.put (some c) u=q:=by (simp only[ap,la,lz,ls];rfl)):kx P md ops Q S L (n+1) listed a w:=by
 subst r;exact aoc g l i b j f k o h
theorem kX(m c:Nat){a o:Act}{e:Oper}(h:kx P md ops Q S L n (listed.setIfInBounds m true) o w)(g:ops[m]?=some e:=by rfl)(l:e.dst=some c:=by kernel_rfl)(i:Region.noSelect ops=true:=by kernel_rfl)(b:(Region.free md ops listed m&&(Region.ready md ops listed).contains m&&dcB md ops listed&&waits md ops m 20 L)=true:=by kernel_rfl)
 (j:∀d a w,Q (.panic d) (a.put (some c) undef) w->Q (.panic d) a w:=by exact fun _ _ _ h=>h)(f:Region.wanted e (yielded ops a.tmps)=false:=by kernel_rfl)(k:S w:=by assumption)(p:a.put (some c) undef=o:=by (simp only[ap,la,lz,ls];rfl)):kx P md ops Q S L (n+1) listed a w:=by
 subst p;rw[<-l] at j;simp only[fT] at b;exact xZ g (Region.noSelect_spec i) j b.2 n listed a w (DC.of b.1.2) (Region.free_spec g b.1.1.1) (by simpa using b.1.1.2) (Or.inr ⟨f,rfl⟩) k (by rw[l];exact h)
theorem sX(m:Nat){a:Act}{o:Oper}(h:∀b:Act->World->Prop,Shut (∀a w,(m≠L->S w)->kx P md ops Q S L n (listed.setIfInBounds m true) a w->b a w)->if Region.wanted o (yielded ops a.tmps)=true then Oper.wp P o a w b Q else b (a.put o.dst undef) w)(e:Region.ready md ops listed=[m]:=by kernel_rfl)(l:ops[m]?=some o:=by rfl):kx P md ops Q S L (n+1) listed a w:=aod e l h
end
end Go.Proofs.YtinihjgnnlemmaaGreatDoor
