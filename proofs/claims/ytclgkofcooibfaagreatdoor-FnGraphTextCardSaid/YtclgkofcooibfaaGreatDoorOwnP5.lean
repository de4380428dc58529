import Derived.Test.YtclgkofcooibfaaGreatDoorOwnP4
import Derived.Deep.RegionHeld3
set_option maxHeartbeats 6400000
set_option maxRecDepth 100000
namespace Go.Proofs.YtclgkofcooibfaaGreatDoor
open Go.RowKit
structure bj(w:World)(c:Nat)(x y z:Value):Prop where
 c0:w.cell? ⟨c,0,none⟩=some x
 c1:w.cell? ⟨c,1,none⟩=some y
 c2:w.cell? ⟨c,2,none⟩=some z
 f:∀k,w.frozen? ⟨c,k,none⟩=false
theorem bj.g{w:World}{c:Nat}{x y z:Value}(h:bj w c x y z):w.cell? (jj c 0)=some x/\w.cell? (jj c 1)=some y/\w.cell? (jj c 2)=some z:=⟨h.c0,h.c1,h.c2⟩
theorem bj.k{w:World}{c:Nat}{x y z:Value}(h:bj w c x y z):w.frozen? (jj c 0)=false/\w.frozen? (jj c 1)=false/\w.frozen? (jj c 2)=false:=⟨h.f 0,h.f 1,h.f 2⟩
theorem bj.lt{w:World}{c:Nat}{x y z:Value}(h:bj w c x y z):c<w.heap.size:=gz _ _ h.c0
theorem bj.new(w:World)(x y z:Value)(t:TypeId):bj (w.alloc (.cells #[x,y,z] t)) w.heap.size x y z:=⟨by simp[go_sem],by simp[go_sem],by simp[go_sem],fun k=>by simp[go_sem]⟩
theorem bj.since{w w':World}{c B:Nat}{x y z:Value}(h:bj w c x y z)(s:w.Since B w')(hc:c<B):bj w' c x y z:=
 ⟨(s.cell (a:=jj c 0) hc).trans h.c0,(s.cell (a:=jj c 1) hc).trans h.c1,(s.cell (a:=jj c 2) hc).trans h.c2,fun k=>(s.frozen (a:=jj c k) hc).trans (h.f k)⟩
theorem bj.aA{w w':World}{c:Nat}{x y z:Value}(h:bj w c x y z)(s:w.S w'):bj w' c x y z:=h.since s h.lt
theorem bj.marked{w w':World}{c d:Nat}{x y z:Value}(h:bj w c x y z)(s:af w w' d)(hc:c≠d):bj w' c x y z:=
 ⟨(s.cell (a:=jj c 0) hc).trans h.c0,(s.cell (a:=jj c 1) hc).trans h.c1,(s.cell (a:=jj c 2) hc).trans h.c2,fun k=>(s.aQ (a:=jj c k) hc).trans (h.f k)⟩
theorem bj.aE{w:World}{c:Nat}{x y z:Value}(h:bj w c x y z)(v:Value):bj (w.setCell ⟨c,0,none⟩ v) c v y z:=
 ⟨j6 _ _ _ h.c0,(fJ).trans h.c1,(fJ).trans h.c2,fun k=>by rw[((af.refl w c).setCell 0 v).frozen];exact h.f k⟩
theorem bj.aG{w:World}{c:Nat}{x y z:Value}(h:bj w c x y z)(v:Value):bj (w.setCell ⟨c,1,none⟩ v) c x v z:=
 ⟨(fJ).trans h.c0,j6 _ _ _ h.c1,(fJ).trans h.c2,fun k=>by rw[((af.refl w c).setCell 1 v).frozen];exact h.f k⟩
theorem bj.aF{w:World}{c:Nat}{x y z:Value}(h:bj w c x y z)(v:Value):bj (w.setCell ⟨c,2,none⟩ v) c x y v:=
 ⟨(fJ).trans h.c0,(fJ).trans h.c1,j6 _ _ _ h.c2,fun k=>by rw[((af.refl w c).setCell 2 v).frozen];exact h.f k⟩
theorem tF:(Tryz.prog.info? 44).map (·.size)=some 3:=by kernel_rfl
theorem mu{fn:Func}{p:Tmp}(h:fn.results= #[.cell p 44])(tmps:Array Value)(w:World)(c:Nat)(x y z:Value)(hp:tmps.getD p undef=.p c 0)(B:bj w c x y z):
 (results fn tmps).run Tryz.prog w=.ok (.agg #[x,y,z]) w:=by
 have hp':tmps[p]?.getD undef=.p c 0:=by simpa using hp
 have hl:=run_loadVar_mid (P:=Tryz.prog) w c 0 44 [x,y,z] _ (fun j v hv=>by
  rcases j with _ | _ | _ | j
  . simp at hv;subst hv;exact B.c0
  . simp at hv;subst hv;exact B.c1
  . simp at hv;subst hv;exact B.c2
  . simp at hv) Tryz.underlying44 rfl tF
 simp[results,h,hp',asAddr,hl]
theorem bx(w:World)(x1 x2 x3 y1 y2 y3 z1 z2 z3:Value):w.S (((w.alloc (.cells #[x1,x2,x3] 44)).alloc (.cells #[y1,y2,y3] 44)).alloc (.cells #[z1,z2,z3] 44))/\(((w.alloc (.cells #[x1,x2,x3] 44)).alloc (.cells #[y1,y2,y3] 44)).alloc (.cells #[z1,z2,z3] 44)).heap.size=w.heap.size+1+1+1/\bj (((w.alloc (.cells #[x1,x2,x3] 44)).alloc (.cells #[y1,y2,y3] 44)).alloc (.cells #[z1,z2,z3] 44)) w.heap.size x1 x2 x3/\bj (((w.alloc (.cells #[x1,x2,x3] 44)).alloc (.cells #[y1,y2,y3] 44)).alloc (.cells #[z1,z2,z3] 44)) (w.heap.size+1) y1 y2 y3/\bj (((w.alloc (.cells #[x1,x2,x3] 44)).alloc (.cells #[y1,y2,y3] 44)).alloc (.cells #[z1,z2,z3] 44)) (w.heap.size+1+1) z1 z2 z3:=by
 refine⟨((bJ _ _).alloc qz _).alloc (by simp;omega) _,qz,((bj.new w _ _ _ _).aA (bJ _ _)).aA (bJ _ _), ?_, ?_⟩
 . have:=(bj.new (w.alloc (.cells #[x1,x2,x3] 44)) y1 y2 y3 44).aA ((eg _ _).alloc (Nat.le_refl _) (.cells #[z1,z2,z3] 44))
   simpa using this
 . have:=bj.new ((w.alloc (.cells #[x1,x2,x3] 44)).alloc (.cells #[y1,y2,y3] 44)) z1 z2 z3 44
   simpa using this
structure dG(w:World)(c:Nat)(x y z u:Value):Prop where
 c0:w.cell? ⟨c,0,none⟩=some x
 c1:w.cell? ⟨c,1,none⟩=some y
 c2:w.cell? ⟨c,2,none⟩=some z
 c3:w.cell? ⟨c,3,none⟩=some u
 f:∀k,w.frozen? ⟨c,k,none⟩=false
theorem dG.g{w:World}{c:Nat}{x y z u:Value}(h:dG w c x y z u):w.cell? (jj c 0)=some x/\w.cell? (jj c 1)=some y/\w.cell? (jj c 2)=some z/\w.cell? (jj c 3)=some u:=⟨h.c0,h.c1,h.c2,h.c3⟩
theorem dG.k{w:World}{c:Nat}{x y z u:Value}(h:dG w c x y z u):w.frozen? (jj c 0)=false/\w.frozen? (jj c 1)=false/\w.frozen? (jj c 2)=false/\w.frozen? (jj c 3)=false:=⟨h.f 0,h.f 1,h.f 2,h.f 3⟩
section
variable{w w':World}{c d B:Nat}{x y z u:Value}
theorem dG.lt(h:dG w c x y z u):c<w.heap.size:=gz _ _ h.c0
theorem dG.new(w:World)(x y z u:Value)(t:TypeId):dG (w.alloc (.cells #[x,y,z,u] t)) w.heap.size x y z u:=⟨by simp[go_sem],by simp[go_sem],by simp[go_sem],by simp[go_sem],fun k=>by simp[go_sem]⟩
theorem dG.since(h:dG w c x y z u)(s:w.Since B w')(hc:c<B):dG w' c x y z u:=
 ⟨(s.cell (a:=jj c 0) hc).trans h.c0,(s.cell (a:=jj c 1) hc).trans h.c1,(s.cell (a:=jj c 2) hc).trans h.c2,(s.cell (a:=jj c 3) hc).trans h.c3,fun k=>(s.frozen (a:=jj c k) hc).trans (h.f k)⟩
theorem dG.aA(h:dG w c x y z u)(s:w.S w'):dG w' c x y z u:=h.since s h.lt
theorem dG.aE(h:dG w c x y z u)(v:Value):dG (w.setCell ⟨c,0,none⟩ v) c v y z u:=
 ⟨j6 _ _ _ h.c0,(fJ).trans h.c1,(fJ).trans h.c2,(fJ).trans h.c3,fun k=>by rw[((af.refl w c).setCell 0 v).frozen];exact h.f k⟩
theorem dG.aG(h:dG w c x y z u)(v:Value):dG (w.setCell ⟨c,1,none⟩ v) c x v z u:=
 ⟨(fJ).trans h.c0,j6 _ _ _ h.c1,(fJ).trans h.c2,(fJ).trans h.c3,fun k=>by rw[((af.refl w c).setCell 1 v).frozen];exact h.f k⟩
theorem dG.aF(h:dG w c x y z u)(v:Value):dG (w.setCell ⟨c,2,none⟩ v) c x y v u:=
 ⟨(fJ).trans h.c0,(fJ).trans h.c1,j6 _ _ _ h.c2,(fJ).trans h.c3,fun k=>by rw[((af.refl w c).setCell 2 v).frozen];exact h.f k⟩
theorem dG.aK(h:dG w c x y z u)(v:Value):dG (w.setCell ⟨c,3,none⟩ v) c x y z v:=
 ⟨(fJ).trans h.c0,(fJ).trans h.c1,(fJ).trans h.c2,j6 _ _ _ h.c3,fun k=>by rw[((af.refl w c).setCell 3 v).frozen];exact h.f k⟩
end
theorem vD{fn:Func}{p:Tmp}{T:TypeId}{d:TypeDesc}(h:fn.results= #[.cell p T])(hu:Tryz.prog.underlying T=some d)(hd:d.isRow=true)(hi:(Tryz.prog.info? T).map (·.size)=some 4)(tmps:Array Value)(w:World)(c:Nat)(x y z u:Value)
 (hp:tmps.getD p undef=.p c 0)(B:dG w c x y z u):(results fn tmps).run Tryz.prog w=.ok (.agg #[x,y,z,u]) w:=by
 have hp':tmps[p]?.getD undef=.p c 0:=by simpa using hp
 have hl:=run_loadVar_mid (P:=Tryz.prog) w c 0 T [x,y,z,u] d (fun j v hv=>by
  rcases j with _ | _ | _ | _ | j
  . simp at hv;subst hv;exact B.c0
  . simp at hv;subst hv;exact B.c1
  . simp at hv;subst hv;exact B.c2
  . simp at hv;subst hv;exact B.c3
  . simp at hv) hu hd hi
 simp[results,h,hp',asAddr,hl]
structure iX(w:World)(c:Nat)(x:Value):Prop where
 c0:w.cell? ⟨c,0,none⟩=some x
 f:∀k,w.frozen? ⟨c,k,none⟩=false
section
variable{w w':World}{c d B:Nat}{x:Value}
theorem iX.lt(h:iX w c x):c<w.heap.size:=gz _ _ h.c0
theorem iX.new(w:World)(x:Value)(t:TypeId):iX (w.alloc (.cells #[x] t)) w.heap.size x:=⟨by simp[go_sem],fun k=>by simp[go_sem]⟩
theorem iX.since(h:iX w c x)(s:w.Since B w')(hc:c<B):iX w' c x:=⟨(s.cell (a:=jj c 0) hc).trans h.c0,fun k=>(s.frozen (a:=jj c k) hc).trans (h.f k)⟩
theorem iX.aA(h:iX w c x)(s:w.S w'):iX w' c x:=h.since s h.lt
end
theorem afe:(Tryz.prog.info? 182).map (·.size)=some 4:=by kernel_rfl
structure dc(w:World)(c:Nat)(x y z u v:Value):Prop where
 c0:w.cell? ⟨c,0,none⟩=some x
 c1:w.cell? ⟨c,1,none⟩=some y
 c2:w.cell? ⟨c,2,none⟩=some z
 c3:w.cell? ⟨c,3,none⟩=some u
 c4:w.cell? ⟨c,4,none⟩=some v
 f:∀k,w.frozen? ⟨c,k,none⟩=false
theorem dc.g{w:World}{c:Nat}{x y z u v:Value}(h:dc w c x y z u v):w.cell? (jj c 0)=some x/\w.cell? (jj c 1)=some y/\w.cell? (jj c 2)=some z/\w.cell? (jj c 3)=some u/\w.cell? (jj c 4)=some v:=⟨h.c0,h.c1,h.c2,h.c3,h.c4⟩
theorem dc.k{w:World}{c:Nat}{x y z u v:Value}(h:dc w c x y z u v):w.frozen? (jj c 0)=false/\w.frozen? (jj c 1)=false/\w.frozen? (jj c 2)=false/\w.frozen? (jj c 3)=false/\w.frozen? (jj c 4)=false:=⟨h.f 0,h.f 1,h.f 2,h.f 3,h.f 4⟩
section
variable{w w':World}{c d B:Nat}{x y z u v:Value}
theorem dc.new(w:World)(x y z u v:Value)(T:TypeId):dc (w.alloc (.cells #[x,y,z,u,v] T)) w.heap.size x y z u v:=⟨by simp[go_sem],by simp[go_sem],by simp[go_sem],by simp[go_sem],by simp[go_sem],fun k=>by simp[go_sem]⟩
theorem dc.lt(h:dc w c x y z u v):c<w.heap.size:=gz _ _ h.c0
theorem dc.aA(h:dc w c x y z u v)(s:w.S w'):dc w' c x y z u v:=
 ⟨(s.cell (a:=jj c 0) h.lt).trans h.c0,(s.cell (a:=jj c 1) h.lt).trans h.c1,(s.cell (a:=jj c 2) h.lt).trans h.c2,(s.cell (a:=jj c 3) h.lt).trans h.c3,(s.cell (a:=jj c 4) h.lt).trans h.c4,fun k=>(s.frozen (a:=jj c k) h.lt).trans (h.f k)⟩
theorem dc.marked(h:dc w c x y z u v)(s:af w w' d)(hc:c≠d):dc w' c x y z u v:=
 ⟨(s.cell (a:=jj c 0) hc).trans h.c0,(s.cell (a:=jj c 1) hc).trans h.c1,(s.cell (a:=jj c 2) hc).trans h.c2,(s.cell (a:=jj c 3) hc).trans h.c3,(s.cell (a:=jj c 4) hc).trans h.c4,fun k=>(s.aQ (a:=jj c k) hc).trans (h.f k)⟩
theorem dc.drew(h:dc w c x y z u v):dc w.drew c x y z u v:=⟨h.c0,h.c1,h.c2,h.c3,h.c4,h.f⟩
theorem dc.aE(h:dc w c x y z u v)(q:Value):dc (w.setCell ⟨c,0,none⟩ q) c q y z u v:=
 ⟨j6 _ _ _ h.c0,(fJ).trans h.c1,(fJ).trans h.c2,(fJ).trans h.c3,(fJ).trans h.c4,fun k=>by rw[((af.refl w c).setCell 0 q).frozen];exact h.f k⟩
theorem dc.aG(h:dc w c x y z u v)(q:Value):dc (w.setCell ⟨c,1,none⟩ q) c x q z u v:=
 ⟨(fJ).trans h.c0,j6 _ _ _ h.c1,(fJ).trans h.c2,(fJ).trans h.c3,(fJ).trans h.c4,fun k=>by rw[((af.refl w c).setCell 1 q).frozen];exact h.f k⟩
theorem dc.aF(h:dc w c x y z u v)(q:Value):dc (w.setCell ⟨c,2,none⟩ q) c x y q u v:=
 ⟨(fJ).trans h.c0,(fJ).trans h.c1,j6 _ _ _ h.c2,(fJ).trans h.c3,(fJ).trans h.c4,fun k=>by rw[((af.refl w c).setCell 2 q).frozen];exact h.f k⟩
theorem dc.aK(h:dc w c x y z u v)(q:Value):dc (w.setCell ⟨c,3,none⟩ q) c x y z q v:=
 ⟨(fJ).trans h.c0,(fJ).trans h.c1,(fJ).trans h.c2,j6 _ _ _ h.c3,(fJ).trans h.c4,fun k=>by rw[((af.refl w c).setCell 3 q).frozen];exact h.f k⟩
theorem dc.aS(h:dc w c x y z u v)(q:Value):dc (w.setCell ⟨c,4,none⟩ q) c x y z u q:=
 ⟨(fJ).trans h.c0,(fJ).trans h.c1,(fJ).trans h.c2,(fJ).trans h.c3,j6 _ _ _ h.c4,fun k=>by rw[((af.refl w c).setCell 4 q).frozen];exact h.f k⟩
end
theorem kh{fn:Func}{p:Tmp}{T:TypeId}{d:TypeDesc}(h:fn.results= #[.cell p T])(hu:Tryz.prog.underlying T=some d)(hd:d.isRow=true)(hi:(Tryz.prog.info? T).map (·.size)=some 5)(tmps:Array Value)(w:World)(c:Nat)(x y z u v:Value)
 (hp:tmps.getD p undef=.p c 0)(B:dc w c x y z u v):(results fn tmps).run Tryz.prog w=.ok (.agg #[x,y,z,u,v]) w:=by
 have hp':tmps[p]?.getD undef=.p c 0:=by simpa using hp
 have hl:=run_loadVar_mid (P:=Tryz.prog) w c 0 T [x,y,z,u,v] d (fun j q hv=>by
  rcases j with _ | _ | _ | _ | _ | j
  . simp at hv;subst hv;exact B.c0
  . simp at hv;subst hv;exact B.c1
  . simp at hv;subst hv;exact B.c2
  . simp at hv;subst hv;exact B.c3
  . simp at hv;subst hv;exact B.c4
  . simp at hv) hu hd hi
 simp[results,h,hp',asAddr,hl]
section
variable{P:Program}{ops:Array Oper}{Q:Exit->Act->World->Prop}{md:Region.Mode}{S:World->Prop}{fuel:Nat}{listed:Array Bool}{a:Act}{w:World}{oi:Oper}{v:Value}
theorem ci(i:Nat)(d:Option Tmp)(v:Value)(hi:ops[i]?=some oi)(hd:oi.dst=d)(hs:Region.noSelect ops=true)(hf:Region.free md ops listed i=true)(hr:(Region.ready md ops listed).contains i=true)
 (hQ:∀c a w,Q (.panic c) (a.put d v) w->Q (.panic c) a w)(hw:Region.wanted oi (yielded ops a.tmps)=true)(hS:S w)(hy:∀w,S w->(execOp a.eval oi).run P w=.ok (.value v) w)
 (h:wpAnyH P md ops Q S fuel (listed.setIfInBounds i true) (a.put d v) w):wpAnyH P md ops Q S (fuel+1) listed a w:=by
 subst hd;exact wpAnyH_take hi hs hf hr hQ (Or.inl ⟨hw,hy⟩) hS h
theorem nI(i:Nat)(d:Option Tmp)(hi:ops[i]?=some oi)(hd:oi.dst=d)(hs:Region.noSelect ops=true)(hf:Region.free md ops listed i=true)(hr:(Region.ready md ops listed).contains i=true)
 (hQ:∀c a w,Q (.panic c) (a.put d undef) w->Q (.panic c) a w)(hw:Region.wanted oi (yielded ops a.tmps)=false)(hS:S w)
 (h:wpAnyH P md ops Q S fuel (listed.setIfInBounds i true) (a.put d undef) w):wpAnyH P md ops Q S (fuel+1) listed a w:=by
 subst hd;exact wpAnyH_take hi hs hf hr hQ (Or.inr ⟨hw,rfl⟩) hS h
theorem tk(i d:Nat)(v:Value)(h:wpAnyH P md ops Q S fuel (listed.setIfInBounds i true) (a.put (some d) v) w)(hi:ops[i]?=some oi:=by rfl)(hd:oi.dst=some d:=by kernel_rfl)(hs:Region.noSelect ops=true:=by kernel_rfl)(hf:Region.free md ops listed i=true:=by kernel_rfl)(hr:(Region.ready md ops listed).contains i=true:=by kernel_rfl)
 (hQ:∀c a w,Q (.panic c) (a.put (some d) v) w->Q (.panic c) a w:=by exact fun _ _ _ h=>h)(hw:Region.wanted oi (yielded ops a.tmps)=true:=by kernel_rfl)(hS:S w:=by assumption)(hy:∀w,S w->(execOp a.eval oi).run P w=.ok (.value v) w:=by (intro _ hSw;clear hSw;kernel_rfl)):wpAnyH P md ops Q S (fuel+1) listed a w:=ci i (some d) v hi hd hs hf hr hQ hw hS hy h
theorem ta(i d:Nat)(v:Value)(hy:∀w,S w->(execOp a.eval oi).run P w=.ok (.value v) w)(h:wpAnyH P md ops Q S fuel (listed.setIfInBounds i true) (a.put (some d) v) w)(hi:ops[i]?=some oi:=by rfl)(hd:oi.dst=some d:=by kernel_rfl)(hs:Region.noSelect ops=true:=by kernel_rfl)(hf:Region.free md ops listed i=true:=by kernel_rfl)(hr:(Region.ready md ops listed).contains i=true:=by kernel_rfl)
 (hQ:∀c a w,Q (.panic c) (a.put (some d) v) w->Q (.panic c) a w:=by exact fun _ _ _ h=>h)(hw:Region.wanted oi (yielded ops a.tmps)=true:=by kernel_rfl)(hS:S w:=by assumption):wpAnyH P md ops Q S (fuel+1) listed a w:=ci i (some d) v hi hd hs hf hr hQ hw hS hy h
theorem sk(i d:Nat)(h:wpAnyH P md ops Q S fuel (listed.setIfInBounds i true) (a.put (some d) undef) w)(hi:ops[i]?=some oi:=by rfl)(hd:oi.dst=some d:=by kernel_rfl)(hs:Region.noSelect ops=true:=by kernel_rfl)(hf:Region.free md ops listed i=true:=by kernel_rfl)(hr:(Region.ready md ops listed).contains i=true:=by kernel_rfl)
 (hQ:∀c a w,Q (.panic c) (a.put (some d) undef) w->Q (.panic c) a w:=by exact fun _ _ _ h=>h)(hw:Region.wanted oi (yielded ops a.tmps)=false:=by kernel_rfl)(hS:S w:=by assumption):wpAnyH P md ops Q S (fuel+1) listed a w:=nI i (some d) hi hd hs hf hr hQ hw hS h
theorem ap(a:Act)(d:Nat)(v:Value):a.put (some d) v={ a with tmps:=a.tmps.setIfInBounds d v }:=rfl
theorem la{α:Type}{l:List α}{i:Nat}{x:α}:l.toArray.setIfInBounds i x=(l.set i x).toArray:=List.setIfInBounds_toArray ..
theorem lz{α:Type}{y x:α}{l:List α}:(y::l).set 0 x=x::l:=List.set_cons_zero
theorem ls{α:Type}{y x:α}{l:List α}{n:Nat}:(y::l).set (n+1) x=y::l.set n x:=List.set_cons_succ
end
theorem bj.cells{w:World}{c:Nat}{x y z:Value}(h:bj w c x y z):w.cell? (jj c 0)=some x/\w.cell? (jj c 1)=some y/\w.cell? (jj c 2)=some z:=⟨h.c0,h.c1,h.c2⟩
end Go.Proofs.YtclgkofcooibfaaGreatDoor
