import Derived.Test.YtclgkofcooibfaaGreatDoorOwnP5
import Derived.Deep.AppendLies
set_option maxHeartbeats 6400000
set_option maxRecDepth 100000
namespace Go.Proofs.YtclgkofcooibfaaGreatDoor
open Go.RowKit
theorem ag0:∃i,Tryz.prog.info? 115=some i/\i.zero=some (.pointer none)/\i.size=1/\i.bytes=8:=by
 have h:(Tryz.prog.info? 115).map (fun i=>(i.zero,i.size,i.bytes))=some (some (.pointer none),1,8):=by kernel_rfl
 obtain⟨i,hi,h⟩:=Option.map_eq_some_iff.1 h;simp only[Prod.mk.injEq] at h;exact⟨i,hi,h.1,h.2.1,h.2.2⟩
def aaW(c:Nat)(fs:List Nat):List Value:=fs.map fun f=>.pointer (some ⟨c,f,none⟩)
theorem dc.blk{w w':World}{c:Nat}{x y z u v:Value}(h:dc w c x y z u v)(hb:w'.heap[c]?=w.heap[c]?):dc w' c x y z u v:=
 have H:=fun k=>fa (a:=jj c k) hb
 ⟨(H 0).trans h.c0,(H 1).trans h.c1,(H 2).trans h.c2,(H 3).trans h.c3,(H 4).trans h.c4,fun k=>(wW (a:=jj c k) hb).trans (h.f k)⟩
def agz(ub uk us:Bool):List Nat:=1::((if ub then [2] else [])++((if uk then [3] else [])++(if us then [4] else [])))
theorem itE{p:Prop}(h:p:=by
 have b1:=B.c1;have b2:=B.c2;have b3:=B.c3;go_wp2;go_ret;exact⟨_,_,rfl,O,S⟩):p:=h
theorem it4{p:Prop}(h:p:=by
 have b1:=B.c1;have b2:=B.c2;have b3:=B.c3
 go_wp2_with (at_builtin;refine wpList_append_own_at _ rfl _ _ 112 rfl (w.heap.size+1) 115 i0 (.pointer none) 1 8 Tryz.underlying112 hi hz0 hz1 hz2 rfl qd _ _ _ rfl (O.alloc _) ⟨w1.heap.size,0,none⟩ 1 1 [.pointer (some ⟨c,4,none⟩)] rfl rfl (bO _ _ _) (bZ _ rfl) qd qd (by simp<;>omega) ?_)
 intro v5 w5 ho5 hg5 _ hat5;obtain⟨g5,k5,rfl,x5,y5⟩:=ho5.form om;have l:=B.lt;have hb:w5.heap[w.heap.size]?=w1.heap[w.heap.size]?:=(hg5.block w.heap.size (by simp;omega) (fun e=>by have:=(O.lt w.heap.size e.symm).1;omega)).trans (((eg w1.heap.size w1).alloc (Nat.le_refl _) _).block _ l);have S:=(S.alloc S.size _).grown hg5 (by simp;omega) (fun q hq=>by have:=(O.lt q hq).1;omega);have B:=B.blk hb;have O:=ho5;have z1:w.heap.size<w5.heap.size:=by have:=S.size;have:=B.lt;omega
 clear hg5 hat5 b1 b2 b3 ho5 hb l;generalize w5=w1 at*;exact itE):p:=h
theorem itS{p:Prop}(h:p:=by
 cases us
 . exact itE
 . exact it4):p:=h
theorem it3{p:Prop}(h:p:=by
 have b1:=B.c1;have b2:=B.c2;have b3:=B.c3
 go_wp2_with (at_builtin;refine wpList_append_own_at _ rfl _ _ 112 rfl (w.heap.size+1) 115 i0 (.pointer none) 1 8 Tryz.underlying112 hi hz0 hz1 hz2 rfl qd _ _ _ rfl (O.alloc _) (jj w1.heap.size 0) 1 1 [.p c 3] rfl rfl (bO _ _ _) (bZ _ rfl) qd qd (by simp<;>omega) ?_)
 intro v5 w5 ho5 hg5 _ hat5;obtain⟨g5,k5,rfl,x5,y5⟩:=ho5.form om;have l:=B.lt;have hb:w5.heap[w.heap.size]?=w1.heap[w.heap.size]?:=(hg5.block w.heap.size (by simp;omega) (fun e=>by have:=(O.lt w.heap.size e.symm).1;omega)).trans (((eg w1.heap.size w1).alloc (Nat.le_refl _) _).block _ l);have S:=(S.alloc S.size _).grown hg5 (by simp;omega) (fun q hq=>by have:=(O.lt q hq).1;omega);have B:=B.blk hb;have O:=ho5;have z1:w.heap.size<w5.heap.size:=by have:=S.size;have:=B.lt;omega
 clear hg5 hat5 b1 b2 b3 ho5 hb l;generalize w5=w1 at*;exact itS):p:=h
theorem itK{p:Prop}(h:p:=by
 cases uk
 . exact itS
 . exact it3):p:=h
theorem it2{p:Prop}(h:p:=by
 have b1:=B.c1;have b2:=B.c2;have b3:=B.c3
 go_wp2_with (at_builtin;refine wpList_append_own_at _ rfl _ _ 112 rfl (w.heap.size+1) 115 i0 (.pointer none) 1 8 Tryz.underlying112 hi hz0 hz1 hz2 rfl qd _ _ _ rfl (O.alloc _) (jj w1.heap.size 0) 1 1 [.p c 2] rfl rfl (bO _ _ _) (bZ _ rfl) qd qd (by simp<;>omega) ?_)
 intro v5 w5 ho5 hg5 _ hat5;obtain⟨g5,k5,rfl,x5,y5⟩:=ho5.form om;have l:=B.lt;have hb:w5.heap[w.heap.size]?=w1.heap[w.heap.size]?:=(hg5.block w.heap.size (by simp;omega) (fun e=>by have:=(O.lt w.heap.size e.symm).1;omega)).trans (((eg w1.heap.size w1).alloc (Nat.le_refl _) _).block _ l);have S:=(S.alloc S.size _).grown hg5 (by simp;omega) (fun q hq=>by have:=(O.lt q hq).1;omega);have B:=B.blk hb;have O:=ho5;have z1:w.heap.size<w5.heap.size:=by have:=S.size;have:=B.lt;omega
 clear hg5 hat5 b1 b2 b3 ho5 hb l;generalize w5=w1 at*;exact itK):p:=h
theorem jD{op:Int}{ub uk us:Bool}{nums:Int}{c:Nat}{w:World}:
 Cl 65 #[.agg #[.i op,.bool ub,.bool uk,.bool us,.i nums],.p c 0] w fun e w'=>∃g cap,e=.returned (.s g (agz ub uk us).length cap)/\w'.ownsRow (w.heap.size+1) 115 1 (.s g (agz ub uk us).length cap) (agz ub uk us).length (aaW c (agz ub uk us))/\w.S w':=by
 obtain⟨i0,hi,hz0,hz1,hz2⟩:=ag0;have sA:=bJ w (.cells #[.i op,.bool ub,.bool uk,.bool us,.i nums] 70);have zA:(w.alloc (.cells #[.i op,.bool ub,.bool uk,.bool us,.i nums] 70)).heap.size=w.heap.size+1:=by simp
 have sB:=(eg (w.alloc (.cells #[.i op,.bool ub,.bool uk,.bool us,.i nums] 70)).heap.size (w.alloc (.cells #[.i op,.bool ub,.bool uk,.bool us,.i nums] 70))).alloc (Nat.le_refl _) (.cells #[.p c 1] 115);have B:=(dc.new w (.i op) (.bool ub) (.bool uk) (.bool us) (.i nums) 70).aA sB;have O:=World.ownsRow_lit (base:=w.heap.size+1) (size:=1) (e:=115) (w.alloc (.cells #[.i op,.bool ub,.bool uk,.bool us,.i nums] 70)) #[.p c 1] 1 om qd rfl;have S:=sA.tr sB;have z1:=sB.size;rw[zA] at O z1;clear sA sB zA;go_enter Tryz.func65,Tryz.ntmps65
 go_upto_region 2 with fail
 generalize (w.alloc _).alloc _=w1 at*;cases ub
 . exact itK
 . exact it2
end Go.Proofs.YtclgkofcooibfaaGreatDoor
