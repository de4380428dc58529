import Derived.Test.YtclgkofcooibfaaGreatDoorOwnP12
import Derived.Test.YtclgkofcooibfaaGreatDoorOwnP5
set_option maxHeartbeats 6400000
set_option maxRecDepth 100000
namespace Go.Proofs.YtclgkofcooibfaaGreatDoor
open Go.RowKit
def sO(w:World)(wb:Nat)(v:Value)(ws:List ByteArray):Prop:=
 ∃(a:Option Addr) (off cap:Nat),v=.slice a ws.length cap/\ws.length<=cap/\∀(j:Nat) (x:ByteArray),ws[j]?=some x->a=some ⟨wb,off,none⟩/\w.cell? ⟨wb,off+j,none⟩=some (.string x)
def cF(c:Nat)(w w':World):Prop:=w.grownBy w' (some c)
theorem cF.refl(c:Nat)(w:World):cF c w w:=⟨rfl,rfl,rfl,Nat.le_refl _,fun _ _ _=>rfl⟩
theorem cF.trans{c:Nat}{w w1 w2:World}(h:cF c w w1)(k:cF c w1 w2):cF c w w2:=
 ⟨k.os.trans h.os,k.tape.trans h.tape,k.output.trans h.output,Nat.le_trans h.size k.size,fun q hq hn=>(k.block q (Nat.lt_of_lt_of_le hq h.size) hn).trans (h.block q hq hn)⟩
theorem cF.of{c:Nat}{w w':World}(s:w.S w'):cF c w w':=⟨s.os,s.tape,s.output,s.size,fun q hq _=>s.block q hq⟩
theorem cF.set{c:Nat}{w w':World}(h:cF c w w')(k:Nat)(v:Value):cF c w (w'.setCell ⟨c,k,none⟩ v):=
 ⟨h.os,h.tape,h.output,by simpa [World.setCell] using h.size,fun q hq hn=>(Below.heap_setCell _ _ _ _ (fun e=>hn (by simp[e]))).trans (h.block q hq hn)⟩
theorem cF.cell{c:Nat}{w w':World}(h:cF c w w'){a:Addr}{v:Value}(hc:w.cell? a=some v)(hn:a.block≠c):w'.cell? a=some v:=
 (fa (h.block a.block (gz _ _ hc) (by simpa using hn))).trans hc
theorem sO.blk{wb:Nat}{w w':World}{v:Value}{ws:List ByteArray}(h:sO w wb v ws)(k:w'.heap[wb]?=w.heap[wb]?):sO w' wb v ws:=by
 obtain⟨a,off,cap,e,hl,hc⟩:=h;exact⟨a,off,cap,e,hl,fun j x hx=>⟨(hc j x hx).1,(fa (a:=jj wb (off+j)) k).trans (hc j x hx).2⟩⟩
structure iy(w:World)(c bl wb:Nat)(L:List ByteArray)(t:Nat)(ws:List ByteArray):Prop where
 c0:w.cell? ⟨c,0,none⟩=some (.slice (some ⟨bl,0,none⟩) L.length L.length)
 c1:w.cell? ⟨c,1,none⟩=some (.int .i64 (t:Int))
 c2:∃v,w.cell? ⟨c,2,none⟩=some v/\sO w wb v ws
 f:∀k,w.frozen? ⟨c,k,none⟩=false
 ln:∀(j:Nat) (x:ByteArray),L[j]?=some x->w.cell? ⟨bl,j,none⟩=some (.string x)
 ne:bl≠c
 nw:wb≠c
 lw:wb<w.heap.size
 lb:bl<w.heap.size
 tl:t<=L.length
 sz:∀x∈L,x.size<=100000
 wz:∀x∈ws,x.size<=100000
 wl:ws.length<=100001
 ll:L.length<=100001
section
variable{w w':World}{c bl wb t:Nat}{L ws:List ByteArray}
theorem iy.lt(h:iy w c bl wb L t ws):c<w.heap.size:=gz _ _ h.c0
theorem iy.blks(h:iy w c bl wb L t ws)(hz:w.heap.size<=w'.heap.size)(k1:w'.heap[c]?=w.heap[c]?)(k2:w'.heap[bl]?=w.heap[bl]?)(k3:w'.heap[wb]?=w.heap[wb]?):iy w' c bl wb L t ws:=by
 obtain⟨v,hv,hs⟩:=h.c2;refine⟨(fa (a:=jj c 0) k1).trans h.c0,(fa (a:=jj c 1) k1).trans h.c1,⟨v,(fa (a:=jj c 2) k1).trans hv,hs.blk k3⟩,fun k=> ?_,fun j x hx=>(fa (a:=jj bl j) k2).trans (h.ln j x hx),h.ne,h.nw,Nat.lt_of_lt_of_le h.lw hz,Nat.lt_of_lt_of_le h.lb hz,h.tl,h.sz,h.wz,h.wl,h.ll⟩;have:=h.f k;unfold World.frozen? at this⊢;rw[k1];exact this
theorem iy.aA(h:iy w c bl wb L t ws)(s:w.S w'):iy w' c bl wb L t ws:=h.blks s.size (s.block _ h.lt) (s.block _ h.lb) (s.block _ h.lw)
theorem iy.aI(h:iy w c bl wb L t ws){d:Nat}(s:cF d w w')(h1:d≠c)(h2:d≠bl)(h3:d≠wb):iy w' c bl wb L t ws:=
 h.blks s.size (s.block _ h.lt (by simpa using fun e=>h1 e.symm)) (s.block _ h.lb (by simpa using fun e=>h2 e.symm)) (s.block _ h.lw (by simpa using fun e=>h3 e.symm))
theorem iy.bF(h:iy w c bl wb L t ws){v:Value}{wb':Nat}{ws':List ByteArray}(hv:sO w wb' v ws')(hn:wb'≠c)(hlw:wb'<w.heap.size)(hz:∀x∈ws',x.size<=100000)(hl:ws'.length<=100001):iy (w.setCell ⟨c,2,none⟩ v) c bl wb' L t ws':=by
 obtain⟨u,hu,-⟩:=h.c2;have hb:=(cF.refl c w).set 2 v;refine⟨?_, ?_,⟨v, ?_,hv.blk (hb.block wb' hlw (by simpa using hn))⟩,fun k=> ?_,fun j x hx=>hb.cell (h.ln j x hx) h.ne,h.ne,hn,Nat.lt_of_lt_of_le hlw hb.size,Nat.lt_of_lt_of_le h.lb hb.size,h.tl,h.sz,hz,hl,h.ll⟩
 . rw[fJ];exact h.c0
 . rw[fJ];exact h.c1
 . exact j6 _ _ _ hu
 . simpa using h.f k
theorem iy.setTaken(h:iy w c bl wb L t ws){t':Nat}(ht:t'<=L.length):iy (w.setCell ⟨c,1,none⟩ (.i (t':Int))) c bl wb L t' ws:=by
 obtain⟨u,hu,hs⟩:=h.c2;have hb:cF c w (w.setCell (jj c 1) (.i (t':Int))):=(cF.refl c w).set 1 _;refine⟨?_, ?_,⟨u, ?_,hs.blk (hb.block wb h.lw (by simpa using h.nw))⟩,fun k=> ?_,fun j x hx=>hb.cell (h.ln j x hx) h.ne,h.ne,h.nw,Nat.lt_of_lt_of_le h.lw hb.size,Nat.lt_of_lt_of_le h.lb hb.size,ht,h.sz,h.wz,h.wl,h.ll⟩
 . rw[fJ];exact h.c0
 . exact j6 _ _ _ h.c1
 . rw[fJ];exact hu
 . simpa using h.f k
end
def cg(n:Int):Ending:=.panicked [{ v:=.iface 132 (.agg #[.int .i64 n]),recovered:=false }]
end Go.Proofs.YtclgkofcooibfaaGreatDoor
