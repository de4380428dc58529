import Derived.Test.YtnogbaapcjjngaaGreatDoorOwnP10
import Derived.Test.YtnogbaapcjjngaaGreatDoorOwnP4
set_option maxHeartbeats 6400000
set_option maxRecDepth 100000
namespace Go.Proofs.YtnogbaapcjjngaaGreatDoor
open Go.RowKit
def StrsL (w : World) (wb : Nat) (v : Value) (ws : List ByteArray) : Prop :=
 ∃ (a : Option Addr) (off cap : Nat), v = .slice a ws.length cap /\ ws.length <= cap /\ ∀ (j : Nat) (x : ByteArray), ws[j]? = some x -> a = some ⟨wb, off, none⟩ /\ w.cell? ⟨wb, off + j, none⟩ = some (.string x)
def But (c : Nat) (w w' : World) : Prop := w.grownBy w' (some c)
theorem But.refl (c : Nat) (w : World) : But c w w := ⟨rfl, rfl, rfl, Nat.le_refl _, fun _ _ _ => rfl⟩
theorem But.trans {c : Nat} {w w1 w2 : World} (h : But c w w1) (k : But c w1 w2) : But c w w2 :=
 ⟨k.os.trans h.os, k.tape.trans h.tape, k.output.trans h.output, Nat.le_trans h.size k.size, fun q hq hn => (k.block q (Nat.lt_of_lt_of_le hq h.size) hn).trans (h.block q hq hn)⟩
theorem But.of {c : Nat} {w w' : World} (s : w.Since w.heap.size w') : But c w w' := ⟨s.os, s.tape, s.output, s.size, fun q hq _ => s.block q hq⟩
theorem But.set {c : Nat} {w w' : World} (h : But c w w') (k : Nat) (v : Value) : But c w (w'.setCell ⟨c, k, none⟩ v) :=
 ⟨h.os, h.tape, h.output, by simpa [World.setCell] using h.size, fun q hq hn => (Below.heap_setCell _ _ _ _ (fun e => hn (by simp [e]))).trans (h.block q hq hn)⟩
theorem But.cell {c : Nat} {w w' : World} (h : But c w w') {a : Addr} {v : Value} (hc : w.cell? a = some v) (hn : a.block ≠ c) : w'.cell? a = some v :=
 (World.cell?_of_block (h.block a.block (World.block_lt_of_cell? _ _ hc) (by simpa using hn))).trans hc
theorem StrsL.blk {wb : Nat} {w w' : World} {v : Value} {ws : List ByteArray} (h : StrsL w wb v ws) (k : w'.heap[wb]? = w.heap[wb]?) : StrsL w' wb v ws := by
 obtain ⟨a, off, cap, e, hl, hc⟩ := h; exact ⟨a, off, cap, e, hl, fun j x hx => ⟨(hc j x hx).1, (World.cell?_of_block (a := ⟨wb, off + j, none⟩) k).trans (hc j x hx).2⟩⟩
structure Rdr (w : World) (c bl wb : Nat) (L : List ByteArray) (t : Nat) (ws : List ByteArray) : Prop where
 c0 : w.cell? ⟨c, 0, none⟩ = some (.slice (some ⟨bl, 0, none⟩) L.length L.length)
 c1 : w.cell? ⟨c, 1, none⟩ = some (.int .i64 (t : Int))
 c2 : ∃ v, w.cell? ⟨c, 2, none⟩ = some v /\ StrsL w wb v ws
 f : ∀ k, w.frozen? ⟨c, k, none⟩ = false
 ln : ∀ (j : Nat) (x : ByteArray), L[j]? = some x -> w.cell? ⟨bl, j, none⟩ = some (.string x)
 ne : bl ≠ c
 nw : wb ≠ c
 lw : wb < w.heap.size
 lb : bl < w.heap.size
 tl : t <= L.length
 sz : ∀ x ∈ L, x.size <= 100000
 wz : ∀ x ∈ ws, x.size <= 100000
 wl : ws.length <= 100001
 ll : L.length <= 100001
section
variable {w w' : World} {c bl wb t : Nat} {L ws : List ByteArray}
theorem Rdr.lt (h : Rdr w c bl wb L t ws) : c < w.heap.size := World.block_lt_of_cell? _ _ h.c0
theorem Rdr.blks (h : Rdr w c bl wb L t ws) (hz : w.heap.size <= w'.heap.size) (k1 : w'.heap[c]? = w.heap[c]?) (k2 : w'.heap[bl]? = w.heap[bl]?) (k3 : w'.heap[wb]? = w.heap[wb]?) : Rdr w' c bl wb L t ws := by
 obtain ⟨v, hv, hs⟩ := h.c2; refine ⟨(World.cell?_of_block (a := ⟨c, 0, none⟩) k1).trans h.c0, (World.cell?_of_block (a := ⟨c, 1, none⟩) k1).trans h.c1, ⟨v, (World.cell?_of_block (a := ⟨c, 2, none⟩) k1).trans hv, hs.blk k3⟩, fun k => ?_, fun j x hx => (World.cell?_of_block (a := ⟨bl, j, none⟩) k2).trans (h.ln j x hx), h.ne, h.nw, Nat.lt_of_lt_of_le h.lw hz, Nat.lt_of_lt_of_le h.lb hz, h.tl, h.sz, h.wz, h.wl, h.ll⟩; have := h.f k; unfold World.frozen? at this ⊢; rw [k1]; exact this
theorem Rdr.keep (h : Rdr w c bl wb L t ws) (s : w.Since w.heap.size w') : Rdr w' c bl wb L t ws := h.blks s.size (s.block _ h.lt) (s.block _ h.lb) (s.block _ h.lw)
theorem Rdr.oth (h : Rdr w c bl wb L t ws) {d : Nat} (s : But d w w') (h1 : d ≠ c) (h2 : d ≠ bl) (h3 : d ≠ wb) : Rdr w' c bl wb L t ws :=
 h.blks s.size (s.block _ h.lt (by simpa using fun e => h1 e.symm)) (s.block _ h.lb (by simpa using fun e => h2 e.symm)) (s.block _ h.lw (by simpa using fun e => h3 e.symm))
theorem Rdr.setWords (h : Rdr w c bl wb L t ws) {v : Value} {wb' : Nat} {ws' : List ByteArray} (hv : StrsL w wb' v ws') (hn : wb' ≠ c) (hlw : wb' < w.heap.size) (hz : ∀ x ∈ ws', x.size <= 100000) (hl : ws'.length <= 100001) : Rdr (w.setCell ⟨c, 2, none⟩ v) c bl wb' L t ws' := by
 obtain ⟨u, hu, -⟩ := h.c2; have hb : But c w (w.setCell ⟨c, 2, none⟩ v) := (But.refl c w).set 2 v; refine ⟨?_, ?_, ⟨v, ?_, hv.blk (hb.block wb' hlw (by simpa using hn))⟩, fun k => ?_, fun j x hx => hb.cell (h.ln j x hx) h.ne, h.ne, hn, Nat.lt_of_lt_of_le hlw hb.size, Nat.lt_of_lt_of_le h.lb hb.size, h.tl, h.sz, hz, hl, h.ll⟩
 . rw [World.cell?_setCell_other _ _ _ _ (by simp)]; exact h.c0
 . rw [World.cell?_setCell_other _ _ _ _ (by simp)]; exact h.c1
 . exact World.cell?_setCell_same _ _ _ hu
 . simpa using h.f k
theorem Rdr.setTaken (h : Rdr w c bl wb L t ws) {t' : Nat} (ht : t' <= L.length) : Rdr (w.setCell ⟨c, 1, none⟩ (.int .i64 (t' : Int))) c bl wb L t' ws := by
 obtain ⟨u, hu, hs⟩ := h.c2; have hb : But c w (w.setCell ⟨c, 1, none⟩ (.int .i64 (t' : Int))) := (But.refl c w).set 1 _; refine ⟨?_, ?_, ⟨u, ?_, hs.blk (hb.block wb h.lw (by simpa using h.nw))⟩, fun k => ?_, fun j x hx => hb.cell (h.ln j x hx) h.ne, h.ne, h.nw, Nat.lt_of_lt_of_le h.lw hb.size, Nat.lt_of_lt_of_le h.lb hb.size, ht, h.sz, h.wz, h.wl, h.ll⟩
 . rw [World.cell?_setCell_other _ _ _ _ (by simp)]; exact h.c0
 . exact World.cell?_setCell_same _ _ _ h.c1
 . rw [World.cell?_setCell_other _ _ _ _ (by simp)]; exact hu
 . simpa using h.f k
end
def xx7 (n : Int) : Ending := .panicked [{ v := .iface 86 (.agg #[.int .i64 n]), recovered := false }]
end Go.Proofs.YtnogbaapcjjngaaGreatDoor
