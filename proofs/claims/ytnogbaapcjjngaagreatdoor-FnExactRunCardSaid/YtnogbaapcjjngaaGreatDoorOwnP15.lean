import Derived.Test.YtnogbaapcjjngaaGreatDoorOwnP9
import Derived.Test.YtnogbaapcjjngaaGreatDoorOwnP11
set_option maxHeartbeats 6400000
set_option maxRecDepth 100000
namespace Go.Proofs.YtnogbaapcjjngaaGreatDoor
open Go.RowKit
section
variable {base : Nat} {w wr wr' : World} {c d gn gm : Nat} {an am : Option Addr} {n m cn cm : Nat} {X Y : Nat -> Nat}
theorem Gd.base_le (h : Gd base w wr c d gn gm an am n m cn cm X Y) : base <= wr.heap.size := by
 have h1 := h.hc; have h2 := World.block_lt_of_cell? _ _ h.bC; have : c < wr.heap.size := h2; omega
theorem xk3.since {v : Value} {g B : Nat} (h : xk3 wr v g) (s : wr.Since B wr') (hb : wr.heap.size <= B) : xk3 wr' v g := fun a k cap hv ha => ⟨(h a k cap hv ha).1.since s (Nat.lt_of_lt_of_le (h a k cap hv ha).1.lt hb), (h a k cap hv ha).2⟩
theorem Gd.grow (h : Gd base w wr c d gn gm an am n m cn cm X Y) (s : wr.Since wr.heap.size wr') : Gd base w wr' c d gn gm an am n m cn cm X Y := by
 have zc : c < wr.heap.size := World.block_lt_of_cell? _ _ h.bC; have zd : d < wr.heap.size := World.block_lt_of_cell? _ _ h.bD
 exact ⟨h.S.trans (sM s h.base_le), (s.cell (a := ⟨c, 0, none⟩) zc).trans h.bC, (s.cell (a := ⟨d, 0, none⟩) zd).trans h.bD, (s.frozen (a := ⟨c, 0, none⟩) zc).trans h.fC, (s.frozen (a := ⟨d, 0, none⟩) zd).trans h.fD, h.LX.keep s, h.LY.keep s,
  fun a x => (s.frozen (a := ⟨gn, x, none⟩) (h.LX.lt a)).trans (h.FX a x), fun a x => (s.frozen (a := ⟨gm, x, none⟩) (h.LY.lt a)).trans (h.FY a x),
  h.nX, h.nY, h.oX, h.oY, h.lX, h.lY, h.pX, h.pY, h.hc, h.hd, h.hn, h.hm, h.d1, h.d2, h.d3, h.d4, h.d5, h.d6, h.uX.since s (Nat.le_refl _), h.uY.since s (Nat.le_refl _)⟩
theorem Gd.ownY (h : Gd base w wr c d gn gm an am n m cn cm X Y) (hm : 0 < m) : wr.ownsRow base 159 1 (.slice am m cm) m (ll Y m) := by
 have e := xk8 h.LY hm; subst e; obtain ⟨⟨cur, h1, h2⟩, h3⟩ := h.uY _ _ _ rfl (by simp); refine ⟨by rw [ll_len]; omega, .inr ⟨gm, cm, cur, rfl, h.hm, h1, h.nY, h3, by omega, ?_⟩⟩
 apply List.ext_getElem?
 intro i; rw [Nat.mul_one]
 by_cases hi : i < m
 . rw [ll_get Y m i hi, List.getElem?_take, if_pos hi]
   have := (h.LY i hi).2
   simp [World.cell?, h1] at this
   simpa using this
 . rw [List.getElem?_eq_none (by rw [List.length_take]; omega), List.getElem?_eq_none (by rw [ll_len]; omega)]
end
def LeapTo (base : Nat) (w0 : World) (c d N M : Nat) (w' : World) : Prop :=
 ∃ (gn gm : Nat) (an am : Option Addr) (n m cn cm : Nat) (X Y : Nat -> Nat), Gd base w0 w' c d gn gm an am n m cn cm X Y /\ lv X n = N /\ lv Y m = M
theorem leapTo_div (base c d gn gm : Nat) (an am : Option Addr) (n m cn cm : Nat) (X Y : Nat -> Nat) (u v y : Int) (odd : Bool) (w0 w : World) (hn : n <= 33554432) (hm : m <= 33554432) (hm1 : 0 < m) (hG : Gd base w0 w c d gn gm an am n m cn cm X Y) :
 Calls Tryz.prog 201 #[.pointer (some ⟨c, 0, none⟩), .pointer (some ⟨d, 0, none⟩), .agg #[.int .u64 u, .int .u64 v, .int .u64 0, .int .u64 y, .bool odd]] w fun e w' => e = .returned (.tuple #[]) /\ LeapTo base w0 c d (lv Y m) (lv X n % lv Y m) w' := by
 have sA := sal w (.cells #[.int .u64 u, .int .u64 v, .int .u64 0, .int .u64 y, .bool odd] 221); have hG4 := hG.grow sA; have bx := Box5.new w (.int .u64 u) (.int .u64 v) (.int .u64 0) (.int .u64 y) (.bool odd) 221; have x2 := bx.c2; go_enter Tryz.func201, Tryz.ntmps201; clear sA hG bx; generalize hW : w.alloc (.cells #[.int .u64 u, .int .u64 v, .int .u64 0, .int .u64 y, .bool odd] 221) = w4 at *; have g1 := hG4.bC; have g2 := hG4.bD; have hG := hG4; clear hG4; have zC : c < w4.heap.size := World.block_lt_of_cell? _ _ hG.bC; have zD : d < w4.heap.size := World.block_lt_of_cell? _ _ hG.bD; have zM : gm < w4.heap.size := hG.LY.lt hm1; go_wp2_with fail; refine (divideBy_full c 0 an am gn n cn gm m cm X Y _ hn hG.nX hG.oX hm1 hm g1 hG.fC hG.LX hG.LY hG.lX hG.lY hG.FX (Ne.symm hG.d3) hG.LX.lt hG.pX (hG.pY hm1)).mono ?_; rintro e w5 ⟨vq, vr, gq, gr, rfl, k1, -, ⟨ar, nr, cr, R, rfl, r1, r2, r3, r4, r5, r6, r7, r8⟩, -, k5, -, -, k8, fr, fu⟩; have hbw : base <= w4.heap.size := hG.base_le; have hgr : base <= gr := by rcases k5 with h | h; (rw [h]; exact hG.hn); omega
 have hgm : gr ≠ gm := by rcases k5 with h | h; (rw [h]; exact hG.d2); omega
 have hgd : gr ≠ d := by rcases k5 with h | h; (rw [h]; exact hG.d4); omega
 have S5 : w0.Since base w5 := ⟨fr.os.trans hG.S.os, fr.tape.trans hG.S.tape, fr.output.trans hG.S.output, Nat.le_trans hG.S.size fr.size, fun k hk => (fr.block k (by omega) (by have := hG.hc; omega) (by have := hG.hn; omega)).trans (hG.S.block k hk)⟩; have eD := fr.block d zD (Ne.symm hG.d1) (Ne.symm hG.d4); have eM := fr.block gm zM hG.d5 (Ne.symm hG.d2)
 have G5 : Gd base w0 w5 c d gr gm ar am nr m cr cm R Y := ⟨S5, k1, (World.cell?_of_block (w := w4) (a := ⟨d, 0, none⟩) eD).trans hG.bD, by rw [fr.frozen]; exact hG.fC, (World.frozen?_of_block (w := w4) (a := ⟨d, 0, none⟩) eD).trans hG.fD,
  r4, fun j hj => ⟨(hG.LY j hj).1, (World.cell?_of_block (w := w4) (a := ⟨gm, 0 + j, none⟩) eM).trans (hG.LY j hj).2⟩, r5, fun h x => (World.frozen?_of_block (w := w4) (a := ⟨gm, x, none⟩) eM).trans (hG.FY h x), r1, hG.nY, r3, hG.oY, r6, hG.lY, r7, hG.pY,
  hG.hc, hG.hd, hgr, hG.hm, hG.d1, hgm, k8, hgd, hG.d5, hG.d6, fu hG.uX, hG.uY.of_block eM⟩
 have HR := hide r8; clear k1 r1 r3 r4 r5 r6 r7 r8 k5 k8 fr S5 eD eM hG g1 g2 fu hW x2; have g1 := G5.bC; have g2 := G5.bD; have f1 := G5.fC; have f2 := G5.fD; have d1 := G5.d1; have G6 := G5.swap.same (Same.refl _).drew; clear G5; go_wp2
 go_region
 go_wp2; refine bodyPost_ret (results_none rfl _ _ _) rfl ?_; exact ⟨rfl, _, _, _, _, _, _, _, _, _, _, G6, rfl, HR.out⟩
structure Gp (base : Nat) (w wr : World) (c d gn : Nat) (an : Option Addr) (n cn : Nat) (X : Nat -> Nat) (v : Value) (k : Nat) (Z : Nat -> Nat) : Prop where
 S : w.Since base wr
 bC : wr.cell? ⟨c, 0, none⟩ = some (.slice an n cn)
 bD : wr.cell? ⟨d, 0, none⟩ = some v
 fC : wr.frozen? ⟨c, 0, none⟩ = false
 fD : wr.frozen? ⟨d, 0, none⟩ = false
 LX : xq1 wr an gn 0 n X
 FX : ∀ x, wr.frozen? ⟨gn, x, none⟩ = false
 uX : xk3 wr (.slice an n cn) gn
 own : wr.ownsRow base 159 1 v k (ll Z k)
 ap : ∀ q, v.ownBlock = some q -> q ≠ c /\ q ≠ d /\ q ≠ gn
 hc : base <= c
 hd : base <= d
 hn : base <= gn
 d1 : c ≠ d
 d3 : gn ≠ c
 d4 : gn ≠ d
 lg : gn < wr.heap.size
section
variable {base : Nat} {w wr : World} {c d gn : Nat} {an : Option Addr} {n cn : Nat} {X : Nat -> Nat} {v : Value} {k : Nat} {Z : Nat -> Nat}
theorem Gp.drew (h : Gp base w wr c d gn an n cn X v k Z) : Gp base w wr.drew c d gn an n cn X v k Z :=
 ⟨⟨h.S.os, h.S.tape, h.S.output, h.S.size, h.S.block⟩, h.bC, h.bD, h.fC, h.fD, h.LX, h.FX, h.uX, h.own, h.ap, h.hc, h.hd, h.hn, h.d1, h.d3, h.d4, h.lg⟩
theorem own_other {base : Nat} {t : TypeId} {v x : Value} {k d o : Nat} {xs : List Value} (h : w.ownsRow base t 1 v k xs) (hd : ∀ q, v.ownBlock = some q -> q ≠ d) : (w.setCell ⟨d, o, none⟩ x).ownsRow base t 1 v k xs := by
 obtain ⟨hl, h | ⟨g', cap', cur, rfl, hb, hh, hn, hm, hs, ht⟩⟩ := h
 . exact ⟨hl, Or.inl h⟩
 . exact ⟨hl, Or.inr ⟨g', cap', cur, rfl, hb, (Below.heap_setCell _ _ _ _ (hd g' rfl)).trans hh, hn, hm, hs, ht⟩⟩
theorem Gp.app {w1 : World} {v' : Value} {k' : Nat} {b : Obj} (h : Gp base w wr c d gn an n cn X v k Z) (hown' : w1.ownsRow base 159 1 v' k' (ll Z k')) (hg : (wr.alloc b).grownBy w1 v.ownBlock)
 (hat : v'.ownBlock = v.ownBlock ∨ v'.ownBlock = some (wr.heap.size + 1)) : Gp base w (w1.setCell ⟨d, 0, none⟩ v') c d gn an n cn X v' k' Z := by
 have zc : c < wr.heap.size := World.block_lt_of_cell? _ _ h.bC; have zd : d < wr.heap.size := World.block_lt_of_cell? _ _ h.bD; have zg := h.lg; have sz : (wr.alloc b).heap.size = wr.heap.size + 1 := by simp
 have sA : wr.Since wr.heap.size (wr.alloc b) := (World.Since.refl _ _).alloc (Nat.le_refl _) _; have blk : ∀ q, q < wr.heap.size -> (v.ownBlock ≠ some q) -> w1.heap[q]? = wr.heap[q]? := fun q hq hne => (hg.block q (by omega) (fun e => hne e.symm)).trans (sA.block q hq)
 have eC := blk c zc (fun e => (h.ap c e).1 rfl); have eD := blk d zd (fun e => (h.ap d e).2.1 rfl); have eG := blk gn zg (fun e => (h.ap gn e).2.2 rfl); have hsz : wr.heap.size + 1 <= w1.heap.size := by rw [<- sz]; exact hg.size
 have S1 : w.Since base w1 := ⟨(hg.os.trans sA.os).trans h.S.os, (hg.tape.trans sA.tape).trans h.S.tape, (hg.output.trans sA.output).trans h.S.output, by have := h.S.size; omega, fun q hq => (blk q (by have := h.hc; omega) (fun e => by have := (h.own.lt q e).1; omega)).trans (h.S.block q hq)⟩
 have ap : ∀ q, v'.ownBlock = some q -> q ≠ c /\ q ≠ d /\ q ≠ gn := fun q hq => by
  rcases hat with e | e
  . exact h.ap q (e.symm.trans hq)
  . rw [hq] at e; simp at e; omega
 refine ⟨S1.setCell h.hd _, ?_, World.cell?_setCell_same _ _ _ ((World.cell?_of_block (w := wr) (a := ⟨d, 0, none⟩) eD).trans h.bD), ?_, ?_, ?_, fun x => ?_, (h.uX.of_block eG).setCell _ _ _, own_other hown' (fun q hq => (ap q hq).2.1), ap, h.hc, h.hd, h.hn, h.d1, h.d3, h.d4, ?_⟩
 . rw [cellO (by show d ≠ c; exact Ne.symm h.d1)]; exact (World.cell?_of_block (w := wr) (a := ⟨c, 0, none⟩) eC).trans h.bC
 . have := (World.frozen?_of_block (w := wr) (a := ⟨c, 0, none⟩) eC).trans h.fC; simp [this]
 . have := (World.frozen?_of_block (w := wr) (a := ⟨d, 0, none⟩) eD).trans h.fD; simp [this]
 . exact xq1.setOther (fun j hj => ⟨(h.LX j hj).1, (World.cell?_of_block (w := wr) (a := ⟨gn, 0 + j, none⟩) eG).trans (h.LX j hj).2⟩) (Ne.symm h.d4) _
 . have := (World.frozen?_of_block (w := wr) (a := ⟨gn, x, none⟩) eG).trans (h.FX x); simp [this]
 . simp [World.setCell]; omega
end
structure Ge (base : Nat) (w wr : World) (c d gn gm n cn cm l p q : Nat) (X Y : Nat -> Nat) : Prop where
 S : w.Since base wr
 bC : wr.cell? ⟨c, 0, none⟩ = some (.slice (some ⟨gn, 0, none⟩) n cn)
 bD : wr.cell? ⟨d, 0, none⟩ = some (.slice (some ⟨gm, 0, none⟩) n cm)
 fC : wr.frozen? ⟨c, 0, none⟩ = false
 fD : wr.frozen? ⟨d, 0, none⟩ = false
 LX : xq1 wr (some ⟨gn, 0, none⟩) gn 0 n X
 LY : xq1 wr (some ⟨gm, 0, none⟩) gm 0 n Y
 FX : ∀ x, wr.frozen? ⟨gn, x, none⟩ = false
 FY : ∀ x, wr.frozen? ⟨gm, x, none⟩ = false
 uX : xk3 wr (.slice (some ⟨gn, 0, none⟩) n cn) gn
 uY : xk3 wr (.slice (some ⟨gm, 0, none⟩) n cm) gm
 nX : n <= cn
 nY : n <= cm
 hc : base <= c
 hd : base <= d
 hn : base <= gn
 hm : base <= gm
 hl : base <= l
 hp : base <= p
 hq : base <= q
 d1 : c ≠ d
 d2 : gn ≠ gm
 d3 : gn ≠ c
 d4 : gn ≠ d
 d5 : gm ≠ c
 d6 : gm ≠ d
 p1 : p ≠ c /\ p ≠ d /\ p ≠ gn /\ p ≠ gm /\ p ≠ l
 q1 : q ≠ c /\ q ≠ d /\ q ≠ gn /\ q ≠ gm /\ q ≠ l
 pq : p ≠ q
 l1 : l ≠ c /\ l ≠ d /\ l ≠ gn /\ l ≠ gm
section
variable {base : Nat} {w wr wr' : World} {c d gn gm n cn cm l p q : Nat} {X Y : Nat -> Nat}
theorem Ge.drew (h : Ge base w wr c d gn gm n cn cm l p q X Y) : Ge base w wr.drew c d gn gm n cn cm l p q X Y :=
 ⟨⟨h.S.os, h.S.tape, h.S.output, h.S.size, h.S.block⟩, h.bC, h.bD, h.fC, h.fD, h.LX, h.LY, h.FX, h.FY, h.uX, h.uY, h.nX, h.nY, h.hc, h.hd, h.hn, h.hm, h.hl, h.hp, h.hq, h.d1, h.d2, h.d3, h.d4, h.d5, h.d6, h.p1, h.q1, h.pq, h.l1⟩
theorem Ge.marked {b : Nat} (h : Ge base w wr c d gn gm n cn cm l p q X Y) (m : xq0 wr wr' b) (hb : b = p ∨ b = q) : Ge base w wr' c d gn gm n cn cm l p q X Y := by
 have h1 := h.p1; have h2 := h.q1; have bb : base <= b := by rcases hb with e | e; (rw [e]; exact h.hp); (rw [e]; exact h.hq)
 have e1 : c ≠ b := by omega
 have e2 : d ≠ b := by omega
 have e3 : gn ≠ b := by omega
 have e4 : gm ≠ b := by omega
 exact ⟨h.S.trans (m.since bb), (m.cell (a := ⟨c, 0, none⟩) e1).trans h.bC, (m.cell (a := ⟨d, 0, none⟩) e2).trans h.bD, (m.frozenO (a := ⟨c, 0, none⟩) e1).trans h.fC, (m.frozenO (a := ⟨d, 0, none⟩) e2).trans h.fD,
  h.LX.marked m (fun _ => e3), h.LY.marked m (fun _ => e4), fun x => (m.frozenO (a := ⟨gn, x, none⟩) e3).trans (h.FX x), fun x => (m.frozenO (a := ⟨gm, x, none⟩) e4).trans (h.FY x), h.uX.marked m, h.uY.marked m, h.nX, h.nY, h.hc, h.hd, h.hn, h.hm, h.hl, h.hp, h.hq, h.d1, h.d2, h.d3, h.d4, h.d5, h.d6, h.p1, h.q1, h.pq, h.l1⟩
theorem Ge.put (h : Ge base w wr c d gn gm n cn cm l p q X Y) (i e f : Nat) : Ge base w ((wr.setCell ⟨gn, i, none⟩ (.int .u32 (e : Int))).setCell ⟨gm, i, none⟩ (.int .u32 (f : Int))) c d gn gm n cn cm l p q (upd X i e) (upd Y i f) := by
 have k1 := h.d3; have k2 := h.d4; have k3 := h.d5; have k4 := h.d6; have k5 := h.d2; refine ⟨(h.S.setCell h.hn _).setCell h.hm _, ?_, ?_, by simp [h.fC], by simp [h.fD], (h.LX.put e).setOther (Ne.symm k5) _, (h.LY.setOther k5 _).put f, fun x => by simp [h.FX x], fun x => by simp [h.FY x], (h.uX.setCell _ _ _).setCell _ _ _, (h.uY.setCell _ _ _).setCell _ _ _, h.nX, h.nY, h.hc, h.hd, h.hn, h.hm, h.hl, h.hp, h.hq, h.d1, h.d2, h.d3, h.d4, h.d5, h.d6, h.p1, h.q1, h.pq, h.l1⟩
 . rw [cellO (by show gm ≠ c; exact k3), cellO (by show gn ≠ c; exact k1)]; exact h.bC
 . rw [cellO (by show gm ≠ d; exact k4), cellO (by show gn ≠ d; exact k2)]; exact h.bD
end
end Go.Proofs.YtnogbaapcjjngaaGreatDoor
