import Derived.Test.YtdfcckifbbeoiaaG1P6
import Derived.Test.YtdfcckifbbeoiaaG1P7
import Derived.Test.YtdfcckifbbeoiaaG1P3
import Derived.Test.YtdfcckifbbeoiaaG1P2
namespace Go.Proofs.Ytdfcckifbbeoiaa
open Go.RowKit

section
variable {base : Nat} {w wr wr' : World} {c d gn gm : Nat} {an am : Option Addr} {n m cn cm : Nat} {X Y : Nat → Nat}

theorem Gd.base_le (h : Gd base w wr c d gn gm an am n m cn cm X Y) : base ≤ wr.heap.size := by
  have h1 := h.hc; have h2 := World.block_lt_of_cell? _ _ h.bC; have : c < wr.heap.size := h2; omega

theorem FullV.since {v : Value} {g B : Nat} (h : FullV wr v g) (s : wr.Since B wr') (hb : wr.heap.size ≤ B) : FullV wr' v g := fun a k cap hv ha => ⟨(h a k cap hv ha).1.since s (Nat.lt_of_lt_of_le (h a k cap hv ha).1.lt hb), (h a k cap hv ha).2⟩

theorem Gd.grow (h : Gd base w wr c d gn gm an am n m cn cm X Y) (s : wr.Since wr.heap.size wr') : Gd base w wr' c d gn gm an am n m cn cm X Y := by
  have zc : c < wr.heap.size := World.block_lt_of_cell? _ _ h.bC
  have zd : d < wr.heap.size := World.block_lt_of_cell? _ _ h.bD
  exact ⟨h.S.trans (sinceMono s h.base_le), (s.cell (a := ⟨c, 0, none⟩) zc).trans h.bC, (s.cell (a := ⟨d, 0, none⟩) zd).trans h.bD, (s.frozen (a := ⟨c, 0, none⟩) zc).trans h.fC, (s.frozen (a := ⟨d, 0, none⟩) zd).trans h.fD, h.LX.keep s, h.LY.keep s,
    fun a x => (s.frozen (a := ⟨gn, x, none⟩) (h.LX.lt a)).trans (h.FX a x), fun a x => (s.frozen (a := ⟨gm, x, none⟩) (h.LY.lt a)).trans (h.FY a x),
    h.nX, h.nY, h.oX, h.oY, h.lX, h.lY, h.pX, h.pY, h.hc, h.hd, h.hn, h.hm, h.d1, h.d2, h.d3, h.d4, h.d5, h.d6, h.uX.since s (Nat.le_refl _), h.uY.since s (Nat.le_refl _)⟩

/-- The second number lies in a row of its own. -/
theorem Gd.ownY (h : Gd base w wr c d gn gm an am n m cn cm X Y) (hm : 0 < m) : wr.ownsRow base 35 1 (.slice am m cm) m (ll Y m) := by
  have e := limbs_some h.LY hm
  subst e
  obtain ⟨⟨cur, h1, h2⟩, h3⟩ := h.uY _ _ _ rfl (by simp)
  refine ⟨by rw [ll_len]; omega, .inr ⟨gm, cm, cur, rfl, h.hm, h1, h.nY, h3, by omega, ?_⟩⟩
  apply List.ext_getElem?
  intro i
  rw [Nat.mul_one]
  by_cases hi : i < m
  · rw [ll_get Y m i hi, List.getElem?_take, if_pos hi]
    have := (h.LY i hi).2
    simp [World.cell?, h1] at this
    simpa using this
  · rw [List.getElem?_eq_none (by rw [List.length_take]; omega), List.getElem?_eq_none (by rw [ll_len]; omega)]
end

/-- What leapTo leaves. -/
def LeapTo (base : Nat) (w0 : World) (c d N M : Nat) (w' : World) : Prop :=
  ∃ (gn gm : Nat) (an am : Option Addr) (n m cn cm : Nat) (X Y : Nat → Nat), Gd base w0 w' c d gn gm an am n m cn cm X Y ∧ lv X n = N ∧ lv Y m = M

set_option maxHeartbeats 3200000 in
set_option maxRecDepth 100000 in
/-- (*nat).leapTo by a leap that has no step: one division. -/
theorem leapTo_div (base c d gn gm : Nat) (an am : Option Addr) (n m cn cm : Nat) (X Y : Nat → Nat) (u v y : Int) (odd : Bool) (w0 w : World) (hn : n ≤ 2097152) (hm : m ≤ 2097152) (hm1 : 0 < m) (hG : Gd base w0 w c d gn gm an am n m cn cm X Y) :
    Calls Try.prog 129 #[.pointer (some ⟨c, 0, none⟩), .pointer (some ⟨d, 0, none⟩), .agg #[.int .u64 u, .int .u64 v, .int .u64 0, .int .u64 y, .bool odd]] w fun e w' => e = .returned (.tuple #[]) ∧ LeapTo base w0 c d (lv Y m) (lv X n % lv Y m) w' := by
  have sA : w.Since w.heap.size (w.alloc (.cells #[.int .u64 u, .int .u64 v, .int .u64 0, .int .u64 y, .bool odd] 124)) := (World.Since.refl _ _).alloc (Nat.le_refl _) _
  have hG4 := hG.grow sA
  have bx := Box5.new w (.int .u64 u) (.int .u64 v) (.int .u64 0) (.int .u64 y) (.bool odd) 124
  have x2 := bx.c2
  go_enter Try.func129, Try.ntmps129
  clear sA hG bx
  generalize hW : w.alloc (.cells #[.int .u64 u, .int .u64 v, .int .u64 0, .int .u64 y, .bool odd] 124) = w4 at *
  have g1 := hG4.bC
  have g2 := hG4.bD
  have hG := hG4
  clear hG4
  have zC : c < w4.heap.size := World.block_lt_of_cell? _ _ hG.bC
  have zD : d < w4.heap.size := World.block_lt_of_cell? _ _ hG.bD
  have zM : gm < w4.heap.size := hG.LY.lt hm1
  go_wp2_with fail
  refine (divideBy_full c 0 an am gn n cn gm m cm X Y _ hn hG.nX hG.oX hm1 hm g1 hG.fC hG.LX hG.LY hG.lX hG.lY hG.FX (Ne.symm hG.d3) hG.LX.lt hG.pX (hG.pY hm1)).mono ?_
  rintro e w5 ⟨vq, vr, gq, gr, rfl, k1, -, ⟨ar, nr, cr, R, rfl, r1, r2, r3, r4, r5, r6, r7, r8⟩, -, k5, -, -, k8, fr, fu⟩
  have hbw : base ≤ w4.heap.size := hG.base_le
  have hgr : base ≤ gr := by rcases k5 with h | h; (rw [h]; exact hG.hn); omega
  have hgm : gr ≠ gm := by rcases k5 with h | h; (rw [h]; exact hG.d2); omega
  have hgd : gr ≠ d := by rcases k5 with h | h; (rw [h]; exact hG.d4); omega
  have S5 : w0.Since base w5 := ⟨fr.os.trans hG.S.os, fr.tape.trans hG.S.tape, fr.output.trans hG.S.output, Nat.le_trans hG.S.size fr.size, fun k hk => (fr.block k (by omega) (by have := hG.hc; omega) (by have := hG.hn; omega)).trans (hG.S.block k hk)⟩
  have eD := fr.block d zD (Ne.symm hG.d1) (Ne.symm hG.d4)
  have eM := fr.block gm zM hG.d5 (Ne.symm hG.d2)
  have G5 : Gd base w0 w5 c d gr gm ar am nr m cr cm R Y := ⟨S5, k1, (World.cell?_of_block (w := w4) (a := ⟨d, 0, none⟩) eD).trans hG.bD, by rw [fr.frozen]; exact hG.fC, (World.frozen?_of_block (w := w4) (a := ⟨d, 0, none⟩) eD).trans hG.fD,
    r4, fun j hj => ⟨(hG.LY j hj).1, (World.cell?_of_block (w := w4) (a := ⟨gm, 0 + j, none⟩) eM).trans (hG.LY j hj).2⟩, r5, fun h x => (World.frozen?_of_block (w := w4) (a := ⟨gm, x, none⟩) eM).trans (hG.FY h x), r1, hG.nY, r3, hG.oY, r6, hG.lY, r7, hG.pY,
    hG.hc, hG.hd, hgr, hG.hm, hG.d1, hgm, k8, hgd, hG.d5, hG.d6, fu hG.uX, hG.uY.of_block eM⟩
  have HR := hide r8
  clear k1 r1 r3 r4 r5 r6 r7 r8 k5 k8 fr S5 eD eM hG g1 g2 fu hW x2
  have g1 := G5.bC
  have g2 := G5.bD
  have f1 := G5.fC
  have f2 := G5.fD
  have d1 := G5.d1
  have G6 := G5.swap.same (Same.refl _).drew
  clear G5
  go_wp2
  go_region
  go_wp2
  refine bodyPost_ret (results_none rfl _ _ _) rfl ?_
  exact ⟨rfl, _, _, _, _, _, _, _, _, _, _, G6, rfl, HR.out⟩

end Go.Proofs.Ytdfcckifbbeoiaa

namespace Go.Proofs.Ytdfcckifbbeoiaa
open Go.RowKit

/-- The first number as it was; the second one, v, in a row of its own. -/
structure Gp (base : Nat) (w wr : World) (c d gn : Nat) (an : Option Addr) (n cn : Nat) (X : Nat → Nat) (v : Value) (k : Nat) (Z : Nat → Nat) : Prop where
  S : w.Since base wr
  bC : wr.cell? ⟨c, 0, none⟩ = some (.slice an n cn)
  bD : wr.cell? ⟨d, 0, none⟩ = some v
  fC : wr.frozen? ⟨c, 0, none⟩ = false
  fD : wr.frozen? ⟨d, 0, none⟩ = false
  LX : Limbs wr an gn 0 n X
  FX : ∀ x, wr.frozen? ⟨gn, x, none⟩ = false
  uX : FullV wr (.slice an n cn) gn
  own : wr.ownsRow base 35 1 v k (ll Z k)
  ap : ∀ q, v.ownBlock = some q → q ≠ c ∧ q ≠ d ∧ q ≠ gn
  hc : base ≤ c
  hd : base ≤ d
  hn : base ≤ gn
  d1 : c ≠ d
  d3 : gn ≠ c
  d4 : gn ≠ d
  lg : gn < wr.heap.size

section
variable {base : Nat} {w wr : World} {c d gn : Nat} {an : Option Addr} {n cn : Nat} {X : Nat → Nat} {v : Value} {k : Nat} {Z : Nat → Nat}
theorem Gp.drew (h : Gp base w wr c d gn an n cn X v k Z) : Gp base w wr.drew c d gn an n cn X v k Z :=
  ⟨⟨h.S.os, h.S.tape, h.S.output, h.S.size, h.S.block⟩, h.bC, h.bD, h.fC, h.fD, h.LX, h.FX, h.uX, h.own, h.ap, h.hc, h.hd, h.hn, h.d1, h.d3, h.d4, h.lg⟩

theorem own_other {base : Nat} {t : TypeId} {v x : Value} {k d o : Nat} {xs : List Value} (h : w.ownsRow base t 1 v k xs) (hd : ∀ q, v.ownBlock = some q → q ≠ d) : (w.setCell ⟨d, o, none⟩ x).ownsRow base t 1 v k xs := by
  obtain ⟨hl, h | ⟨g', cap', cur, rfl, hb, hh, hn, hm, hs, ht⟩⟩ := h
  · exact ⟨hl, Or.inl h⟩
  · exact ⟨hl, Or.inr ⟨g', cap', cur, rfl, hb, (Below.heap_setCell _ _ _ _ (hd g' rfl)).trans hh, hn, hm, hs, ht⟩⟩

theorem Gp.app {w1 : World} {v' : Value} {k' : Nat} {b : Obj} (h : Gp base w wr c d gn an n cn X v k Z) (hown' : w1.ownsRow base 35 1 v' k' (ll Z k')) (hg : (wr.alloc b).grownBy w1 v.ownBlock)
    (hat : v'.ownBlock = v.ownBlock ∨ v'.ownBlock = some (wr.heap.size + 1)) : Gp base w (w1.setCell ⟨d, 0, none⟩ v') c d gn an n cn X v' k' Z := by
  have zc : c < wr.heap.size := World.block_lt_of_cell? _ _ h.bC
  have zd : d < wr.heap.size := World.block_lt_of_cell? _ _ h.bD
  have zg := h.lg
  have sz : (wr.alloc b).heap.size = wr.heap.size + 1 := by simp
  have sA : wr.Since wr.heap.size (wr.alloc b) := (World.Since.refl _ _).alloc (Nat.le_refl _) _
  have blk : ∀ q, q < wr.heap.size → (v.ownBlock ≠ some q) → w1.heap[q]? = wr.heap[q]? := fun q hq hne => (hg.block q (by omega) (fun e => hne e.symm)).trans (sA.block q hq)
  have eC := blk c zc (fun e => (h.ap c e).1 rfl)
  have eD := blk d zd (fun e => (h.ap d e).2.1 rfl)
  have eG := blk gn zg (fun e => (h.ap gn e).2.2 rfl)
  have hsz : wr.heap.size + 1 ≤ w1.heap.size := by rw [← sz]; exact hg.size
  have S1 : w.Since base w1 := ⟨(hg.os.trans sA.os).trans h.S.os, (hg.tape.trans sA.tape).trans h.S.tape, (hg.output.trans sA.output).trans h.S.output, by have := h.S.size; omega, fun q hq => (blk q (by have := h.hc; omega) (fun e => by have := (h.own.lt q e).1; omega)).trans (h.S.block q hq)⟩
  have ap : ∀ q, v'.ownBlock = some q → q ≠ c ∧ q ≠ d ∧ q ≠ gn := fun q hq => by
    rcases hat with e | e
    · exact h.ap q (e.symm.trans hq)
    · rw [hq] at e; simp at e; omega
  refine ⟨S1.setCell h.hd _, ?_, World.cell?_setCell_same _ _ _ ((World.cell?_of_block (w := wr) (a := ⟨d, 0, none⟩) eD).trans h.bD), ?_, ?_, ?_, fun x => ?_, (h.uX.of_block eG).setCell _ _ _, own_other hown' (fun q hq => (ap q hq).2.1), ap, h.hc, h.hd, h.hn, h.d1, h.d3, h.d4, ?_⟩
  · rw [cellO (by show d ≠ c; exact Ne.symm h.d1)]; exact (World.cell?_of_block (w := wr) (a := ⟨c, 0, none⟩) eC).trans h.bC
  · have := (World.frozen?_of_block (w := wr) (a := ⟨c, 0, none⟩) eC).trans h.fC; simp [this]
  · have := (World.frozen?_of_block (w := wr) (a := ⟨d, 0, none⟩) eD).trans h.fD; simp [this]
  · exact Limbs.setOther (fun j hj => ⟨(h.LX j hj).1, (World.cell?_of_block (w := wr) (a := ⟨gn, 0 + j, none⟩) eG).trans (h.LX j hj).2⟩) (Ne.symm h.d4) _
  · have := (World.frozen?_of_block (w := wr) (a := ⟨gn, x, none⟩) eG).trans (h.FX x); simp [this]
  · simp [World.setCell]; omega
end

/-- Both numbers of n limbs, each in a row of its own, as the second loop of leapTo has them in hand; l the leap's box, p and q the boxes of the two balances. -/
structure Ge (base : Nat) (w wr : World) (c d gn gm n cn cm l p q : Nat) (X Y : Nat → Nat) : Prop where
  S : w.Since base wr
  bC : wr.cell? ⟨c, 0, none⟩ = some (.slice (some ⟨gn, 0, none⟩) n cn)
  bD : wr.cell? ⟨d, 0, none⟩ = some (.slice (some ⟨gm, 0, none⟩) n cm)
  fC : wr.frozen? ⟨c, 0, none⟩ = false
  fD : wr.frozen? ⟨d, 0, none⟩ = false
  LX : Limbs wr (some ⟨gn, 0, none⟩) gn 0 n X
  LY : Limbs wr (some ⟨gm, 0, none⟩) gm 0 n Y
  FX : ∀ x, wr.frozen? ⟨gn, x, none⟩ = false
  FY : ∀ x, wr.frozen? ⟨gm, x, none⟩ = false
  uX : FullV wr (.slice (some ⟨gn, 0, none⟩) n cn) gn
  uY : FullV wr (.slice (some ⟨gm, 0, none⟩) n cm) gm
  nX : n ≤ cn
  nY : n ≤ cm
  hc : base ≤ c
  hd : base ≤ d
  hn : base ≤ gn
  hm : base ≤ gm
  hl : base ≤ l
  hp : base ≤ p
  hq : base ≤ q
  d1 : c ≠ d
  d2 : gn ≠ gm
  d3 : gn ≠ c
  d4 : gn ≠ d
  d5 : gm ≠ c
  d6 : gm ≠ d
  p1 : p ≠ c ∧ p ≠ d ∧ p ≠ gn ∧ p ≠ gm ∧ p ≠ l
  q1 : q ≠ c ∧ q ≠ d ∧ q ≠ gn ∧ q ≠ gm ∧ q ≠ l
  pq : p ≠ q
  l1 : l ≠ c ∧ l ≠ d ∧ l ≠ gn ∧ l ≠ gm

section
variable {base : Nat} {w wr wr' : World} {c d gn gm n cn cm l p q : Nat} {X Y : Nat → Nat}

theorem Ge.drew (h : Ge base w wr c d gn gm n cn cm l p q X Y) : Ge base w wr.drew c d gn gm n cn cm l p q X Y :=
  ⟨⟨h.S.os, h.S.tape, h.S.output, h.S.size, h.S.block⟩, h.bC, h.bD, h.fC, h.fD, h.LX, h.LY, h.FX, h.FY, h.uX, h.uY, h.nX, h.nY, h.hc, h.hd, h.hn, h.hm, h.hl, h.hp, h.hq, h.d1, h.d2, h.d3, h.d4, h.d5, h.d6, h.p1, h.q1, h.pq, h.l1⟩

theorem Ge.marked {b : Nat} (h : Ge base w wr c d gn gm n cn cm l p q X Y) (m : Marked wr wr' b) (hb : b = p ∨ b = q) : Ge base w wr' c d gn gm n cn cm l p q X Y := by
  have h1 := h.p1; have h2 := h.q1
  have bb : base ≤ b := by rcases hb with e | e; (rw [e]; exact h.hp); (rw [e]; exact h.hq)
  have e1 : c ≠ b := by omega
  have e2 : d ≠ b := by omega
  have e3 : gn ≠ b := by omega
  have e4 : gm ≠ b := by omega
  exact ⟨h.S.trans (m.since bb), (m.cell (a := ⟨c, 0, none⟩) e1).trans h.bC, (m.cell (a := ⟨d, 0, none⟩) e2).trans h.bD, (m.frozenO (a := ⟨c, 0, none⟩) e1).trans h.fC, (m.frozenO (a := ⟨d, 0, none⟩) e2).trans h.fD,
    h.LX.marked m (fun _ => e3), h.LY.marked m (fun _ => e4), fun x => (m.frozenO (a := ⟨gn, x, none⟩) e3).trans (h.FX x), fun x => (m.frozenO (a := ⟨gm, x, none⟩) e4).trans (h.FY x), h.uX.marked m, h.uY.marked m, h.nX, h.nY, h.hc, h.hd, h.hn, h.hm, h.hl, h.hp, h.hq, h.d1, h.d2, h.d3, h.d4, h.d5, h.d6, h.p1, h.q1, h.pq, h.l1⟩

theorem Ge.put (h : Ge base w wr c d gn gm n cn cm l p q X Y) (i e f : Nat) : Ge base w ((wr.setCell ⟨gn, i, none⟩ (.int .u32 (e : Int))).setCell ⟨gm, i, none⟩ (.int .u32 (f : Int))) c d gn gm n cn cm l p q (upd X i e) (upd Y i f) := by
  have k1 := h.d3; have k2 := h.d4; have k3 := h.d5; have k4 := h.d6; have k5 := h.d2
  refine ⟨(h.S.setCell h.hn _).setCell h.hm _, ?_, ?_, by simp [h.fC], by simp [h.fD], (h.LX.put e).setOther (Ne.symm k5) _, (h.LY.setOther k5 _).put f, fun x => by simp [h.FX x], fun x => by simp [h.FY x], (h.uX.setCell _ _ _).setCell _ _ _, (h.uY.setCell _ _ _).setCell _ _ _, h.nX, h.nY, h.hc, h.hd, h.hn, h.hm, h.hl, h.hp, h.hq, h.d1, h.d2, h.d3, h.d4, h.d5, h.d6, h.p1, h.q1, h.pq, h.l1⟩
  · rw [cellO (by show gm ≠ c; exact k3), cellO (by show gn ≠ c; exact k1)]; exact h.bC
  · rw [cellO (by show gm ≠ d; exact k4), cellO (by show gn ≠ d; exact k2)]; exact h.bD
end

end Go.Proofs.Ytdfcckifbbeoiaa

namespace Go.Proofs.Ytdfcckifbbeoiaa
open Go.RowKit

set_option maxHeartbeats 3200000 in
set_option maxRecDepth 100000 in
/-- (*nat).leapTo by a leap with steps. -/
theorem leapTo_odd (base c d gn gm : Nat) (an am : Option Addr) (n m cn cm : Nat) (X Y : Nat → Nat) (u v x y : Nat) (w0 w : World) (hn : n ≤ 2097152) (hmn : m ≤ n) (hm1 : 0 < m) (hG : Gd base w0 w c d gn gm an am n m cn cm X Y) (hx : x ≠ 0)
    (hu : u < 4294967296) (hv : v < 4294967296) (hx2 : x < 4294967296) (hy : y < 4294967296) (N M : Nat) (hE : N + u * lv X n = x * lv Y m ∧ M + y * lv Y m = v * lv X n) (hMN : M ≤ N) (hN : N < 2 ^ (32 * n)) :
    Calls Try.prog 129 #[.pointer (some ⟨c, 0, none⟩), .pointer (some ⟨d, 0, none⟩), .agg #[.int .u64 (u : Int), .int .u64 (v : Int), .int .u64 (x : Int), .int .u64 (y : Int), .bool true]] w fun e w' => e = .returned (.tuple #[]) ∧ LeapTo base w0 c d N M w' := by
  have sA : w.Since w.heap.size (w.alloc (.cells #[.int .u64 (u : Int), .int .u64 (v : Int), .int .u64 (x : Int), .int .u64 (y : Int), .bool true] 124)) := (World.Since.refl _ _).alloc (Nat.le_refl _) _
  have hG4 := hG.grow sA
  have bx := Box5.new w (.int .u64 (u : Int)) (.int .u64 (v : Int)) (.int .u64 (x : Int)) (.int .u64 (y : Int)) (.bool true) 124
  have hL : base ≤ w.heap.size := hG.base_le
  have l1 : c < w.heap.size := World.block_lt_of_cell? _ _ hG.bC
  have l2 : d < w.heap.size := World.block_lt_of_cell? _ _ hG.bD
  have l3 : gn < w.heap.size := hG.LX.lt (by omega)
  have l4 : gm < w.heap.size := hG.LY.lt hm1
  go_enter Try.func129, Try.ntmps129
  clear sA
  generalize hW : w.alloc (.cells #[.int .u64 (u : Int), .int .u64 (v : Int), .int .u64 (x : Int), .int .u64 (y : Int), .bool true] 124) = w4 at *
  have HE := hide hE
  have HN := hide hN
  have HMN := hide hMN
  have LLY : Hid (ll (extL Y m) m = ll Y m) := by
    simp only [Hid, ll]
    exact List.map_congr_left fun j hj => by simp [extL, List.mem_range.1 hj]
  have P0 : Gp base w0 w4 c d gn an n cn X (.slice am m cm) m (extL Y m) := by
    refine ⟨hG4.S, hG4.bC, hG4.bD, hG4.fC, hG4.fD, hG4.LX, hG4.FX (by omega), hG4.uX, by rw [LLY.out]; exact hG4.ownY hm1, ?_, hG4.hc, hG4.hd, hG4.hn, hG4.d1, hG4.d3, hG4.d4, hG4.LX.lt (by omega)⟩
    intro q hq
    have e := limbs_some hG4.LY hm1
    subst e
    simp [Value.ownBlock] at hq
    subst hq
    exact ⟨hG4.d5, hG4.d6, Ne.symm hG4.d2⟩
  have LY0 := limbs_some hG.LY hm1
  have hNC := hG.nX
  have XL := hide hG.lX
  have YL := hide hG.lY
  clear hG hG4 hE hN hMN
  have x2 := bx.c2
  have hxn : ((x : Int) == 0) = false := by simp; omega
  obtain ⟨i0, hi, hz0, hz1, hz2⟩ := info_parts Try.info35
  go_wp2
  go_loopg [] (n - m) (fun g wr => ∃ (k : Nat) (v' : Value), m ≤ k ∧ k ≤ n ∧ Hid (g = n - k) ∧ Gp base w0 wr c d gn an n cn X v' k (extL Y m) ∧ Box5 wr w.heap.size (.int .u64 (u : Int)) (.int .u64 (v : Int)) (.int .u64 (x : Int)) (.int .u64 (y : Int)) (.bool true) ∧ (∀ q, v'.ownBlock = some q → q ≠ w.heap.size))
  case atStart =>
    exact ⟨m, _, Nat.le_refl _, hmn, hide rfl, P0, bx, fun q hq => by
      simp [Value.ownBlock] at hq
      have e := LY0
      rw [e] at hq
      simp at hq
      omega⟩
  case round =>
    clear P0 bx x2
    obtain ⟨k, v', hmk, hkn, Hg, PK, bx, hqL⟩ := hrel
    obtain ⟨a, cap, rfl, hkc, hac, hag⟩ := own_slice PK.own
    have b1 := PK.bC
    have b2 := PK.bD
    by_cases hlt : k < n
    · have hki : (k : Int) < (n : Int) := by omega
      go_wp2
      go_region
      have PK := PK.drew
      have bx := bx.drew
      clear b1 b2
      generalize wr.drew = wd at *
      have b1 := PK.bC
      have b2 := PK.bD
      have ho := PK.own
      have fD := PK.fD
      have hbw : base ≤ wd.heap.size := by have h1 := PK.hn; have h2 := PK.lg; omega
      go_wp2_with (at_builtin; refine wpList_append_own_at _ rfl _ _ 68 rfl base 35 i0 (.int .u32 0) 1 4 Try.underlying68 hi hz0 hz1 hz2 rfl (by decide) _ _ _ rfl (ho.alloc _) ⟨wd.heap.size, 0, none⟩ 1 1 [.int .u32 0] rfl rfl (new_cell _ _ _) (one_one _ rfl) (by unfold maxLen; omega) (by omega) (by simp; omega) ?_)
      intro v' w1 hown' hgrow hnn hat
      rw [ll_snoc Y m k hmk] at hown'
      have PN := PK.app hown' hgrow hat
      have sW := (World.Since.refl wd.heap.size wd).alloc (Nat.le_refl _) (.cells #[.int .u32 0] 35)
      have hC : ∀ q, (Value.slice a k cap).ownBlock = some q → q ≠ c ∧ q ≠ d ∧ q ≠ gn := PK.ap
      have eL := (hgrow.block w.heap.size (by have := bx.lt; simp; omega) (fun e => hqL _ e.symm rfl)).trans (sW.block _ bx.lt)
      have bx1 : Box5 w1 w.heap.size (.int .u64 (u : Int)) (.int .u64 (v : Int)) (.int .u64 (x : Int)) (.int .u64 (y : Int)) (.bool true) :=
        ⟨(World.cell?_of_block (w := wd) (a := ⟨w.heap.size, 0, none⟩) eL).trans bx.c0, (World.cell?_of_block (w := wd) (a := ⟨w.heap.size, 1, none⟩) eL).trans bx.c1, (World.cell?_of_block (w := wd) (a := ⟨w.heap.size, 2, none⟩) eL).trans bx.c2, (World.cell?_of_block (w := wd) (a := ⟨w.heap.size, 3, none⟩) eL).trans bx.c3, (World.cell?_of_block (w := wd) (a := ⟨w.heap.size, 4, none⟩) eL).trans bx.c4, fun k => (World.frozen?_of_block (w := wd) (a := ⟨w.heap.size, k, none⟩) eL).trans (bx.f k)⟩
      have bx2 := bx1.marked ((Marked.refl w1 d).setCell 0 v') (by omega)
      have q1 : w1.cell? ⟨d, 0, none⟩ = some (.slice a k cap) := hgrow.cell ((sW.cell (a := ⟨d, 0, none⟩) (World.block_lt_of_cell? _ _ b2)).trans b2) (fun e => (hC d e.symm).2.1 rfl)
      have f1 : w1.frozen? ⟨d, 0, none⟩ = false := by have := PN.fD; simpa using this
      have hq2 : ∀ q, v'.ownBlock = some q → q ≠ w.heap.size := fun q hq => by
        rcases hat with e | e
        · exact hqL q (e.symm.trans hq)
        · rw [hq] at e; have := bx.lt; simp at e; omega
      obtain ⟨a1, cap1, rfl, hkc1, hac1, hag1⟩ := own_slice hown'
      clear hgrow hnn hat sW PK bx ho b1 b2 fD hown' bx1 eL hC
      go_wp2
      go_roundg (n - (k + 1))
      case measure => have := Hg.out; omega
      case rel => exact ⟨k + 1, _, by omega, by omega, rfl, PN, bx2, hq2⟩
    · have e : k = n := by omega
      subst e
      obtain ⟨gm', cm', e', hcm, hbm, hgl, LY', FY'⟩ := own_limbs_some PK.own (by intro h; cases h; omega)
      cases e'
      have H' := own_shape PK.own rfl
      have hne : ¬ ((k : Int) < (k : Int)) := by omega
      have ap := PK.ap gm' rfl
      have hqL' := hqL gm' rfl
      have ea := limbs_some PK.LX (by omega)
      subst ea
      go_wp2
      go_region
      have PK := PK.drew
      have bx := bx.drew
      have LY' : Limbs wr.drew (some ⟨gm', 0, none⟩) gm' 0 k (extL Y m) := LY'
      have FY' : ∀ o, wr.drew.frozen? ⟨gm', o, none⟩ = false := FY'
      have H' : Shape wr.drew gm' 35 cap ∧ cap ≤ maxLen := H'
      have hgl : gm' < wr.drew.heap.size := hgl
      clear b1 b2
      generalize wr.drew = wd at *
      have b1 := PK.bC
      have zc : c < wd.heap.size := World.block_lt_of_cell? _ _ b1
      have zd : d < wd.heap.size := World.block_lt_of_cell? _ _ PK.bD
      have zg := PK.lg
      have zl := bx.lt
      have zc1 : c < wd.heap.size + 1 := by omega
      go_wp2
      have sE : wd.Since wd.heap.size ((wd.alloc (.cells #[.int .u64 0, .int .u64 0, .int .u64 0] 133)).alloc (.cells #[.int .u64 0, .int .u64 0, .int .u64 0] 133)) := ((World.Since.refl _ _).alloc (Nat.le_refl _) _).alloc (by simp) _
      have bE1 : Box3 ((wd.alloc (.cells #[.int .u64 0, .int .u64 0, .int .u64 0] 133)).alloc (.cells #[.int .u64 0, .int .u64 0, .int .u64 0] 133)) wd.heap.size (.int .u64 0) (.int .u64 0) (.int .u64 0) :=
        (Box3.new wd (.int .u64 0) (.int .u64 0) (.int .u64 0) 133).keep ((World.Since.refl _ _).alloc (Nat.le_refl _) _)
      have bE2 : Box3 ((wd.alloc (.cells #[.int .u64 0, .int .u64 0, .int .u64 0] 133)).alloc (.cells #[.int .u64 0, .int .u64 0, .int .u64 0] 133)) (wd.heap.size + 1) (.int .u64 0) (.int .u64 0) (.int .u64 0) := by
        have := Box3.new (wd.alloc (.cells #[.int .u64 0, .int .u64 0, .int .u64 0] 133)) (.int .u64 0) (.int .u64 0) (.int .u64 0) 133
        simpa using this
      generalize ((wd.alloc (.cells #[.int .u64 0, .int .u64 0, .int .u64 0] 133)).alloc (.cells #[.int .u64 0, .int .u64 0, .int .u64 0] 133)) = wE at *
      have bxE := bx.keep sE
      have E0 : Ge base w0 wE c d gn gm' k cn cap w.heap.size wd.heap.size (wd.heap.size + 1) X (extL Y m) :=
        ⟨PK.S.trans (sinceMono sE (by have := PK.hc; omega)), (sE.cell (a := ⟨c, 0, none⟩) zc).trans PK.bC, (sE.cell (a := ⟨d, 0, none⟩) zd).trans PK.bD, (sE.frozen (a := ⟨c, 0, none⟩) zc).trans PK.fC, (sE.frozen (a := ⟨d, 0, none⟩) zd).trans PK.fD,
          PK.LX.keep sE, LY'.keep sE, fun x => (sE.frozen (a := ⟨gn, x, none⟩) zg).trans (PK.FX x), fun x => (sE.frozen (a := ⟨gm', x, none⟩) hgl).trans (FY' x), PK.uX.since sE (Nat.le_refl _), fun _ _ _ h _ => by cases h; exact ⟨H'.1.since sE hgl, H'.2⟩,
          hNC, hcm, PK.hc, PK.hd, PK.hn, hbm, hL, by have := PK.hc; omega, by have := PK.hc; omega, PK.d1, Ne.symm ap.2.2, PK.d3, PK.d4, ap.1, ap.2.1, ⟨by omega, by omega, by omega, by omega, by omega⟩, ⟨by omega, by omega, by omega, by omega, by omega⟩, by omega, ⟨by omega, by omega, by omega, by omega⟩⟩
      clear PK LY' FY' H' hgl b1 zc zd zg zl zc1 sE bx hcm hbm ap hqL' hac hag hkc hqL hL l1 l2 l3 l4 hmk hW
      have hmi := hmn
      clear hmn
      obtain ⟨l, el⟩ : ∃ l, l = w.heap.size := ⟨_, rfl⟩
      obtain ⟨p, ep⟩ : ∃ p, p = wd.heap.size := ⟨_, rfl⟩
      obtain ⟨q, eq⟩ : ∃ q, q = wd.heap.size + 1 := ⟨_, rfl⟩
      rw [← el, ← eq, ← ep] at E0
      rw [← eq] at bE2
      rw [← ep] at bE1
      rw [← el] at bxE
      rw [← eq, ← ep, ← el]
      clear el ep eq
      go_loopw [55] (fun t wr => ∃ (i : Nat) (VX VY : Nat → Nat) (P1 Q1 o1 P2 Q2 o2 : Nat), i ≤ k ∧ t = .int .i64 (i : Int) ∧ Ge base w0 wr c d gn gm' k cn cap l p q VX VY ∧ Box5 wr l (.int .u64 (u : Int)) (.int .u64 (v : Int)) (.int .u64 (x : Int)) (.int .u64 (y : Int)) (.bool true) ∧
         Box3 wr p (.int .u64 (P1 : Int)) (.int .u64 (Q1 : Int)) (.int .u64 (o1 : Int)) ∧ Box3 wr q (.int .u64 (P2 : Int)) (.int .u64 (Q2 : Int)) (.int .u64 (o2 : Int)) ∧ Hid (∀ j, i ≤ j → VX j = X j ∧ VY j = extL Y m j) ∧ Hid (Bal x (extL Y m) u X VX i P1 Q1 o1) ∧ Hid (Bal v X y (extL Y m) VY i P2 Q2 o2)) (fun t _ => k - (intOf t).toNat)
      case atStart => exact ⟨0, X, extL Y m, 0, 0, 0, 0, 0, 0, Nat.zero_le _, rfl, E0, bxE, bE1, bE2, fun _ _ => ⟨rfl, rfl⟩, bal_start _ _ _ _ _, bal_start _ _ _ _ _⟩
      case round =>
        clear E0 bxE bE1 bE2
        obtain ⟨i, VX, VY, P1, Q1, o1, P2, Q2, o2, hi, rfl, E1, bL, B1, B2, HV, HB1, HB2⟩ := hrel
        by_cases hlt : i < k
        · have g1 : wr.cell? ⟨gn, i, none⟩ = some (.int .u32 (VX i)) := by simpa using (E1.LX i hlt).2
          have g2 : wr.cell? ⟨gm', i, none⟩ = some (.int .u32 (VY i)) := by simpa using (E1.LY i hlt).2
          obtain ⟨hvx, hvy⟩ := HV.out i (Nat.le_refl _)
          have lx : X i < 4294967296 := XL.out i hlt
          have ly : extL Y m i < 4294967296 := extL_lt YL.out i
          rw [hvx] at g1
          rw [hvy] at g2
          have ST1 := hide (fun (e o' : Nat) (W : Nat → Nat) => bal_step (d := e) (o' := o') (E := W) HB1.out)
          have ST2 := hide (fun (e o' : Nat) (W : Nat → Nat) => bal_step (d := e) (o' := o') (E := W) HB2.out)
          have hP1 := HB1.out.2.1
          have hQ1 := HB1.out.2.2.1
          have ho1 := HB1.out.2.2.2.1
          have hP2 := HB2.out.2.1
          have hQ2 := HB2.out.2.2.1
          have ho2 := HB2.out.2.2.2.1
          obtain ⟨xi, exi⟩ : ∃ r, r = X i := ⟨_, rfl⟩
          obtain ⟨zi, ezi⟩ : ∃ r, r = extL Y m i := ⟨_, rfl⟩
          rw [← exi] at g1 lx ST1 ST2
          rw [← ezi] at g2 ly ST1 ST2
          clear exi ezi hvx hvy HB1 HB2
          obtain ⟨F1, f1⟩ : ∃ F, F = xi * u := ⟨_, rfl⟩
          obtain ⟨F2, f2⟩ : ∃ F, F = zi * x := ⟨_, rfl⟩
          obtain ⟨F3, f3⟩ : ∃ F, F = xi * v := ⟨_, rfl⟩
          obtain ⟨F4, f4⟩ : ∃ F, F = zi * y := ⟨_, rfl⟩
          have t1 : F1 + 4294967295 < 18446744073709551616 := by rw [f1]; exact carry_lt hu lx (by omega)
          have t2 : F2 + 4294967295 < 18446744073709551616 := by rw [f2]; exact carry_lt hx2 ly (by omega)
          have t3 : F3 + 4294967295 < 18446744073709551616 := by rw [f3]; exact carry_lt hv lx (by omega)
          have t4 : F4 + 4294967295 < 18446744073709551616 := by rw [f4]; exact carry_lt hy ly (by omega)
          have m1 := wrap_mul xi u F1 f1.symm (by omega)
          have m2 := wrap_mul zi x F2 f2.symm (by omega)
          have m3 := wrap_mul xi v F3 f3.symm (by omega)
          have m4 := wrap_mul zi y F4 f4.symm (by omega)
          have h1 := hide f1
          have h2 := hide f2
          have h3 := hide f3
          have h4 := hide f4
          clear f1 f2 f3 f4
          have c1 := E1.bC
          have c2 := E1.bD
          have q0 := bL.c0
          have q1 := bL.c1
          have q2 := bL.c2
          have q3 := bL.c3
          have q4 := bL.c4
          have hik : (i : Int) < (k : Int) := by omega
          go_wp2
          go_region
          have E1 := E1.drew
          have bL := bL.drew
          have B1 : Box3 wr.drew p _ _ _ := ⟨B1.c0, B1.c1, B1.c2, B1.f⟩
          have B2 : Box3 wr.drew q _ _ _ := ⟨B2.c0, B2.c1, B2.c2, B2.f⟩
          have g1 : wr.drew.cell? ⟨gn, i, none⟩ = _ := g1
          have g2 : wr.drew.cell? ⟨gm', i, none⟩ = _ := g2
          clear c1 c2 q0 q1 q2 q3 q4
          generalize wr.drew = wr1 at *
          have c1 := E1.bC
          have c2 := E1.bD
          have q0 := bL.c0
          have q1 := bL.c1
          have q2 := bL.c2
          have q3 := bL.c3
          have q4 := bL.c4
          go_wp2
          go_region
          have E1 := E1.drew
          have bL := bL.drew
          have B1 : Box3 wr1.drew p _ _ _ := ⟨B1.c0, B1.c1, B1.c2, B1.f⟩
          have B2 : Box3 wr1.drew q _ _ _ := ⟨B2.c0, B2.c1, B2.c2, B2.f⟩
          have g1 : wr1.drew.cell? ⟨gn, i, none⟩ = _ := g1
          have g2 : wr1.drew.cell? ⟨gm', i, none⟩ = _ := g2
          clear c1 c2 q0 q1 q2 q3 q4
          generalize wr1.drew = wr2 at *
          have c1 := E1.bC
          have c2 := E1.bD
          have q0 := bL.c0
          have q1 := bL.c1
          have q2 := bL.c2
          have q3 := bL.c3
          have q4 := bL.c4
          go_wp2
          have bb1 : Box3 wr2.drew p _ _ _ := ⟨B1.c0, B1.c1, B1.c2, B1.f⟩
          have bb2 : Box3 wr2.drew q _ _ _ := ⟨B2.c0, B2.c1, B2.c2, B2.f⟩
          have J1 := take_any p F2 F1 P1 Q1 o1 wr2.drew bb1 (by omega) (by omega) ho1
          have J2 := take_any q F3 F4 P2 Q2 o2 wr2.drew bb2 (by omega) (by omega) ho2
          have npq := E1.pq
          have np := E1.p1
          have nq := E1.q1
          have nl := E1.l1
          have ngm := E1.d2
          have n1 := E1.d3
          have n2 := E1.d4
          have n3 := E1.d5
          have n4 := E1.d6
          have ED := E1.drew
          have bD := bL.drew
          clear B1 B2 g1 g2 q0 q1 q2 q3 q4 bL E1 hm1 hx hxn LLY LY0 bx m1 m2 m3 m4 c1 c2 hik hNC
          refine wp_region_held_drew (S := fun w' => w'.cell? ⟨c, 0, none⟩ = some (.slice (some ⟨gn, 0, none⟩) k cn) ∧ w'.cell? ⟨d, 0, none⟩ = some (.slice (some ⟨gm', 0, none⟩) k cap)) (by kernel_rfl) ⟨ED.bC, ED.bD⟩ (fun hHeld => ?_)
          refine take_at 0 (some 96) (.pointer (some ⟨c, 0, none⟩)) rfl (by kernel_rfl) (by kernel_rfl) (by kernel_rfl) (by kernel_rfl) (fun _ _ _ h => h) (by kernel_rfl) (by assumption) ?_ ?_
          · intro w' hSw
            clear hSw
            kernel_rfl
          simp only [Act.put, List.setIfInBounds_toArray, List.set_cons_zero, List.set_cons_succ]
          refine take_at 1 (some 97) (.pointer (some ⟨c, 0, none⟩)) rfl (by kernel_rfl) (by kernel_rfl) (by kernel_rfl) (by kernel_rfl) (fun _ _ _ h => h) (by kernel_rfl) (by assumption) ?_ ?_
          · intro w' hSw
            clear hSw
            kernel_rfl
          simp only [Act.put, List.setIfInBounds_toArray, List.set_cons_zero, List.set_cons_succ]
          refine take_at 2 (some 98) (.slice (some ⟨gn, 0, none⟩) k cn) rfl (by kernel_rfl) (by kernel_rfl) (by kernel_rfl) (by kernel_rfl) (fun _ _ _ h => h) (by kernel_rfl) (by assumption) ?_ ?_
          · intro w' hSw
            obtain ⟨hs1, hs2⟩ := hSw
            go_simp
          simp only [Act.put, List.setIfInBounds_toArray, List.set_cons_zero, List.set_cons_succ]
          refine take_at 3 (some 99) (.int .i64 (i : Int)) rfl (by kernel_rfl) (by kernel_rfl) (by kernel_rfl) (by kernel_rfl) (fun _ _ _ h => h) (by kernel_rfl) (by assumption) ?_ ?_
          · intro w' hSw
            clear hSw
            kernel_rfl
          simp only [Act.put, List.setIfInBounds_toArray, List.set_cons_zero, List.set_cons_succ]
          refine take_at 4 (some 100) (.pointer (some ⟨d, 0, none⟩)) rfl (by kernel_rfl) (by kernel_rfl) (by kernel_rfl) (by kernel_rfl) (fun _ _ _ h => h) (by kernel_rfl) (by assumption) ?_ ?_
          · intro w' hSw
            clear hSw
            kernel_rfl
          simp only [Act.put, List.setIfInBounds_toArray, List.set_cons_zero, List.set_cons_succ]
          refine take_at 5 (some 101) (.pointer (some ⟨d, 0, none⟩)) rfl (by kernel_rfl) (by kernel_rfl) (by kernel_rfl) (by kernel_rfl) (fun _ _ _ h => h) (by kernel_rfl) (by assumption) ?_ ?_
          · intro w' hSw
            clear hSw
            kernel_rfl
          simp only [Act.put, List.setIfInBounds_toArray, List.set_cons_zero, List.set_cons_succ]
          refine take_at 6 (some 102) (.slice (some ⟨gm', 0, none⟩) k cap) rfl (by kernel_rfl) (by kernel_rfl) (by kernel_rfl) (by kernel_rfl) (fun _ _ _ h => h) (by kernel_rfl) (by assumption) ?_ ?_
          · intro w' hSw
            obtain ⟨hs1, hs2⟩ := hSw
            go_simp
          simp only [Act.put, List.setIfInBounds_toArray, List.set_cons_zero, List.set_cons_succ]
          refine take_at 7 (some 103) (.int .i64 (i : Int)) rfl (by kernel_rfl) (by kernel_rfl) (by kernel_rfl) (by kernel_rfl) (fun _ _ _ h => h) (by kernel_rfl) (by assumption) ?_ ?_
          · intro w' hSw
            clear hSw
            kernel_rfl
          simp only [Act.put, List.setIfInBounds_toArray, List.set_cons_zero, List.set_cons_succ]
          refine take_at 8 (some 104) (.int .u64 (F2 : Int)) rfl (by kernel_rfl) (by kernel_rfl) (by kernel_rfl) (by kernel_rfl) (fun _ _ _ h => h) (by kernel_rfl) (by assumption) ?_ ?_
          · intro w' hSw
            clear hSw
            kernel_rfl
          simp only [Act.put, List.setIfInBounds_toArray, List.set_cons_zero, List.set_cons_succ]
          refine take_at 9 (some 105) (.int .u64 (F1 : Int)) rfl (by kernel_rfl) (by kernel_rfl) (by kernel_rfl) (by kernel_rfl) (fun _ _ _ h => h) (by kernel_rfl) (by assumption) ?_ ?_
          · intro w' hSw
            clear hSw
            kernel_rfl
          simp only [Act.put, List.setIfInBounds_toArray, List.set_cons_zero, List.set_cons_succ]
          refine take_at 11 (some 107) (.int .u64 (F3 : Int)) rfl (by kernel_rfl) (by kernel_rfl) (by kernel_rfl) (by kernel_rfl) (fun _ _ _ h => h) (by kernel_rfl) (by assumption) ?_ ?_
          · intro w' hSw
            clear hSw
            kernel_rfl
          simp only [Act.put, List.setIfInBounds_toArray, List.set_cons_zero, List.set_cons_succ]
          refine take_at 12 (some 108) (.int .u64 (F4 : Int)) rfl (by kernel_rfl) (by kernel_rfl) (by kernel_rfl) (by kernel_rfl) (fun _ _ _ h => h) (by kernel_rfl) (by assumption) ?_ ?_
          · intro w' hSw
            clear hSw
            kernel_rfl
          simp only [Act.put, List.setIfInBounds_toArray, List.set_cons_zero, List.set_cons_succ]
          refine wpAnyH_ready (rs := [10]) (by kernel_rfl) (by simp) ?_
          refine AllReadyH.cons rfl (fun K hK => ?_) AllReadyH.nil
          go_simp
          go_wp2_with (go_at_call 139; with_reducible refine J1.mono ?_; rintro e w5 ⟨d1, r1, rfl, M1, C1, hd1, hr1, he1⟩)
          have D2 := bb2.marked M1 (Ne.symm npq)
          have E5 := ED.marked M1 (Or.inl rfl)
          have b5 := bD.marked M1 (Ne.symm np.2.2.2.2)
          have J4 := take_any q F3 F4 P2 Q2 o2 w5 D2 (by omega) (by omega) ho2
          refine hK.out _ _ ⟨E5.bC, E5.bD⟩ (fun h1 => ?_)
          clear hK K hHeld
          refine wpAnyH_ready (rs := [13]) (by kernel_rfl) (by simp) ?_
          refine AllReadyH.cons rfl (fun K hK => ?_) AllReadyH.nil
          go_simp
          go_wp2_with (go_at_call 139; with_reducible refine J4.mono ?_; rintro e w6 ⟨d2, r2, rfl, M2, C2, hd2, hr2, he2⟩)
          have BB1 := C1.marked M2 npq
          have BB2 := C2
          have E6 := E5.marked M2 (Or.inr rfl)
          have b6 := b5.marked M2 (Ne.symm nq.2.2.2.2)
          refine hK.out _ _ ⟨E6.bC, E6.bD⟩ (fun h2 => ?_)
          clear hK K h1
          refine take_at 14 (some 110) (.pointer (some ⟨gn, i, none⟩)) rfl (by kernel_rfl) (by kernel_rfl) (by kernel_rfl) (by kernel_rfl) (fun _ _ _ h => h) (by kernel_rfl) (by assumption) ?_ ?_
          · intro w' hSw
            clear hSw
            go_simp
            try (intro h; omega)
          simp only [Act.put, List.setIfInBounds_toArray, List.set_cons_zero, List.set_cons_succ]
          refine wpAnyH_ready (rs := [15]) (by kernel_rfl) (by simp) ?_
          refine AllReadyH.cons rfl (fun K hK => ?_) AllReadyH.nil
          have s1 : w6.cell? ⟨gn, i, none⟩ = some (.int .u32 (VX i)) := by simpa using (E6.LX i hlt).2
          have s3 := E6.FX i
          go_simp
          have q1 := cellO (w := w6) (a := ⟨gn, i, none⟩) (b := ⟨c, 0, none⟩) (v := .int .u32 (d1 : Int)) n1
          have q2 := cellO (w := w6) (a := ⟨gn, i, none⟩) (b := ⟨d, 0, none⟩) (v := .int .u32 (d1 : Int)) n2
          refine hK.out _ _ ⟨q1.trans E6.bC, q2.trans E6.bD⟩ (fun h3 => ?_)
          clear hK K h2
          refine take_at 16 (some 111) (.pointer (some ⟨gm', i, none⟩)) rfl (by kernel_rfl) (by kernel_rfl) (by kernel_rfl) (by kernel_rfl) (fun _ _ _ h => h) (by kernel_rfl) (by assumption) ?_ ?_
          · intro w' hSw
            clear hSw
            go_simp
            try (intro h; omega)
          simp only [Act.put, List.setIfInBounds_toArray, List.set_cons_zero, List.set_cons_succ]
          refine wpAnyH_ready (rs := [17]) (by kernel_rfl) (by simp) ?_
          refine AllReadyH.cons rfl (fun K hK => ?_) AllReadyH.nil
          have s2 : (w6.setCell ⟨gn, i, none⟩ (.int .u32 (d1 : Int))).cell? ⟨gm', i, none⟩ = some (.int .u32 (VY i)) := (cellO (show gn ≠ gm' from ngm)).trans (by simpa using (E6.LY i hlt).2)
          have s4 : (w6.setCell ⟨gn, i, none⟩ (.int .u32 (d1 : Int))).frozen? ⟨gm', i, none⟩ = false := by simp [E6.FY i]
          go_simp
          have EN := E6.put i d1 d2
          refine hK.out _ _ ⟨EN.bC, EN.bD⟩ (fun h4 => ?_)
          clear hK K h3 h4 s1 s2 s3 s4 q1 q2
          refine wpAnyH_done (by kernel_rfl) ?_ _
          have bN := (b6.marked ((Marked.refl w6 gn).setCell i (.int .u32 (d1 : Int))) nl.2.2.1).marked ((Marked.refl _ gm').setCell i (.int .u32 (d2 : Int))) nl.2.2.2
          have BN1 := (BB1.marked ((Marked.refl w6 gn).setCell i (.int .u32 (d1 : Int))) np.2.2.1).marked ((Marked.refl _ gm').setCell i (.int .u32 (d2 : Int))) np.2.2.2.1
          have BN2 := (BB2.marked ((Marked.refl w6 gn).setCell i (.int .u32 (d1 : Int))) nq.2.2.1).marked ((Marked.refl _ gm').setCell i (.int .u32 (d2 : Int))) nq.2.2.2.1
          have HN1 : Hid (Bal x (extL Y m) u X (upd VX i d1) (i + 1) ((F2 + P1) / 4294967296) ((F1 + Q1) / 4294967296) r1) := by
            rw [h1.out, h2.out] at he1 ⊢
            exact ST1.out d1 r1 (upd VX i d1) (by omega) (by omega) (by omega) (by omega) hd1 hr1 (fun j hj => upd_other _ _ _ _ (by omega)) (upd_same _ _ _) he1
          have HN2 : Hid (Bal v X y (extL Y m) (upd VY i d2) (i + 1) ((F3 + P2) / 4294967296) ((F4 + Q2) / 4294967296) r2) := by
            rw [h3.out, h4.out] at he2 ⊢
            exact ST2.out d2 r2 (upd VY i d2) (by omega) (by omega) (by omega) (by omega) hd2 hr2 (fun j hj => upd_other _ _ _ _ (by omega)) (upd_same _ _ _) he2
          have HVN : Hid (∀ j, i + 1 ≤ j → upd VX i d1 j = X j ∧ upd VY i d2 j = extL Y m j) := fun j hj => by
            have := HV.out j (by omega)
            rw [upd_other _ _ _ _ (by omega), upd_other _ _ _ _ (by omega)]; exact this
          clear J1 J2 J4 he1 he2 ST1 ST2 E6 b6 BB1 BB2 E5 b5 ED bD C1 C2 M1 M2 D2 HV
          go_wp2
          go_roundw
          case rel => go_light; exact ⟨i + 1, _, _, _, _, _, _, _, _, by omega, by go_num, EN, bN, BN1, BN2, HVN, HN1, HN2⟩
          case measure => simp [intOf]; omega
        · have e : i = k := by omega
          subst e
          have lX := hide HB1.out.2.2.2.2
          have lY := hide HB2.out.2.2.2.2
          have HX : Hid (lv VX i = N) := bal_end HB1.out (by have h := HE.out.1; rw [lv_extL Y m i hmi]; exact h) HN.out
          have HY : Hid (lv VY i = M) := bal_end HB2.out (by have h := HE.out.2; rw [lv_extL Y m i hmi]; exact h) (Nat.lt_of_le_of_lt HMN.out HN.out)
          have c1 := E1.bC
          have c2 := E1.bD
          have hik : ¬ ((i : Int) < (i : Int)) := by omega
          clear HB1 HB2 HV HE HN HMN bL B1 B2 XL YL
          go_wp2_with fail
          refine (trimAt_any c 0 _ gn 0 i cn VX _ (by omega) E1.nX c1 E1.fC E1.LX).mono ?_
          rintro e w5 ⟨rfl, hw5⟩
          have k1 : w5.cell? ⟨d, 0, none⟩ = some (.slice (some ⟨gm', 0, none⟩) i cap) := by rw [hw5, cellO (show c ≠ d from E1.d1)]; exact c2
          have k2 : w5.frozen? ⟨d, 0, none⟩ = false := by rw [hw5]; simp [E1.fD]
          have k3 : Limbs w5 (some ⟨gm', 0, none⟩) gm' 0 i VY := by rw [hw5]; exact E1.LY.setOther (Ne.symm E1.d5) _
          have k4 : w5.cell? ⟨c, 0, none⟩ = some (.slice (some ⟨gn, 0, none⟩) (tlen (nz VX) i) cn) := by rw [hw5]; exact World.cell?_setCell_same _ _ _ c1
          have k5 : w5.frozen? ⟨c, 0, none⟩ = false := by rw [hw5]; simp [E1.fC]
          have k6 : Limbs w5 (some ⟨gn, 0, none⟩) gn 0 i VX := by rw [hw5]; exact E1.LX.setOther (Ne.symm E1.d3) _
          have k7 : w0.Since base w5 := by rw [hw5]; exact E1.S.setCell E1.hc _
          have k8 : ∀ x, w5.frozen? ⟨gn, x, none⟩ = false := fun x => by rw [hw5]; simp [E1.FX x]
          have k9 : ∀ x, w5.frozen? ⟨gm', x, none⟩ = false := fun x => by rw [hw5]; simp [E1.FY x]
          have u1 : FullV w5 (.slice (some ⟨gn, 0, none⟩) i cn) gn := by rw [hw5]; exact E1.uX.setCell _ _ _
          have u2 : FullV w5 (.slice (some ⟨gm', 0, none⟩) i cap) gm' := by rw [hw5]; exact E1.uY.setCell _ _ _
          clear hw5 c1 c2
          go_wp2_with fail
          refine (trimAt_any d 0 _ gm' 0 i cap VY _ (by omega) E1.nY k1 k2 k3).mono ?_
          rintro e w6 ⟨rfl, rfl⟩
          go_wp2
          go_end0
          have t1 := tlen_le (nz VX) i
          have t2 := tlen_le (nz VY) i
          have a1 := E1.nX
          have a2 := E1.nY
          refine ⟨rfl, gn, gm', _, _, _, _, cn, cap, VX, VY, ⟨k7.setCell E1.hd _, by rw [cellO (show d ≠ c from Ne.symm E1.d1)]; exact k4, World.cell?_setCell_same _ _ _ k1, by simp [k5], by simp [k2], (k6.take t1).setOther (Ne.symm E1.d4) _, (k3.take t2).setOther (Ne.symm E1.d6) _, fun _ x => by simp [k8 x], fun _ x => by simp [k9 x],
            by omega, by omega, fun h => (by cases h), fun h => (by cases h), fun j hj => lX.out j (by omega), fun j hj => lY.out j (by omega), fun h => (by have := tlen_top _ _ h; simpa [nz] using this), fun h => (by have := tlen_top _ _ h; simpa [nz] using this), E1.hc, E1.hd, E1.hn, E1.hm, E1.d1, E1.d2, E1.d3, E1.d4, E1.d5, E1.d6, (u1.setCell _ _ _).len, (u2.setCell _ _ _).len⟩, (lv_tlen _ _).trans HX.out, (lv_tlen _ _).trans HY.out⟩

end Go.Proofs.Ytdfcckifbbeoiaa

namespace Go.Proofs.Ytdfcckifbbeoiaa
open Go.RowKit

set_option maxHeartbeats 3200000 in
set_option maxRecDepth 100000 in
/-- (*nat).leapTo by a leap with steps. -/
theorem leapTo_even (base c d gn gm : Nat) (an am : Option Addr) (n m cn cm : Nat) (X Y : Nat → Nat) (u v x y : Nat) (w0 w : World) (hn : n ≤ 2097152) (hmn : m ≤ n) (hm1 : 0 < m) (hG : Gd base w0 w c d gn gm an am n m cn cm X Y) (hx : x ≠ 0)
    (hu : u < 4294967296) (hv : v < 4294967296) (hx2 : x < 4294967296) (hy : y < 4294967296) (N M : Nat) (hE : N + x * lv Y m = u * lv X n ∧ M + v * lv X n = y * lv Y m) (hMN : M ≤ N) (hN : N < 2 ^ (32 * n)) :
    Calls Try.prog 129 #[.pointer (some ⟨c, 0, none⟩), .pointer (some ⟨d, 0, none⟩), .agg #[.int .u64 (u : Int), .int .u64 (v : Int), .int .u64 (x : Int), .int .u64 (y : Int), .bool false]] w fun e w' => e = .returned (.tuple #[]) ∧ LeapTo base w0 c d N M w' := by
  have sA : w.Since w.heap.size (w.alloc (.cells #[.int .u64 (u : Int), .int .u64 (v : Int), .int .u64 (x : Int), .int .u64 (y : Int), .bool false] 124)) := (World.Since.refl _ _).alloc (Nat.le_refl _) _
  have hG4 := hG.grow sA
  have bx := Box5.new w (.int .u64 (u : Int)) (.int .u64 (v : Int)) (.int .u64 (x : Int)) (.int .u64 (y : Int)) (.bool false) 124
  have hL : base ≤ w.heap.size := hG.base_le
  have l1 : c < w.heap.size := World.block_lt_of_cell? _ _ hG.bC
  have l2 : d < w.heap.size := World.block_lt_of_cell? _ _ hG.bD
  have l3 : gn < w.heap.size := hG.LX.lt (by omega)
  have l4 : gm < w.heap.size := hG.LY.lt hm1
  go_enter Try.func129, Try.ntmps129
  clear sA
  generalize hW : w.alloc (.cells #[.int .u64 (u : Int), .int .u64 (v : Int), .int .u64 (x : Int), .int .u64 (y : Int), .bool false] 124) = w4 at *
  have HE := hide hE
  have HN := hide hN
  have HMN := hide hMN
  have LLY : Hid (ll (extL Y m) m = ll Y m) := by
    simp only [Hid, ll]
    exact List.map_congr_left fun j hj => by simp [extL, List.mem_range.1 hj]
  have P0 : Gp base w0 w4 c d gn an n cn X (.slice am m cm) m (extL Y m) := by
    refine ⟨hG4.S, hG4.bC, hG4.bD, hG4.fC, hG4.fD, hG4.LX, hG4.FX (by omega), hG4.uX, by rw [LLY.out]; exact hG4.ownY hm1, ?_, hG4.hc, hG4.hd, hG4.hn, hG4.d1, hG4.d3, hG4.d4, hG4.LX.lt (by omega)⟩
    intro q hq
    have e := limbs_some hG4.LY hm1
    subst e
    simp [Value.ownBlock] at hq
    subst hq
    exact ⟨hG4.d5, hG4.d6, Ne.symm hG4.d2⟩
  have LY0 := limbs_some hG.LY hm1
  have hNC := hG.nX
  have XL := hide hG.lX
  have YL := hide hG.lY
  clear hG hG4 hE hN hMN
  have x2 := bx.c2
  have hxn : ((x : Int) == 0) = false := by simp; omega
  obtain ⟨i0, hi, hz0, hz1, hz2⟩ := info_parts Try.info35
  go_wp2
  go_loopg [] (n - m) (fun g wr => ∃ (k : Nat) (v' : Value), m ≤ k ∧ k ≤ n ∧ Hid (g = n - k) ∧ Gp base w0 wr c d gn an n cn X v' k (extL Y m) ∧ Box5 wr w.heap.size (.int .u64 (u : Int)) (.int .u64 (v : Int)) (.int .u64 (x : Int)) (.int .u64 (y : Int)) (.bool false) ∧ (∀ q, v'.ownBlock = some q → q ≠ w.heap.size))
  case atStart =>
    exact ⟨m, _, Nat.le_refl _, hmn, hide rfl, P0, bx, fun q hq => by
      simp [Value.ownBlock] at hq
      have e := LY0
      rw [e] at hq
      simp at hq
      omega⟩
  case round =>
    clear P0 bx x2
    obtain ⟨k, v', hmk, hkn, Hg, PK, bx, hqL⟩ := hrel
    obtain ⟨a, cap, rfl, hkc, hac, hag⟩ := own_slice PK.own
    have b1 := PK.bC
    have b2 := PK.bD
    by_cases hlt : k < n
    · have hki : (k : Int) < (n : Int) := by omega
      go_wp2
      go_region
      have PK := PK.drew
      have bx := bx.drew
      clear b1 b2
      generalize wr.drew = wd at *
      have b1 := PK.bC
      have b2 := PK.bD
      have ho := PK.own
      have fD := PK.fD
      have hbw : base ≤ wd.heap.size := by have h1 := PK.hn; have h2 := PK.lg; omega
      go_wp2_with (at_builtin; refine wpList_append_own_at _ rfl _ _ 68 rfl base 35 i0 (.int .u32 0) 1 4 Try.underlying68 hi hz0 hz1 hz2 rfl (by decide) _ _ _ rfl (ho.alloc _) ⟨wd.heap.size, 0, none⟩ 1 1 [.int .u32 0] rfl rfl (new_cell _ _ _) (one_one _ rfl) (by unfold maxLen; omega) (by omega) (by simp; omega) ?_)
      intro v' w1 hown' hgrow hnn hat
      rw [ll_snoc Y m k hmk] at hown'
      have PN := PK.app hown' hgrow hat
      have sW := (World.Since.refl wd.heap.size wd).alloc (Nat.le_refl _) (.cells #[.int .u32 0] 35)
      have hC : ∀ q, (Value.slice a k cap).ownBlock = some q → q ≠ c ∧ q ≠ d ∧ q ≠ gn := PK.ap
      have eL := (hgrow.block w.heap.size (by have := bx.lt; simp; omega) (fun e => hqL _ e.symm rfl)).trans (sW.block _ bx.lt)
      have bx1 : Box5 w1 w.heap.size (.int .u64 (u : Int)) (.int .u64 (v : Int)) (.int .u64 (x : Int)) (.int .u64 (y : Int)) (.bool false) :=
        ⟨(World.cell?_of_block (w := wd) (a := ⟨w.heap.size, 0, none⟩) eL).trans bx.c0, (World.cell?_of_block (w := wd) (a := ⟨w.heap.size, 1, none⟩) eL).trans bx.c1, (World.cell?_of_block (w := wd) (a := ⟨w.heap.size, 2, none⟩) eL).trans bx.c2, (World.cell?_of_block (w := wd) (a := ⟨w.heap.size, 3, none⟩) eL).trans bx.c3, (World.cell?_of_block (w := wd) (a := ⟨w.heap.size, 4, none⟩) eL).trans bx.c4, fun k => (World.frozen?_of_block (w := wd) (a := ⟨w.heap.size, k, none⟩) eL).trans (bx.f k)⟩
      have bx2 := bx1.marked ((Marked.refl w1 d).setCell 0 v') (by omega)
      have q1 : w1.cell? ⟨d, 0, none⟩ = some (.slice a k cap) := hgrow.cell ((sW.cell (a := ⟨d, 0, none⟩) (World.block_lt_of_cell? _ _ b2)).trans b2) (fun e => (hC d e.symm).2.1 rfl)
      have f1 : w1.frozen? ⟨d, 0, none⟩ = false := by have := PN.fD; simpa using this
      have hq2 : ∀ q, v'.ownBlock = some q → q ≠ w.heap.size := fun q hq => by
        rcases hat with e | e
        · exact hqL q (e.symm.trans hq)
        · rw [hq] at e; have := bx.lt; simp at e; omega
      obtain ⟨a1, cap1, rfl, hkc1, hac1, hag1⟩ := own_slice hown'
      clear hgrow hnn hat sW PK bx ho b1 b2 fD hown' bx1 eL hC
      go_wp2
      go_roundg (n - (k + 1))
      case measure => have := Hg.out; omega
      case rel => exact ⟨k + 1, _, by omega, by omega, rfl, PN, bx2, hq2⟩
    · have e : k = n := by omega
      subst e
      obtain ⟨gm', cm', e', hcm, hbm, hgl, LY', FY'⟩ := own_limbs_some PK.own (by intro h; cases h; omega)
      cases e'
      have H' := own_shape PK.own rfl
      have hne : ¬ ((k : Int) < (k : Int)) := by omega
      have ap := PK.ap gm' rfl
      have hqL' := hqL gm' rfl
      have ea := limbs_some PK.LX (by omega)
      subst ea
      go_wp2
      go_region
      have PK := PK.drew
      have bx := bx.drew
      have LY' : Limbs wr.drew (some ⟨gm', 0, none⟩) gm' 0 k (extL Y m) := LY'
      have FY' : ∀ o, wr.drew.frozen? ⟨gm', o, none⟩ = false := FY'
      have H' : Shape wr.drew gm' 35 cap ∧ cap ≤ maxLen := H'
      have hgl : gm' < wr.drew.heap.size := hgl
      clear b1 b2
      generalize wr.drew = wd at *
      have b1 := PK.bC
      have zc : c < wd.heap.size := World.block_lt_of_cell? _ _ b1
      have zd : d < wd.heap.size := World.block_lt_of_cell? _ _ PK.bD
      have zg := PK.lg
      have zl := bx.lt
      have zc1 : c < wd.heap.size + 1 := by omega
      go_wp2
      have sE : wd.Since wd.heap.size ((wd.alloc (.cells #[.int .u64 0, .int .u64 0, .int .u64 0] 133)).alloc (.cells #[.int .u64 0, .int .u64 0, .int .u64 0] 133)) := ((World.Since.refl _ _).alloc (Nat.le_refl _) _).alloc (by simp) _
      have bE1 : Box3 ((wd.alloc (.cells #[.int .u64 0, .int .u64 0, .int .u64 0] 133)).alloc (.cells #[.int .u64 0, .int .u64 0, .int .u64 0] 133)) wd.heap.size (.int .u64 0) (.int .u64 0) (.int .u64 0) :=
        (Box3.new wd (.int .u64 0) (.int .u64 0) (.int .u64 0) 133).keep ((World.Since.refl _ _).alloc (Nat.le_refl _) _)
      have bE2 : Box3 ((wd.alloc (.cells #[.int .u64 0, .int .u64 0, .int .u64 0] 133)).alloc (.cells #[.int .u64 0, .int .u64 0, .int .u64 0] 133)) (wd.heap.size + 1) (.int .u64 0) (.int .u64 0) (.int .u64 0) := by
        have := Box3.new (wd.alloc (.cells #[.int .u64 0, .int .u64 0, .int .u64 0] 133)) (.int .u64 0) (.int .u64 0) (.int .u64 0) 133
        simpa using this
      generalize ((wd.alloc (.cells #[.int .u64 0, .int .u64 0, .int .u64 0] 133)).alloc (.cells #[.int .u64 0, .int .u64 0, .int .u64 0] 133)) = wE at *
      have bxE := bx.keep sE
      have E0 : Ge base w0 wE c d gn gm' k cn cap w.heap.size wd.heap.size (wd.heap.size + 1) X (extL Y m) :=
        ⟨PK.S.trans (sinceMono sE (by have := PK.hc; omega)), (sE.cell (a := ⟨c, 0, none⟩) zc).trans PK.bC, (sE.cell (a := ⟨d, 0, none⟩) zd).trans PK.bD, (sE.frozen (a := ⟨c, 0, none⟩) zc).trans PK.fC, (sE.frozen (a := ⟨d, 0, none⟩) zd).trans PK.fD,
          PK.LX.keep sE, LY'.keep sE, fun x => (sE.frozen (a := ⟨gn, x, none⟩) zg).trans (PK.FX x), fun x => (sE.frozen (a := ⟨gm', x, none⟩) hgl).trans (FY' x), PK.uX.since sE (Nat.le_refl _), fun _ _ _ h _ => by cases h; exact ⟨H'.1.since sE hgl, H'.2⟩,
          hNC, hcm, PK.hc, PK.hd, PK.hn, hbm, hL, by have := PK.hc; omega, by have := PK.hc; omega, PK.d1, Ne.symm ap.2.2, PK.d3, PK.d4, ap.1, ap.2.1, ⟨by omega, by omega, by omega, by omega, by omega⟩, ⟨by omega, by omega, by omega, by omega, by omega⟩, by omega, ⟨by omega, by omega, by omega, by omega⟩⟩
      clear PK LY' FY' H' hgl b1 zc zd zg zl zc1 sE bx hcm hbm ap hqL' hac hag hkc hqL hL l1 l2 l3 l4 hmk hW
      have hmi := hmn
      clear hmn
      obtain ⟨l, el⟩ : ∃ l, l = w.heap.size := ⟨_, rfl⟩
      obtain ⟨p, ep⟩ : ∃ p, p = wd.heap.size := ⟨_, rfl⟩
      obtain ⟨q, eq⟩ : ∃ q, q = wd.heap.size + 1 := ⟨_, rfl⟩
      rw [← el, ← eq, ← ep] at E0
      rw [← eq] at bE2
      rw [← ep] at bE1
      rw [← el] at bxE
      rw [← eq, ← ep, ← el]
      clear el ep eq
      go_loopw [55] (fun t wr => ∃ (i : Nat) (VX VY : Nat → Nat) (P1 Q1 o1 P2 Q2 o2 : Nat), i ≤ k ∧ t = .int .i64 (i : Int) ∧ Ge base w0 wr c d gn gm' k cn cap l p q VX VY ∧ Box5 wr l (.int .u64 (u : Int)) (.int .u64 (v : Int)) (.int .u64 (x : Int)) (.int .u64 (y : Int)) (.bool false) ∧
         Box3 wr p (.int .u64 (P1 : Int)) (.int .u64 (Q1 : Int)) (.int .u64 (o1 : Int)) ∧ Box3 wr q (.int .u64 (P2 : Int)) (.int .u64 (Q2 : Int)) (.int .u64 (o2 : Int)) ∧ Hid (∀ j, i ≤ j → VX j = X j ∧ VY j = extL Y m j) ∧ Hid (Bal u X x (extL Y m) VX i P1 Q1 o1) ∧ Hid (Bal y (extL Y m) v X VY i P2 Q2 o2)) (fun t _ => k - (intOf t).toNat)
      case atStart => exact ⟨0, X, extL Y m, 0, 0, 0, 0, 0, 0, Nat.zero_le _, rfl, E0, bxE, bE1, bE2, fun _ _ => ⟨rfl, rfl⟩, bal_start _ _ _ _ _, bal_start _ _ _ _ _⟩
      case round =>
        clear E0 bxE bE1 bE2
        obtain ⟨i, VX, VY, P1, Q1, o1, P2, Q2, o2, hi, rfl, E1, bL, B1, B2, HV, HB1, HB2⟩ := hrel
        by_cases hlt : i < k
        · have g1 : wr.cell? ⟨gn, i, none⟩ = some (.int .u32 (VX i)) := by simpa using (E1.LX i hlt).2
          have g2 : wr.cell? ⟨gm', i, none⟩ = some (.int .u32 (VY i)) := by simpa using (E1.LY i hlt).2
          obtain ⟨hvx, hvy⟩ := HV.out i (Nat.le_refl _)
          have lx : X i < 4294967296 := XL.out i hlt
          have ly : extL Y m i < 4294967296 := extL_lt YL.out i
          rw [hvx] at g1
          rw [hvy] at g2
          have ST1 := hide (fun (e o' : Nat) (W : Nat → Nat) => bal_step (d := e) (o' := o') (E := W) HB1.out)
          have ST2 := hide (fun (e o' : Nat) (W : Nat → Nat) => bal_step (d := e) (o' := o') (E := W) HB2.out)
          have hP1 := HB1.out.2.1
          have hQ1 := HB1.out.2.2.1
          have ho1 := HB1.out.2.2.2.1
          have hP2 := HB2.out.2.1
          have hQ2 := HB2.out.2.2.1
          have ho2 := HB2.out.2.2.2.1
          obtain ⟨xi, exi⟩ : ∃ r, r = X i := ⟨_, rfl⟩
          obtain ⟨zi, ezi⟩ : ∃ r, r = extL Y m i := ⟨_, rfl⟩
          rw [← exi] at g1 lx ST1 ST2
          rw [← ezi] at g2 ly ST1 ST2
          clear exi ezi hvx hvy HB1 HB2
          obtain ⟨F1, f1⟩ : ∃ F, F = xi * u := ⟨_, rfl⟩
          obtain ⟨F2, f2⟩ : ∃ F, F = zi * x := ⟨_, rfl⟩
          obtain ⟨F3, f3⟩ : ∃ F, F = xi * v := ⟨_, rfl⟩
          obtain ⟨F4, f4⟩ : ∃ F, F = zi * y := ⟨_, rfl⟩
          have t1 : F1 + 4294967295 < 18446744073709551616 := by rw [f1]; exact carry_lt hu lx (by omega)
          have t2 : F2 + 4294967295 < 18446744073709551616 := by rw [f2]; exact carry_lt hx2 ly (by omega)
          have t3 : F3 + 4294967295 < 18446744073709551616 := by rw [f3]; exact carry_lt hv lx (by omega)
          have t4 : F4 + 4294967295 < 18446744073709551616 := by rw [f4]; exact carry_lt hy ly (by omega)
          have m1 := wrap_mul xi u F1 f1.symm (by omega)
          have m2 := wrap_mul zi x F2 f2.symm (by omega)
          have m3 := wrap_mul xi v F3 f3.symm (by omega)
          have m4 := wrap_mul zi y F4 f4.symm (by omega)
          have h1 := hide f1
          have h2 := hide f2
          have h3 := hide f3
          have h4 := hide f4
          clear f1 f2 f3 f4
          have c1 := E1.bC
          have c2 := E1.bD
          have q0 := bL.c0
          have q1 := bL.c1
          have q2 := bL.c2
          have q3 := bL.c3
          have q4 := bL.c4
          have hik : (i : Int) < (k : Int) := by omega
          go_wp2
          go_region
          have E1 := E1.drew
          have bL := bL.drew
          have B1 : Box3 wr.drew p _ _ _ := ⟨B1.c0, B1.c1, B1.c2, B1.f⟩
          have B2 : Box3 wr.drew q _ _ _ := ⟨B2.c0, B2.c1, B2.c2, B2.f⟩
          have g1 : wr.drew.cell? ⟨gn, i, none⟩ = _ := g1
          have g2 : wr.drew.cell? ⟨gm', i, none⟩ = _ := g2
          clear c1 c2 q0 q1 q2 q3 q4
          generalize wr.drew = wr1 at *
          have c1 := E1.bC
          have c2 := E1.bD
          have q0 := bL.c0
          have q1 := bL.c1
          have q2 := bL.c2
          have q3 := bL.c3
          have q4 := bL.c4
          go_wp2
          go_region
          have E1 := E1.drew
          have bL := bL.drew
          have B1 : Box3 wr1.drew p _ _ _ := ⟨B1.c0, B1.c1, B1.c2, B1.f⟩
          have B2 : Box3 wr1.drew q _ _ _ := ⟨B2.c0, B2.c1, B2.c2, B2.f⟩
          have g1 : wr1.drew.cell? ⟨gn, i, none⟩ = _ := g1
          have g2 : wr1.drew.cell? ⟨gm', i, none⟩ = _ := g2
          clear c1 c2 q0 q1 q2 q3 q4
          generalize wr1.drew = wr2 at *
          have c1 := E1.bC
          have c2 := E1.bD
          have q0 := bL.c0
          have q1 := bL.c1
          have q2 := bL.c2
          have q3 := bL.c3
          have q4 := bL.c4
          go_wp2
          have bb1 : Box3 wr2.drew p _ _ _ := ⟨B1.c0, B1.c1, B1.c2, B1.f⟩
          have bb2 : Box3 wr2.drew q _ _ _ := ⟨B2.c0, B2.c1, B2.c2, B2.f⟩
          have J1 := take_any p F1 F2 P1 Q1 o1 wr2.drew bb1 (by omega) (by omega) ho1
          have J2 := take_any q F4 F3 P2 Q2 o2 wr2.drew bb2 (by omega) (by omega) ho2
          have npq := E1.pq
          have np := E1.p1
          have nq := E1.q1
          have nl := E1.l1
          have ngm := E1.d2
          have n1 := E1.d3
          have n2 := E1.d4
          have n3 := E1.d5
          have n4 := E1.d6
          have ED := E1.drew
          have bD := bL.drew
          clear B1 B2 g1 g2 q0 q1 q2 q3 q4 bL E1 hm1 hx hxn LLY LY0 bx m1 m2 m3 m4 c1 c2 hik hNC
          refine wp_region_held_drew (S := fun w' => w'.cell? ⟨c, 0, none⟩ = some (.slice (some ⟨gn, 0, none⟩) k cn) ∧ w'.cell? ⟨d, 0, none⟩ = some (.slice (some ⟨gm', 0, none⟩) k cap)) (by kernel_rfl) ⟨ED.bC, ED.bD⟩ (fun hHeld => ?_)
          refine take_at 0 (some 112) (.pointer (some ⟨c, 0, none⟩)) rfl (by kernel_rfl) (by kernel_rfl) (by kernel_rfl) (by kernel_rfl) (fun _ _ _ h => h) (by kernel_rfl) (by assumption) ?_ ?_
          · intro w' hSw
            clear hSw
            kernel_rfl
          simp only [Act.put, List.setIfInBounds_toArray, List.set_cons_zero, List.set_cons_succ]
          refine take_at 1 (some 113) (.pointer (some ⟨c, 0, none⟩)) rfl (by kernel_rfl) (by kernel_rfl) (by kernel_rfl) (by kernel_rfl) (fun _ _ _ h => h) (by kernel_rfl) (by assumption) ?_ ?_
          · intro w' hSw
            clear hSw
            kernel_rfl
          simp only [Act.put, List.setIfInBounds_toArray, List.set_cons_zero, List.set_cons_succ]
          refine take_at 2 (some 114) (.slice (some ⟨gn, 0, none⟩) k cn) rfl (by kernel_rfl) (by kernel_rfl) (by kernel_rfl) (by kernel_rfl) (fun _ _ _ h => h) (by kernel_rfl) (by assumption) ?_ ?_
          · intro w' hSw
            obtain ⟨hs1, hs2⟩ := hSw
            go_simp
          simp only [Act.put, List.setIfInBounds_toArray, List.set_cons_zero, List.set_cons_succ]
          refine take_at 3 (some 115) (.int .i64 (i : Int)) rfl (by kernel_rfl) (by kernel_rfl) (by kernel_rfl) (by kernel_rfl) (fun _ _ _ h => h) (by kernel_rfl) (by assumption) ?_ ?_
          · intro w' hSw
            clear hSw
            kernel_rfl
          simp only [Act.put, List.setIfInBounds_toArray, List.set_cons_zero, List.set_cons_succ]
          refine take_at 4 (some 116) (.pointer (some ⟨d, 0, none⟩)) rfl (by kernel_rfl) (by kernel_rfl) (by kernel_rfl) (by kernel_rfl) (fun _ _ _ h => h) (by kernel_rfl) (by assumption) ?_ ?_
          · intro w' hSw
            clear hSw
            kernel_rfl
          simp only [Act.put, List.setIfInBounds_toArray, List.set_cons_zero, List.set_cons_succ]
          refine take_at 5 (some 117) (.pointer (some ⟨d, 0, none⟩)) rfl (by kernel_rfl) (by kernel_rfl) (by kernel_rfl) (by kernel_rfl) (fun _ _ _ h => h) (by kernel_rfl) (by assumption) ?_ ?_
          · intro w' hSw
            clear hSw
            kernel_rfl
          simp only [Act.put, List.setIfInBounds_toArray, List.set_cons_zero, List.set_cons_succ]
          refine take_at 6 (some 118) (.slice (some ⟨gm', 0, none⟩) k cap) rfl (by kernel_rfl) (by kernel_rfl) (by kernel_rfl) (by kernel_rfl) (fun _ _ _ h => h) (by kernel_rfl) (by assumption) ?_ ?_
          · intro w' hSw
            obtain ⟨hs1, hs2⟩ := hSw
            go_simp
          simp only [Act.put, List.setIfInBounds_toArray, List.set_cons_zero, List.set_cons_succ]
          refine take_at 7 (some 119) (.int .i64 (i : Int)) rfl (by kernel_rfl) (by kernel_rfl) (by kernel_rfl) (by kernel_rfl) (fun _ _ _ h => h) (by kernel_rfl) (by assumption) ?_ ?_
          · intro w' hSw
            clear hSw
            kernel_rfl
          simp only [Act.put, List.setIfInBounds_toArray, List.set_cons_zero, List.set_cons_succ]
          refine take_at 8 (some 120) (.int .u64 (F1 : Int)) rfl (by kernel_rfl) (by kernel_rfl) (by kernel_rfl) (by kernel_rfl) (fun _ _ _ h => h) (by kernel_rfl) (by assumption) ?_ ?_
          · intro w' hSw
            clear hSw
            kernel_rfl
          simp only [Act.put, List.setIfInBounds_toArray, List.set_cons_zero, List.set_cons_succ]
          refine take_at 9 (some 121) (.int .u64 (F2 : Int)) rfl (by kernel_rfl) (by kernel_rfl) (by kernel_rfl) (by kernel_rfl) (fun _ _ _ h => h) (by kernel_rfl) (by assumption) ?_ ?_
          · intro w' hSw
            clear hSw
            kernel_rfl
          simp only [Act.put, List.setIfInBounds_toArray, List.set_cons_zero, List.set_cons_succ]
          refine take_at 11 (some 123) (.int .u64 (F4 : Int)) rfl (by kernel_rfl) (by kernel_rfl) (by kernel_rfl) (by kernel_rfl) (fun _ _ _ h => h) (by kernel_rfl) (by assumption) ?_ ?_
          · intro w' hSw
            clear hSw
            kernel_rfl
          simp only [Act.put, List.setIfInBounds_toArray, List.set_cons_zero, List.set_cons_succ]
          refine take_at 12 (some 124) (.int .u64 (F3 : Int)) rfl (by kernel_rfl) (by kernel_rfl) (by kernel_rfl) (by kernel_rfl) (fun _ _ _ h => h) (by kernel_rfl) (by assumption) ?_ ?_
          · intro w' hSw
            clear hSw
            kernel_rfl
          simp only [Act.put, List.setIfInBounds_toArray, List.set_cons_zero, List.set_cons_succ]
          refine wpAnyH_ready (rs := [10]) (by kernel_rfl) (by simp) ?_
          refine AllReadyH.cons rfl (fun K hK => ?_) AllReadyH.nil
          go_simp
          go_wp2_with (go_at_call 139; with_reducible refine J1.mono ?_; rintro e w5 ⟨d1, r1, rfl, M1, C1, hd1, hr1, he1⟩)
          have D2 := bb2.marked M1 (Ne.symm npq)
          have E5 := ED.marked M1 (Or.inl rfl)
          have b5 := bD.marked M1 (Ne.symm np.2.2.2.2)
          have J4 := take_any q F4 F3 P2 Q2 o2 w5 D2 (by omega) (by omega) ho2
          refine hK.out _ _ ⟨E5.bC, E5.bD⟩ (fun h1 => ?_)
          clear hK K hHeld
          refine wpAnyH_ready (rs := [13]) (by kernel_rfl) (by simp) ?_
          refine AllReadyH.cons rfl (fun K hK => ?_) AllReadyH.nil
          go_simp
          go_wp2_with (go_at_call 139; with_reducible refine J4.mono ?_; rintro e w6 ⟨d2, r2, rfl, M2, C2, hd2, hr2, he2⟩)
          have BB1 := C1.marked M2 npq
          have BB2 := C2
          have E6 := E5.marked M2 (Or.inr rfl)
          have b6 := b5.marked M2 (Ne.symm nq.2.2.2.2)
          refine hK.out _ _ ⟨E6.bC, E6.bD⟩ (fun h2 => ?_)
          clear hK K h1
          refine take_at 14 (some 126) (.pointer (some ⟨gn, i, none⟩)) rfl (by kernel_rfl) (by kernel_rfl) (by kernel_rfl) (by kernel_rfl) (fun _ _ _ h => h) (by kernel_rfl) (by assumption) ?_ ?_
          · intro w' hSw
            clear hSw
            go_simp
            try (intro h; omega)
          simp only [Act.put, List.setIfInBounds_toArray, List.set_cons_zero, List.set_cons_succ]
          refine wpAnyH_ready (rs := [15]) (by kernel_rfl) (by simp) ?_
          refine AllReadyH.cons rfl (fun K hK => ?_) AllReadyH.nil
          have s1 : w6.cell? ⟨gn, i, none⟩ = some (.int .u32 (VX i)) := by simpa using (E6.LX i hlt).2
          have s3 := E6.FX i
          go_simp
          have q1 := cellO (w := w6) (a := ⟨gn, i, none⟩) (b := ⟨c, 0, none⟩) (v := .int .u32 (d1 : Int)) n1
          have q2 := cellO (w := w6) (a := ⟨gn, i, none⟩) (b := ⟨d, 0, none⟩) (v := .int .u32 (d1 : Int)) n2
          refine hK.out _ _ ⟨q1.trans E6.bC, q2.trans E6.bD⟩ (fun h3 => ?_)
          clear hK K h2
          refine take_at 16 (some 127) (.pointer (some ⟨gm', i, none⟩)) rfl (by kernel_rfl) (by kernel_rfl) (by kernel_rfl) (by kernel_rfl) (fun _ _ _ h => h) (by kernel_rfl) (by assumption) ?_ ?_
          · intro w' hSw
            clear hSw
            go_simp
            try (intro h; omega)
          simp only [Act.put, List.setIfInBounds_toArray, List.set_cons_zero, List.set_cons_succ]
          refine wpAnyH_ready (rs := [17]) (by kernel_rfl) (by simp) ?_
          refine AllReadyH.cons rfl (fun K hK => ?_) AllReadyH.nil
          have s2 : (w6.setCell ⟨gn, i, none⟩ (.int .u32 (d1 : Int))).cell? ⟨gm', i, none⟩ = some (.int .u32 (VY i)) := (cellO (show gn ≠ gm' from ngm)).trans (by simpa using (E6.LY i hlt).2)
          have s4 : (w6.setCell ⟨gn, i, none⟩ (.int .u32 (d1 : Int))).frozen? ⟨gm', i, none⟩ = false := by simp [E6.FY i]
          go_simp
          have EN := E6.put i d1 d2
          refine hK.out _ _ ⟨EN.bC, EN.bD⟩ (fun h4 => ?_)
          clear hK K h3 h4 s1 s2 s3 s4 q1 q2
          refine wpAnyH_done (by kernel_rfl) ?_ _
          have bN := (b6.marked ((Marked.refl w6 gn).setCell i (.int .u32 (d1 : Int))) nl.2.2.1).marked ((Marked.refl _ gm').setCell i (.int .u32 (d2 : Int))) nl.2.2.2
          have BN1 := (BB1.marked ((Marked.refl w6 gn).setCell i (.int .u32 (d1 : Int))) np.2.2.1).marked ((Marked.refl _ gm').setCell i (.int .u32 (d2 : Int))) np.2.2.2.1
          have BN2 := (BB2.marked ((Marked.refl w6 gn).setCell i (.int .u32 (d1 : Int))) nq.2.2.1).marked ((Marked.refl _ gm').setCell i (.int .u32 (d2 : Int))) nq.2.2.2.1
          have HN1 : Hid (Bal u X x (extL Y m) (upd VX i d1) (i + 1) ((F1 + P1) / 4294967296) ((F2 + Q1) / 4294967296) r1) := by
            rw [h1.out, h2.out] at he1 ⊢
            exact ST1.out d1 r1 (upd VX i d1) (by omega) (by omega) (by omega) (by omega) hd1 hr1 (fun j hj => upd_other _ _ _ _ (by omega)) (upd_same _ _ _) he1
          have HN2 : Hid (Bal y (extL Y m) v X (upd VY i d2) (i + 1) ((F4 + P2) / 4294967296) ((F3 + Q2) / 4294967296) r2) := by
            rw [h3.out, h4.out] at he2 ⊢
            exact ST2.out d2 r2 (upd VY i d2) (by omega) (by omega) (by omega) (by omega) hd2 hr2 (fun j hj => upd_other _ _ _ _ (by omega)) (upd_same _ _ _) he2
          have HVN : Hid (∀ j, i + 1 ≤ j → upd VX i d1 j = X j ∧ upd VY i d2 j = extL Y m j) := fun j hj => by
            have := HV.out j (by omega)
            rw [upd_other _ _ _ _ (by omega), upd_other _ _ _ _ (by omega)]; exact this
          clear J1 J2 J4 he1 he2 ST1 ST2 E6 b6 BB1 BB2 E5 b5 ED bD C1 C2 M1 M2 D2 HV
          go_wp2
          go_roundw
          case rel => go_light; exact ⟨i + 1, _, _, _, _, _, _, _, _, by omega, by go_num, EN, bN, BN1, BN2, HVN, HN1, HN2⟩
          case measure => simp [intOf]; omega
        · have e : i = k := by omega
          subst e
          have lX := hide HB1.out.2.2.2.2
          have lY := hide HB2.out.2.2.2.2
          have HX : Hid (lv VX i = N) := bal_end HB1.out (by have h := HE.out.1; rw [lv_extL Y m i hmi]; exact h) HN.out
          have HY : Hid (lv VY i = M) := bal_end HB2.out (by have h := HE.out.2; rw [lv_extL Y m i hmi]; exact h) (Nat.lt_of_le_of_lt HMN.out HN.out)
          have c1 := E1.bC
          have c2 := E1.bD
          have hik : ¬ ((i : Int) < (i : Int)) := by omega
          clear HB1 HB2 HV HE HN HMN bL B1 B2 XL YL
          go_wp2_with fail
          refine (trimAt_any c 0 _ gn 0 i cn VX _ (by omega) E1.nX c1 E1.fC E1.LX).mono ?_
          rintro e w5 ⟨rfl, hw5⟩
          have k1 : w5.cell? ⟨d, 0, none⟩ = some (.slice (some ⟨gm', 0, none⟩) i cap) := by rw [hw5, cellO (show c ≠ d from E1.d1)]; exact c2
          have k2 : w5.frozen? ⟨d, 0, none⟩ = false := by rw [hw5]; simp [E1.fD]
          have k3 : Limbs w5 (some ⟨gm', 0, none⟩) gm' 0 i VY := by rw [hw5]; exact E1.LY.setOther (Ne.symm E1.d5) _
          have k4 : w5.cell? ⟨c, 0, none⟩ = some (.slice (some ⟨gn, 0, none⟩) (tlen (nz VX) i) cn) := by rw [hw5]; exact World.cell?_setCell_same _ _ _ c1
          have k5 : w5.frozen? ⟨c, 0, none⟩ = false := by rw [hw5]; simp [E1.fC]
          have k6 : Limbs w5 (some ⟨gn, 0, none⟩) gn 0 i VX := by rw [hw5]; exact E1.LX.setOther (Ne.symm E1.d3) _
          have k7 : w0.Since base w5 := by rw [hw5]; exact E1.S.setCell E1.hc _
          have k8 : ∀ x, w5.frozen? ⟨gn, x, none⟩ = false := fun x => by rw [hw5]; simp [E1.FX x]
          have k9 : ∀ x, w5.frozen? ⟨gm', x, none⟩ = false := fun x => by rw [hw5]; simp [E1.FY x]
          have u1 : FullV w5 (.slice (some ⟨gn, 0, none⟩) i cn) gn := by rw [hw5]; exact E1.uX.setCell _ _ _
          have u2 : FullV w5 (.slice (some ⟨gm', 0, none⟩) i cap) gm' := by rw [hw5]; exact E1.uY.setCell _ _ _
          clear hw5 c1 c2
          go_wp2_with fail
          refine (trimAt_any d 0 _ gm' 0 i cap VY _ (by omega) E1.nY k1 k2 k3).mono ?_
          rintro e w6 ⟨rfl, rfl⟩
          go_wp2
          go_end0
          have t1 := tlen_le (nz VX) i
          have t2 := tlen_le (nz VY) i
          have a1 := E1.nX
          have a2 := E1.nY
          refine ⟨rfl, gn, gm', _, _, _, _, cn, cap, VX, VY, ⟨k7.setCell E1.hd _, by rw [cellO (show d ≠ c from Ne.symm E1.d1)]; exact k4, World.cell?_setCell_same _ _ _ k1, by simp [k5], by simp [k2], (k6.take t1).setOther (Ne.symm E1.d4) _, (k3.take t2).setOther (Ne.symm E1.d6) _, fun _ x => by simp [k8 x], fun _ x => by simp [k9 x],
            by omega, by omega, fun h => (by cases h), fun h => (by cases h), fun j hj => lX.out j (by omega), fun j hj => lY.out j (by omega), fun h => (by have := tlen_top _ _ h; simpa [nz] using this), fun h => (by have := tlen_top _ _ h; simpa [nz] using this), E1.hc, E1.hd, E1.hn, E1.hm, E1.d1, E1.d2, E1.d3, E1.d4, E1.d5, E1.d6, (u1.setCell _ _ _).len, (u2.setCell _ _ _).len⟩, (lv_tlen _ _).trans HX.out, (lv_tlen _ _).trans HY.out⟩

end Go.Proofs.Ytdfcckifbbeoiaa

namespace Go.Proofs.Ytdfcckifbbeoiaa
open Go.RowKit

/-- What becomeGcd has in hand. -/
def GcdHand (base : Nat) (w0 : World) (c d G B : Nat) (wr : World) : Prop :=
  ∃ (gn gm : Nat) (an am : Option Addr) (n m cn cm : Nat) (X Y : Nat → Nat), Gd base w0 wr c d gn gm an am n m cn cm X Y ∧ n ≤ B ∧ m ≤ n ∧ lv Y m ≤ lv X n ∧ G = Nat.gcd (lv X n) (lv Y m)

theorem Gd.mn {base : Nat} {w wr : World} {c d gn gm : Nat} {an am : Option Addr} {n m cn cm : Nat} {X Y : Nat → Nat} (h : Gd base w wr c d gn gm an am n m cn cm X Y) (hle : lv Y m ≤ lv X n) : m ≤ n := lv_len_le h.lX h.pY hle

/-- A leap, with steps or not. -/
theorem leapTo_any (base c d gn gm : Nat) (an am : Option Addr) (n m cn cm : Nat) (X Y : Nat → Nat) (u v x y : Nat) (odd : Bool) (w0 w : World) (hn : n ≤ 2097152) (hle : lv Y m ≤ lv X n) (hm1 : 0 < m) (hG : Gd base w0 w c d gn gm an am n m cn cm X Y) (hL : LeapOk (lv X n) (lv Y m) u v x y odd) :
    Calls Try.prog 129 #[.pointer (some ⟨c, 0, none⟩), .pointer (some ⟨d, 0, none⟩), .agg #[.int .u64 (u : Int), .int .u64 (v : Int), .int .u64 (x : Int), .int .u64 (y : Int), .bool odd]] w fun e w' => e = .returned (.tuple #[]) ∧
      ∃ N M, LeapTo base w0 c d N M w' ∧ M ≤ N ∧ N ≤ lv X n ∧ Nat.gcd N M = Nat.gcd (lv X n) (lv Y m) ∧ N + M < lv X n + lv Y m := by
  have hYp : 0 < lv Y m := by
    have := lv_ge Y m hm1 (hG.pY hm1)
    have := Nat.pow_pos (n := 32 * (m - 1)) (show 0 < 2 by omega)
    omega
  have hmn := hG.mn hle
  by_cases hx : x = 0
  · subst hx
    have h := leapTo_div base c d gn gm an am n m cn cm X Y u v y odd w0 w hn (by omega) hm1 hG
    refine Calls.mono h ?_
    rintro e w' ⟨rfl, h⟩
    have hlt := Nat.mod_lt (lv X n) hYp
    refine ⟨rfl, _, _, h, Nat.le_of_lt hlt, hle, ?_, ?_⟩
    · rw [Nat.gcd_comm, ← Nat.gcd_rec, Nat.gcd_comm]
    · have h1 := Nat.div_add_mod (lv X n) (lv Y m)
      have h2 : 1 ≤ lv X n / lv Y m := (Nat.one_le_div_iff hYp).2 hle
      have h3 : lv Y m * 1 ≤ lv Y m * (lv X n / lv Y m) := Nat.mul_le_mul_left _ h2
      omega
  · obtain ⟨a1, a2, a3, a4, N, M, hE, hMN, hNM, hgc, hlt⟩ := hL hx
    have hN : N < 2 ^ (32 * n) := Nat.lt_of_le_of_lt (Nat.le_trans hNM hle) (lv_lt X n hG.lX)
    have J : Calls Try.prog 129 #[.pointer (some ⟨c, 0, none⟩), .pointer (some ⟨d, 0, none⟩), .agg #[.int .u64 (u : Int), .int .u64 (v : Int), .int .u64 (x : Int), .int .u64 (y : Int), .bool odd]] w fun e w' => e = .returned (.tuple #[]) ∧ LeapTo base w0 c d N M w' := by
      cases odd
      · exact leapTo_even base c d gn gm an am n m cn cm X Y u v x y w0 w hn hmn hm1 hG hx a1 a2 a3 a4 N M (by simpa using hE) hMN hN
      · exact leapTo_odd base c d gn gm an am n m cn cm X Y u v x y w0 w hn hmn hm1 hG hx a1 a2 a3 a4 N M (by simpa using hE) hMN hN
    refine J.mono ?_
    rintro e w' ⟨rfl, h⟩
    exact ⟨rfl, N, M, h, hMN, Nat.le_trans hNM hle, hgc, hlt⟩

set_option maxHeartbeats 6400000 in
set_option maxRecDepth 100000 in
theorem becomeGcd_any (base c d gn gm : Nat) (an am : Option Addr) (n m cn cm : Nat) (X Y : Nat → Nat) (w0 w : World) (_hb : 0 ≤ base) (hn : n ≤ 1048576) (hm : m ≤ 1048576) (hG : Gd base w0 w c d gn gm an am n m cn cm X Y) (_hT : Tab w0) :
    Calls Try.prog 105 #[.pointer (some ⟨c, 0, none⟩), .pointer (some ⟨d, 0, none⟩)] w fun e w' => e = .returned (.tuple #[]) ∧ ∃ a g k cp Z, w'.cell? ⟨c, 0, none⟩ = some (.slice a k cp) ∧ k ≤ cp ∧ k ≤ 4194304 ∧ (a = none → cp = 0) ∧ Limbs w' a g 0 k Z ∧ (0 < k → ∀ x, w'.frozen? ⟨g, x, none⟩ = false) ∧
      (∀ j, j < k → Z j < 4294967296) ∧ (0 < k → Z (k - 1) ≠ 0) ∧ lv Z k = Nat.gcd (lv X n) (lv Y m) ∧ base ≤ g ∧ w0.Since base w' := by
  obtain ⟨G, hGe⟩ : ∃ G, G = Nat.gcd (lv X n) (lv Y m) := ⟨_, rfl⟩
  have HG := hide hGe
  rw [← hGe]
  clear hGe
  have b1 := hG.bC
  have b2 := hG.bD
  go_enter Try.func105, Try.ntmps105
  go_wp2_with fail
  refine (compare_any c 0 an am gn 0 n cn gm 0 m cm X Y _ (by omega) (by omega) b1 hG.LX hG.LY hG.lX hG.lY hG.pX hG.pY).mono ?_
  rintro e w2 ⟨rfl, s2⟩
  have hG := hG.same s2
  clear s2 b1 b2
  have b1 := hG.bC
  have b2 := hG.bD
  by_cases hlt : lv X n < lv Y m
  · have hci := cmpN_neg hlt
    have K0 : GcdHand base w0 c d G 1048576 ((w2.setCell ⟨c, 0, none⟩ (.slice am m cm)).setCell ⟨d, 0, none⟩ (.slice an n cn)).drew := ⟨gm, gn, am, an, m, n, cm, cn, Y, X, hG.swap.same (Same.refl _).drew, hm, lv_len_le hG.lY hG.pX (Nat.le_of_lt hlt), Nat.le_of_lt hlt, by rw [Nat.gcd_comm]; exact HG.out⟩
    have f1 := hG.fC
    have f2 := hG.fD
    have d1 := hG.d1
    clear hlt HG
    generalize cmpN (lv X n) (lv Y m) = z at *
    go_wp2
    go_region
    clear b1 b2 f1 f2 d1 hG hci
    generalize ((w2.setCell ⟨c, 0, none⟩ (.slice am m cm)).setCell ⟨d, 0, none⟩ (.slice an n cn)).drew = w4 at *
    obtain ⟨gn, gm, an, am, n, m, cn, cm, X, Y, hGd, hn, hmn, hle, hg⟩ := K0
    have HLE := hide hle
    have HG := hide hg
    clear hle hg
    go_wp2
    go_loopg [] (lv X n + lv Y m) (fun g wr => ∃ (gn gm : Nat) (an am : Option Addr) (n m cn cm : Nat) (X Y : Nat → Nat), Hid (g = lv X n + lv Y m) ∧ Gd base w0 wr c d gn gm an am n m cn cm X Y ∧ n ≤ 1048576 ∧ Hid (lv Y m ≤ lv X n) ∧ Hid (G = Nat.gcd (lv X n) (lv Y m)))
    case atStart => exact ⟨gn, gm, an, am, n, m, cn, cm, X, Y, rfl, hGd, hn, HLE, HG⟩
    case round =>
      clear hGd hn hmn HLE HG
      obtain ⟨gn, gm, an, am, n, m, cn, cm, X, Y, Hg, hGd, hn, HLE, HG⟩ := hrel
      have b1 := hGd.bC
      have b2 := hGd.bD
      by_cases hsh : m ≤ 2
      · go_wp2_with fail
        refine (isShort_yes d 0 am m cm _ hsh b2).mono ?_
        rintro e w2 ⟨rfl, hw2⟩
        rw [hw2]
        clear hw2 w2
        by_cases hnn : n ≤ 2
        · go_wp2_with fail
          refine (isShort_yes c 0 an n cn _ hnn b1).mono ?_
          rintro e w2 ⟨rfl, hw2⟩
          rw [hw2]
          clear hw2 w2 b1 b2
          have n1 := short_lt hnn hGd.lX
          have n2 := short_lt hsh hGd.lY
          have b1 := hGd.bC
          have b2 := hGd.bD
          go_wp2_with fail
          refine (isShort_yes c 0 an n cn _ hnn b1).mono ?_
          rintro e w2 ⟨rfl, hw2⟩
          rw [hw2]
          clear hw2 w2
          go_wp2_with fail
          refine (short_any c 0 an gn 0 n cn X _ hnn b1 hGd.LX hGd.lX).mono ?_
          rintro e w2 ⟨rfl, hw2⟩
          rw [hw2]
          clear hw2 w2
          go_wp2_with fail
          refine (short_any d 0 am gm 0 m cm Y _ hsh b2 hGd.LY hGd.lY).mono ?_
          rintro e w2 ⟨rfl, hw2⟩
          rw [hw2]
          clear hw2 w2
          go_wp2_with fail
          refine (shortGcd_any (lv X n) (lv Y m) _ n1 n2).mono ?_
          rintro e w6 ⟨rfl, s6⟩
          have hG := hGd.same s6
          have hgl : Nat.gcd (lv X n) (lv Y m) < 18446744073709551616 := by
            by_cases h0 : lv X n = 0
            · rw [h0, Nat.gcd_zero_left]; exact n2
            · have := Nat.gcd_le_left (lv Y m) (show 0 < lv X n by omega)
              omega
          clear s6 b1 b2
          rw [← HG.out] at hgl ⊢
          go_wp2_with fail
          refine (natOfShort_any G _ hgl).mono ?_
          rintro e w7 ⟨S, rfl, r7, hS7, v7, s7⟩
          have HV7 := hide v7
          have q1 : w7.cell? ⟨c, 0, none⟩ = some (.slice an n cn) := by rw [s7.cell (a := ⟨c, 0, none⟩) (World.block_lt_of_cell? _ _ hG.bC)]; exact hG.bC
          have q2 : w7.frozen? ⟨c, 0, none⟩ = false := by rw [s7.frozen (a := ⟨c, 0, none⟩) (World.block_lt_of_cell? _ _ hG.bC)]; exact hG.fC
          have zc : c < w6.heap.size := World.block_lt_of_cell? _ _ hG.bC
          have hbs : base ≤ w6.heap.size := hG.base_le
          have S7 : w0.Since base w7 := hG.S.trans (sinceMono s7 hbs)
          have hcb := hG.hc
          clear v7 hG s7 HG
          go_wp2
          go_end0
          have t1 := tlen_le (nz S) 2
          refine ⟨rfl, _, w6.heap.size, _, _, S, World.cell?_setCell_same _ _ _ q1, t1, by omega, fun h => (by cases h), ((limbs_row r7).take t1).setOther (by omega) _, fun _ x => by simp [r7.frozen x], fun j _ => hS7 j, fun h => ?_, (lv_tlen _ _).trans HV7.out, hbs, S7.setCell hcb _⟩
          have := tlen_top _ _ h; simpa [nz] using this
        · go_wp2_with fail
          refine (isShort_no c 0 an n cn _ (by omega) b1).mono ?_
          rintro e w2 ⟨rfl, hw2⟩
          rw [hw2]
          clear hw2 w2
          go_wp2_with fail
          refine (isZero_any d 0 am m cm _ b2).mono ?_
          rintro e w2 ⟨rfl, hw2⟩
          rw [hw2]
          clear hw2 w2
          by_cases hz : m = 0
          · subst hz
            have HGv : Hid (lv X n = G) := by have h := HG.out; rw [show lv Y 0 = 0 from rfl, Nat.gcd_zero_right] at h; exact h.symm
            go_wp2_with fail
            refine (isShort_no c 0 an n cn _ (by omega) b1).mono ?_
            rintro e w2 ⟨rfl, hw2⟩
            rw [hw2]
            clear hw2 w2
            go_wp2
            go_end0
            exact ⟨rfl, an, gn, n, cn, X, hGd.bC, hGd.nX, by omega, hGd.oX, hGd.LX, hGd.FX, hGd.lX, hGd.pX, HGv.out, hGd.hn, hGd.S⟩
          · have hne : ((m : Int) == 0) = false := by simp; omega
            have J := leapTo_div base c d gn gm an am n m cn cm X Y 0 0 0 false w0 wr (by omega) (by omega) (by omega) hGd
            go_wp2_with fail
            refine J.mono ?_
            rintro e w5 ⟨rfl, gn', gm', an', am', n', m', cn', cm', X', Y', G6, eN, eM⟩
            have hYp : 0 < lv Y m := by
              have := lv_ge Y m (by omega) (hGd.pY (by omega))
              have := Nat.pow_pos (n := 32 * (m - 1)) (show 0 < 2 by omega)
              omega
            have hn' : n' ≤ 2 := Nat.le_trans (lv_len_le hGd.lY G6.pX (by rw [eN]; exact Nat.le_refl _)) hsh
            have hm' : m' ≤ 2 := Nat.le_trans (lv_len_le hGd.lY G6.pY (by rw [eM]; exact Nat.le_of_lt (Nat.mod_lt _ hYp))) hsh
            have HG6 : Hid (G = Nat.gcd (lv X' n') (lv Y' m')) := by rw [eN, eM, Nat.gcd_comm, ← Nat.gcd_rec, Nat.gcd_comm]; exact HG
            clear eN eM hYp J hGd b1 b2
            have n1 := short_lt hn' G6.lX
            have n2 := short_lt hm' G6.lY
            have b1 := G6.bC
            have b2 := G6.bD
            go_wp2_with fail
            refine (isShort_yes c 0 an' n' cn' _ hn' b1).mono ?_
            rintro e w2 ⟨rfl, hw2⟩
            rw [hw2]
            clear hw2 w2
            go_wp2_with fail
            refine (short_any c 0 an' gn' 0 n' cn' X' _ hn' b1 G6.LX G6.lX).mono ?_
            rintro e w2 ⟨rfl, hw2⟩
            rw [hw2]
            clear hw2 w2
            go_wp2_with fail
            refine (short_any d 0 am' gm' 0 m' cm' Y' _ hm' b2 G6.LY G6.lY).mono ?_
            rintro e w2 ⟨rfl, hw2⟩
            rw [hw2]
            clear hw2 w2
            go_wp2_with fail
            refine (shortGcd_any (lv X' n') (lv Y' m') _ n1 n2).mono ?_
            rintro e w6 ⟨rfl, s6⟩
            have hG := G6.same s6
            have hgl : Nat.gcd (lv X' n') (lv Y' m') < 18446744073709551616 := by
              by_cases h0 : lv X' n' = 0
              · rw [h0, Nat.gcd_zero_left]; exact n2
              · have := Nat.gcd_le_left (lv Y' m') (show 0 < lv X' n' by omega)
                omega
            clear s6 b1 b2
            rw [← HG6.out] at hgl ⊢
            go_wp2_with fail
            refine (natOfShort_any G _ hgl).mono ?_
            rintro e w7 ⟨S, rfl, r7, hS7, v7, s7⟩
            have HV7 := hide v7
            have q1 : w7.cell? ⟨c, 0, none⟩ = some (.slice an' n' cn') := by rw [s7.cell (a := ⟨c, 0, none⟩) (World.block_lt_of_cell? _ _ hG.bC)]; exact hG.bC
            have q2 : w7.frozen? ⟨c, 0, none⟩ = false := by rw [s7.frozen (a := ⟨c, 0, none⟩) (World.block_lt_of_cell? _ _ hG.bC)]; exact hG.fC
            have zc : c < w6.heap.size := World.block_lt_of_cell? _ _ hG.bC
            have hbs : base ≤ w6.heap.size := hG.base_le
            have S7 : w0.Since base w7 := hG.S.trans (sinceMono s7 hbs)
            have hcb := hG.hc
            clear v7 hG s7 HG6
            go_wp2
            go_end0
            have t1 := tlen_le (nz S) 2
            refine ⟨rfl, _, w6.heap.size, _, _, S, World.cell?_setCell_same _ _ _ q1, t1, by omega, fun h => (by cases h), ((limbs_row r7).take t1).setOther (by omega) _, fun _ x => by simp [r7.frozen x], fun j _ => hS7 j, fun h => ?_, (lv_tlen _ _).trans HV7.out, hbs, S7.setCell hcb _⟩
            have := tlen_top _ _ h; simpa [nz] using this
      · go_wp2_with fail
        refine (isShort_no d 0 am m cm _ (by omega) b2).mono ?_
        rintro e w2 ⟨rfl, hw2⟩
        rw [hw2]
        clear hw2 w2
        have hmn := hGd.mn HLE.out
        go_wp2
        have hGd := hGd.same (Same.refl _).drew
        clear b1 b2
        have J1 := leapOf_any an am gn gm n m cn cm X Y wr.drew (by omega) (by omega) hmn hGd.LX hGd.LY hGd.lX hGd.lY (hGd.pX (by omega)) HLE.out
        refine wp_region_held_drew (S := fun _ => True) (by kernel_rfl) trivial (fun hHeld => ?_)
        generalize wr.drew = wd at *
        have b1 := hGd.bC
        have b2 := hGd.bD
        refine take_at 0 (some 23) (.pointer (some ⟨c, 0, none⟩)) rfl (by kernel_rfl) (by kernel_rfl) (by kernel_rfl) (by kernel_rfl) (fun _ _ _ h => h) (by kernel_rfl) (by assumption) ?_ ?_
        · intro w' hSw
          clear hSw
          kernel_rfl
        simp only [Act.put, List.setIfInBounds_toArray, List.set_cons_zero, List.set_cons_succ]
        refine take_at 1 (some 24) (.pointer (some ⟨d, 0, none⟩)) rfl (by kernel_rfl) (by kernel_rfl) (by kernel_rfl) (by kernel_rfl) (fun _ _ _ h => h) (by kernel_rfl) (by assumption) ?_ ?_
        · intro w' hSw
          clear hSw
          kernel_rfl
        simp only [Act.put, List.setIfInBounds_toArray, List.set_cons_zero, List.set_cons_succ]
        refine take_at 2 (some 25) (.pointer (some ⟨c, 0, none⟩)) rfl (by kernel_rfl) (by kernel_rfl) (by kernel_rfl) (by kernel_rfl) (fun _ _ _ h => h) (by kernel_rfl) (by assumption) ?_ ?_
        · intro w' hSw
          clear hSw
          kernel_rfl
        simp only [Act.put, List.setIfInBounds_toArray, List.set_cons_zero, List.set_cons_succ]
        refine take_at 3 (some 26) (.pointer (some ⟨c, 0, none⟩)) rfl (by kernel_rfl) (by kernel_rfl) (by kernel_rfl) (by kernel_rfl) (fun _ _ _ h => h) (by kernel_rfl) (by assumption) ?_ ?_
        · intro w' hSw
          clear hSw
          kernel_rfl
        simp only [Act.put, List.setIfInBounds_toArray, List.set_cons_zero, List.set_cons_succ]
        refine take_at 5 (some 28) (.pointer (some ⟨d, 0, none⟩)) rfl (by kernel_rfl) (by kernel_rfl) (by kernel_rfl) (by kernel_rfl) (fun _ _ _ h => h) (by kernel_rfl) (by assumption) ?_ ?_
        · intro w' hSw
          clear hSw
          kernel_rfl
        simp only [Act.put, List.setIfInBounds_toArray, List.set_cons_zero, List.set_cons_succ]
        refine take_at 6 (some 29) (.pointer (some ⟨d, 0, none⟩)) rfl (by kernel_rfl) (by kernel_rfl) (by kernel_rfl) (by kernel_rfl) (fun _ _ _ h => h) (by kernel_rfl) (by assumption) ?_ ?_
        · intro w' hSw
          clear hSw
          kernel_rfl
        simp only [Act.put, List.setIfInBounds_toArray, List.set_cons_zero, List.set_cons_succ]
        refine wpAnyH_ready (rs := [4, 7]) (by kernel_rfl) (by simp) ?_
        refine AllReadyH.cons rfl (fun K hK => ?_) (AllReadyH.cons rfl (fun K hK => ?_) AllReadyH.nil)
        · go_simp
          refine hK.out _ _ trivial (fun h1 => ?_)
          clear hK K h1 hHeld
          refine wpAnyH_ready (rs := [7]) (by kernel_rfl) (by simp) ?_
          refine AllReadyH.cons rfl (fun K hK => ?_) AllReadyH.nil
          go_simp
          refine hK.out _ _ trivial (fun h1 => ?_)
          clear hK K h1
          refine wpAnyH_ready (rs := [8]) (by kernel_rfl) (by simp) ?_
          refine AllReadyH.cons rfl (fun K hK => ?_) AllReadyH.nil
          go_simp
          go_wp2_with (go_at_call 130; (with_reducible refine J1.mono ?_); intro e w5 hL5; obtain ⟨u, v, x, y, odd, rfl, hOk, s5⟩ := hL5)
          have G5 := hGd.grow s5
          have J2 := leapTo_any base c d gn gm an am n m cn cm X Y u v x y odd w0 w5 (by omega) HLE.out (by omega) G5 hOk
          clear hOk
          refine hK.out _ _ trivial (fun h1 => ?_)
          clear hK K h1
          refine wpAnyH_ready (rs := [9]) (by kernel_rfl) (by simp) ?_
          refine AllReadyH.cons rfl (fun K hK => ?_) AllReadyH.nil
          go_simp
          go_wp2_with (go_at_call 129; (with_reducible refine J2.mono ?_); rintro e w6 ⟨rfl, N, M, ⟨gn', gm', an', am', n', m', cn', cm', X', Y', G6, eN, eM⟩, hMN, hNX, hgc, hlt⟩)
          subst eN eM
          have hn' : n' ≤ n := lv_len_le hGd.lX G6.pX hNX
          have HG6 : Hid (G = Nat.gcd (lv X' n') (lv Y' m')) := by rw [hgc]; exact HG
          have HM6 : Hid (lv X' n' + lv Y' m' < gk) := by have := Hg.out; show _ < _; omega
          have HL6 := hide hMN
          clear hMN hNX hgc hlt G5 J1 J2
          refine hK.out _ _ trivial (fun h1 => ?_)
          clear hK K h1
          refine wpAnyH_done (by kernel_rfl) ?_ _
          go_wp2
          go_roundg (lv X' n' + lv Y' m')
          case measure => exact HM6.out
          case rel => exact ⟨gn', gm', an', am', n', m', cn', cm', X', Y', rfl, G6, by omega, HL6, HG6⟩
        · go_simp
          refine hK.out _ _ trivial (fun h1 => ?_)
          clear hK K h1 hHeld
          refine wpAnyH_ready (rs := [4]) (by kernel_rfl) (by simp) ?_
          refine AllReadyH.cons rfl (fun K hK => ?_) AllReadyH.nil
          go_simp
          refine hK.out _ _ trivial (fun h1 => ?_)
          clear hK K h1
          refine wpAnyH_ready (rs := [8]) (by kernel_rfl) (by simp) ?_
          refine AllReadyH.cons rfl (fun K hK => ?_) AllReadyH.nil
          go_simp
          go_wp2_with (go_at_call 130; (with_reducible refine J1.mono ?_); intro e w5 hL5; obtain ⟨u, v, x, y, odd, rfl, hOk, s5⟩ := hL5)
          have G5 := hGd.grow s5
          have J2 := leapTo_any base c d gn gm an am n m cn cm X Y u v x y odd w0 w5 (by omega) HLE.out (by omega) G5 hOk
          clear hOk
          refine hK.out _ _ trivial (fun h1 => ?_)
          clear hK K h1
          refine wpAnyH_ready (rs := [9]) (by kernel_rfl) (by simp) ?_
          refine AllReadyH.cons rfl (fun K hK => ?_) AllReadyH.nil
          go_simp
          go_wp2_with (go_at_call 129; (with_reducible refine J2.mono ?_); rintro e w6 ⟨rfl, N, M, ⟨gn', gm', an', am', n', m', cn', cm', X', Y', G6, eN, eM⟩, hMN, hNX, hgc, hlt⟩)
          subst eN eM
          have hn' : n' ≤ n := lv_len_le hGd.lX G6.pX hNX
          have HG6 : Hid (G = Nat.gcd (lv X' n') (lv Y' m')) := by rw [hgc]; exact HG
          have HM6 : Hid (lv X' n' + lv Y' m' < gk) := by have := Hg.out; show _ < _; omega
          have HL6 := hide hMN
          clear hMN hNX hgc hlt G5 J1 J2
          refine hK.out _ _ trivial (fun h1 => ?_)
          clear hK K h1
          refine wpAnyH_done (by kernel_rfl) ?_ _
          go_wp2
          go_roundg (lv X' n' + lv Y' m')
          case measure => exact HM6.out
          case rel => exact ⟨gn', gm', an', am', n', m', cn', cm', X', Y', rfl, G6, by omega, HL6, HG6⟩
  · have hci : 0 ≤ cmpN (lv X n) (lv Y m) := by unfold cmpN; split <;> (try split) <;> omega
    have K0 : GcdHand base w0 c d G 1048576 w2 := ⟨gn, gm, an, am, n, m, cn, cm, X, Y, hG, hn, hG.mn (by omega), by omega, HG.out⟩
    clear hlt HG hG
    generalize cmpN (lv X n) (lv Y m) = z at *
    obtain ⟨gn, gm, an, am, n, m, cn, cm, X, Y, hGd, hn, hmn, hle, hg⟩ := K0
    have HLE := hide hle
    have HG := hide hg
    clear hle hg
    go_wp2
    go_loopg [] (lv X n + lv Y m) (fun g wr => ∃ (gn gm : Nat) (an am : Option Addr) (n m cn cm : Nat) (X Y : Nat → Nat), Hid (g = lv X n + lv Y m) ∧ Gd base w0 wr c d gn gm an am n m cn cm X Y ∧ n ≤ 1048576 ∧ Hid (lv Y m ≤ lv X n) ∧ Hid (G = Nat.gcd (lv X n) (lv Y m)))
    case atStart => exact ⟨gn, gm, an, am, n, m, cn, cm, X, Y, rfl, hGd, hn, HLE, HG⟩
    case round =>
      clear hGd hn hmn HLE HG
      obtain ⟨gn, gm, an, am, n, m, cn, cm, X, Y, Hg, hGd, hn, HLE, HG⟩ := hrel
      have b1 := hGd.bC
      have b2 := hGd.bD
      by_cases hsh : m ≤ 2
      · go_wp2_with fail
        refine (isShort_yes d 0 am m cm _ hsh b2).mono ?_
        rintro e w2 ⟨rfl, hw2⟩
        rw [hw2]
        clear hw2 w2
        by_cases hnn : n ≤ 2
        · go_wp2_with fail
          refine (isShort_yes c 0 an n cn _ hnn b1).mono ?_
          rintro e w2 ⟨rfl, hw2⟩
          rw [hw2]
          clear hw2 w2 b1 b2
          have n1 := short_lt hnn hGd.lX
          have n2 := short_lt hsh hGd.lY
          have b1 := hGd.bC
          have b2 := hGd.bD
          go_wp2_with fail
          refine (isShort_yes c 0 an n cn _ hnn b1).mono ?_
          rintro e w2 ⟨rfl, hw2⟩
          rw [hw2]
          clear hw2 w2
          go_wp2_with fail
          refine (short_any c 0 an gn 0 n cn X _ hnn b1 hGd.LX hGd.lX).mono ?_
          rintro e w2 ⟨rfl, hw2⟩
          rw [hw2]
          clear hw2 w2
          go_wp2_with fail
          refine (short_any d 0 am gm 0 m cm Y _ hsh b2 hGd.LY hGd.lY).mono ?_
          rintro e w2 ⟨rfl, hw2⟩
          rw [hw2]
          clear hw2 w2
          go_wp2_with fail
          refine (shortGcd_any (lv X n) (lv Y m) _ n1 n2).mono ?_
          rintro e w6 ⟨rfl, s6⟩
          have hG := hGd.same s6
          have hgl : Nat.gcd (lv X n) (lv Y m) < 18446744073709551616 := by
            by_cases h0 : lv X n = 0
            · rw [h0, Nat.gcd_zero_left]; exact n2
            · have := Nat.gcd_le_left (lv Y m) (show 0 < lv X n by omega)
              omega
          clear s6 b1 b2
          rw [← HG.out] at hgl ⊢
          go_wp2_with fail
          refine (natOfShort_any G _ hgl).mono ?_
          rintro e w7 ⟨S, rfl, r7, hS7, v7, s7⟩
          have HV7 := hide v7
          have q1 : w7.cell? ⟨c, 0, none⟩ = some (.slice an n cn) := by rw [s7.cell (a := ⟨c, 0, none⟩) (World.block_lt_of_cell? _ _ hG.bC)]; exact hG.bC
          have q2 : w7.frozen? ⟨c, 0, none⟩ = false := by rw [s7.frozen (a := ⟨c, 0, none⟩) (World.block_lt_of_cell? _ _ hG.bC)]; exact hG.fC
          have zc : c < w6.heap.size := World.block_lt_of_cell? _ _ hG.bC
          have hbs : base ≤ w6.heap.size := hG.base_le
          have S7 : w0.Since base w7 := hG.S.trans (sinceMono s7 hbs)
          have hcb := hG.hc
          clear v7 hG s7 HG
          go_wp2
          go_end0
          have t1 := tlen_le (nz S) 2
          refine ⟨rfl, _, w6.heap.size, _, _, S, World.cell?_setCell_same _ _ _ q1, t1, by omega, fun h => (by cases h), ((limbs_row r7).take t1).setOther (by omega) _, fun _ x => by simp [r7.frozen x], fun j _ => hS7 j, fun h => ?_, (lv_tlen _ _).trans HV7.out, hbs, S7.setCell hcb _⟩
          have := tlen_top _ _ h; simpa [nz] using this
        · go_wp2_with fail
          refine (isShort_no c 0 an n cn _ (by omega) b1).mono ?_
          rintro e w2 ⟨rfl, hw2⟩
          rw [hw2]
          clear hw2 w2
          go_wp2_with fail
          refine (isZero_any d 0 am m cm _ b2).mono ?_
          rintro e w2 ⟨rfl, hw2⟩
          rw [hw2]
          clear hw2 w2
          by_cases hz : m = 0
          · subst hz
            have HGv : Hid (lv X n = G) := by have h := HG.out; rw [show lv Y 0 = 0 from rfl, Nat.gcd_zero_right] at h; exact h.symm
            go_wp2_with fail
            refine (isShort_no c 0 an n cn _ (by omega) b1).mono ?_
            rintro e w2 ⟨rfl, hw2⟩
            rw [hw2]
            clear hw2 w2
            go_wp2
            go_end0
            exact ⟨rfl, an, gn, n, cn, X, hGd.bC, hGd.nX, by omega, hGd.oX, hGd.LX, hGd.FX, hGd.lX, hGd.pX, HGv.out, hGd.hn, hGd.S⟩
          · have hne : ((m : Int) == 0) = false := by simp; omega
            have J := leapTo_div base c d gn gm an am n m cn cm X Y 0 0 0 false w0 wr (by omega) (by omega) (by omega) hGd
            go_wp2_with fail
            refine J.mono ?_
            rintro e w5 ⟨rfl, gn', gm', an', am', n', m', cn', cm', X', Y', G6, eN, eM⟩
            have hYp : 0 < lv Y m := by
              have := lv_ge Y m (by omega) (hGd.pY (by omega))
              have := Nat.pow_pos (n := 32 * (m - 1)) (show 0 < 2 by omega)
              omega
            have hn' : n' ≤ 2 := Nat.le_trans (lv_len_le hGd.lY G6.pX (by rw [eN]; exact Nat.le_refl _)) hsh
            have hm' : m' ≤ 2 := Nat.le_trans (lv_len_le hGd.lY G6.pY (by rw [eM]; exact Nat.le_of_lt (Nat.mod_lt _ hYp))) hsh
            have HG6 : Hid (G = Nat.gcd (lv X' n') (lv Y' m')) := by rw [eN, eM, Nat.gcd_comm, ← Nat.gcd_rec, Nat.gcd_comm]; exact HG
            clear eN eM hYp J hGd b1 b2
            have n1 := short_lt hn' G6.lX
            have n2 := short_lt hm' G6.lY
            have b1 := G6.bC
            have b2 := G6.bD
            go_wp2_with fail
            refine (isShort_yes c 0 an' n' cn' _ hn' b1).mono ?_
            rintro e w2 ⟨rfl, hw2⟩
            rw [hw2]
            clear hw2 w2
            go_wp2_with fail
            refine (short_any c 0 an' gn' 0 n' cn' X' _ hn' b1 G6.LX G6.lX).mono ?_
            rintro e w2 ⟨rfl, hw2⟩
            rw [hw2]
            clear hw2 w2
            go_wp2_with fail
            refine (short_any d 0 am' gm' 0 m' cm' Y' _ hm' b2 G6.LY G6.lY).mono ?_
            rintro e w2 ⟨rfl, hw2⟩
            rw [hw2]
            clear hw2 w2
            go_wp2_with fail
            refine (shortGcd_any (lv X' n') (lv Y' m') _ n1 n2).mono ?_
            rintro e w6 ⟨rfl, s6⟩
            have hG := G6.same s6
            have hgl : Nat.gcd (lv X' n') (lv Y' m') < 18446744073709551616 := by
              by_cases h0 : lv X' n' = 0
              · rw [h0, Nat.gcd_zero_left]; exact n2
              · have := Nat.gcd_le_left (lv Y' m') (show 0 < lv X' n' by omega)
                omega
            clear s6 b1 b2
            rw [← HG6.out] at hgl ⊢
            go_wp2_with fail
            refine (natOfShort_any G _ hgl).mono ?_
            rintro e w7 ⟨S, rfl, r7, hS7, v7, s7⟩
            have HV7 := hide v7
            have q1 : w7.cell? ⟨c, 0, none⟩ = some (.slice an' n' cn') := by rw [s7.cell (a := ⟨c, 0, none⟩) (World.block_lt_of_cell? _ _ hG.bC)]; exact hG.bC
            have q2 : w7.frozen? ⟨c, 0, none⟩ = false := by rw [s7.frozen (a := ⟨c, 0, none⟩) (World.block_lt_of_cell? _ _ hG.bC)]; exact hG.fC
            have zc : c < w6.heap.size := World.block_lt_of_cell? _ _ hG.bC
            have hbs : base ≤ w6.heap.size := hG.base_le
            have S7 : w0.Since base w7 := hG.S.trans (sinceMono s7 hbs)
            have hcb := hG.hc
            clear v7 hG s7 HG6
            go_wp2
            go_end0
            have t1 := tlen_le (nz S) 2
            refine ⟨rfl, _, w6.heap.size, _, _, S, World.cell?_setCell_same _ _ _ q1, t1, by omega, fun h => (by cases h), ((limbs_row r7).take t1).setOther (by omega) _, fun _ x => by simp [r7.frozen x], fun j _ => hS7 j, fun h => ?_, (lv_tlen _ _).trans HV7.out, hbs, S7.setCell hcb _⟩
            have := tlen_top _ _ h; simpa [nz] using this
      · go_wp2_with fail
        refine (isShort_no d 0 am m cm _ (by omega) b2).mono ?_
        rintro e w2 ⟨rfl, hw2⟩
        rw [hw2]
        clear hw2 w2
        have hmn := hGd.mn HLE.out
        go_wp2
        have hGd := hGd.same (Same.refl _).drew
        clear b1 b2
        have J1 := leapOf_any an am gn gm n m cn cm X Y wr.drew (by omega) (by omega) hmn hGd.LX hGd.LY hGd.lX hGd.lY (hGd.pX (by omega)) HLE.out
        refine wp_region_held_drew (S := fun _ => True) (by kernel_rfl) trivial (fun hHeld => ?_)
        generalize wr.drew = wd at *
        have b1 := hGd.bC
        have b2 := hGd.bD
        refine take_at 0 (some 23) (.pointer (some ⟨c, 0, none⟩)) rfl (by kernel_rfl) (by kernel_rfl) (by kernel_rfl) (by kernel_rfl) (fun _ _ _ h => h) (by kernel_rfl) (by assumption) ?_ ?_
        · intro w' hSw
          clear hSw
          kernel_rfl
        simp only [Act.put, List.setIfInBounds_toArray, List.set_cons_zero, List.set_cons_succ]
        refine take_at 1 (some 24) (.pointer (some ⟨d, 0, none⟩)) rfl (by kernel_rfl) (by kernel_rfl) (by kernel_rfl) (by kernel_rfl) (fun _ _ _ h => h) (by kernel_rfl) (by assumption) ?_ ?_
        · intro w' hSw
          clear hSw
          kernel_rfl
        simp only [Act.put, List.setIfInBounds_toArray, List.set_cons_zero, List.set_cons_succ]
        refine take_at 2 (some 25) (.pointer (some ⟨c, 0, none⟩)) rfl (by kernel_rfl) (by kernel_rfl) (by kernel_rfl) (by kernel_rfl) (fun _ _ _ h => h) (by kernel_rfl) (by assumption) ?_ ?_
        · intro w' hSw
          clear hSw
          kernel_rfl
        simp only [Act.put, List.setIfInBounds_toArray, List.set_cons_zero, List.set_cons_succ]
        refine take_at 3 (some 26) (.pointer (some ⟨c, 0, none⟩)) rfl (by kernel_rfl) (by kernel_rfl) (by kernel_rfl) (by kernel_rfl) (fun _ _ _ h => h) (by kernel_rfl) (by assumption) ?_ ?_
        · intro w' hSw
          clear hSw
          kernel_rfl
        simp only [Act.put, List.setIfInBounds_toArray, List.set_cons_zero, List.set_cons_succ]
        refine take_at 5 (some 28) (.pointer (some ⟨d, 0, none⟩)) rfl (by kernel_rfl) (by kernel_rfl) (by kernel_rfl) (by kernel_rfl) (fun _ _ _ h => h) (by kernel_rfl) (by assumption) ?_ ?_
        · intro w' hSw
          clear hSw
          kernel_rfl
        simp only [Act.put, List.setIfInBounds_toArray, List.set_cons_zero, List.set_cons_succ]
        refine take_at 6 (some 29) (.pointer (some ⟨d, 0, none⟩)) rfl (by kernel_rfl) (by kernel_rfl) (by kernel_rfl) (by kernel_rfl) (fun _ _ _ h => h) (by kernel_rfl) (by assumption) ?_ ?_
        · intro w' hSw
          clear hSw
          kernel_rfl
        simp only [Act.put, List.setIfInBounds_toArray, List.set_cons_zero, List.set_cons_succ]
        refine wpAnyH_ready (rs := [4, 7]) (by kernel_rfl) (by simp) ?_
        refine AllReadyH.cons rfl (fun K hK => ?_) (AllReadyH.cons rfl (fun K hK => ?_) AllReadyH.nil)
        · go_simp
          refine hK.out _ _ trivial (fun h1 => ?_)
          clear hK K h1 hHeld
          refine wpAnyH_ready (rs := [7]) (by kernel_rfl) (by simp) ?_
          refine AllReadyH.cons rfl (fun K hK => ?_) AllReadyH.nil
          go_simp
          refine hK.out _ _ trivial (fun h1 => ?_)
          clear hK K h1
          refine wpAnyH_ready (rs := [8]) (by kernel_rfl) (by simp) ?_
          refine AllReadyH.cons rfl (fun K hK => ?_) AllReadyH.nil
          go_simp
          go_wp2_with (go_at_call 130; (with_reducible refine J1.mono ?_); intro e w5 hL5; obtain ⟨u, v, x, y, odd, rfl, hOk, s5⟩ := hL5)
          have G5 := hGd.grow s5
          have J2 := leapTo_any base c d gn gm an am n m cn cm X Y u v x y odd w0 w5 (by omega) HLE.out (by omega) G5 hOk
          clear hOk
          refine hK.out _ _ trivial (fun h1 => ?_)
          clear hK K h1
          refine wpAnyH_ready (rs := [9]) (by kernel_rfl) (by simp) ?_
          refine AllReadyH.cons rfl (fun K hK => ?_) AllReadyH.nil
          go_simp
          go_wp2_with (go_at_call 129; (with_reducible refine J2.mono ?_); rintro e w6 ⟨rfl, N, M, ⟨gn', gm', an', am', n', m', cn', cm', X', Y', G6, eN, eM⟩, hMN, hNX, hgc, hlt⟩)
          subst eN eM
          have hn' : n' ≤ n := lv_len_le hGd.lX G6.pX hNX
          have HG6 : Hid (G = Nat.gcd (lv X' n') (lv Y' m')) := by rw [hgc]; exact HG
          have HM6 : Hid (lv X' n' + lv Y' m' < gk) := by have := Hg.out; show _ < _; omega
          have HL6 := hide hMN
          clear hMN hNX hgc hlt G5 J1 J2
          refine hK.out _ _ trivial (fun h1 => ?_)
          clear hK K h1
          refine wpAnyH_done (by kernel_rfl) ?_ _
          go_wp2
          go_roundg (lv X' n' + lv Y' m')
          case measure => exact HM6.out
          case rel => exact ⟨gn', gm', an', am', n', m', cn', cm', X', Y', rfl, G6, by omega, HL6, HG6⟩
        · go_simp
          refine hK.out _ _ trivial (fun h1 => ?_)
          clear hK K h1 hHeld
          refine wpAnyH_ready (rs := [4]) (by kernel_rfl) (by simp) ?_
          refine AllReadyH.cons rfl (fun K hK => ?_) AllReadyH.nil
          go_simp
          refine hK.out _ _ trivial (fun h1 => ?_)
          clear hK K h1
          refine wpAnyH_ready (rs := [8]) (by kernel_rfl) (by simp) ?_
          refine AllReadyH.cons rfl (fun K hK => ?_) AllReadyH.nil
          go_simp
          go_wp2_with (go_at_call 130; (with_reducible refine J1.mono ?_); intro e w5 hL5; obtain ⟨u, v, x, y, odd, rfl, hOk, s5⟩ := hL5)
          have G5 := hGd.grow s5
          have J2 := leapTo_any base c d gn gm an am n m cn cm X Y u v x y odd w0 w5 (by omega) HLE.out (by omega) G5 hOk
          clear hOk
          refine hK.out _ _ trivial (fun h1 => ?_)
          clear hK K h1
          refine wpAnyH_ready (rs := [9]) (by kernel_rfl) (by simp) ?_
          refine AllReadyH.cons rfl (fun K hK => ?_) AllReadyH.nil
          go_simp
          go_wp2_with (go_at_call 129; (with_reducible refine J2.mono ?_); rintro e w6 ⟨rfl, N, M, ⟨gn', gm', an', am', n', m', cn', cm', X', Y', G6, eN, eM⟩, hMN, hNX, hgc, hlt⟩)
          subst eN eM
          have hn' : n' ≤ n := lv_len_le hGd.lX G6.pX hNX
          have HG6 : Hid (G = Nat.gcd (lv X' n') (lv Y' m')) := by rw [hgc]; exact HG
          have HM6 : Hid (lv X' n' + lv Y' m' < gk) := by have := Hg.out; show _ < _; omega
          have HL6 := hide hMN
          clear hMN hNX hgc hlt G5 J1 J2
          refine hK.out _ _ trivial (fun h1 => ?_)
          clear hK K h1
          refine wpAnyH_done (by kernel_rfl) ?_ _
          go_wp2
          go_roundg (lv X' n' + lv Y' m')
          case measure => exact HM6.out
          case rel => exact ⟨gn', gm', an', am', n', m', cn', cm', X', Y', rfl, G6, by omega, HL6, HG6⟩

end Go.Proofs.Ytdfcckifbbeoiaa
