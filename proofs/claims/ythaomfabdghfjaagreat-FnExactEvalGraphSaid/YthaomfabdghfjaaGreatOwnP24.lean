import Derived.Test.YthaomfabdghfjaaGreatOwnP19
import Derived.Test.YthaomfabdghfjaaGreatOwnP3
import Derived.Maps.AppendAt
import Derived.Deep.AppendLies
import Derived.Test.YthaomfabdghfjaaGreatOwnP20
import Derived.Test.YthaomfabdghfjaaGreatOwnP18
set_option maxHeartbeats 6400000
set_option maxRecDepth 100000
namespace Go.Proofs.YthaomfabdghfjaaGreat
open Go.RowKit
theorem xz4.blocks {w w' : World} {p : Nat -> Prop} {v : Value} {q : Rat} (h : xz4 w p v q) (hb : ∀ g, g < w.heap.size -> p g -> w'.heap[g]? = w.heap[g]?) : xz4 w' p v q := by
 obtain ⟨a, n, ca, b, m, cb, ba, oa, bb, ob, X, Y, h1, R, h3, h4, h5, h6⟩ := h; have LX : xq2 w' a ba oa n X := fun j hj => ⟨(R.LX j hj).1, (World.cell?_of_block (w := w) (a := ⟨ba, oa + j, none⟩) (hb ba (R.LX.lt (by omega)) (h5 (by omega)))).trans (R.LX j hj).2⟩
 have LY : xq2 w' b bb ob m Y := fun j hj => ⟨(R.LY j hj).1, (World.cell?_of_block (w := w) (a := ⟨bb, ob + j, none⟩) (hb bb (R.LY.lt (by omega)) (h6 (by omega)))).trans (R.LY j hj).2⟩
 exact ⟨a, n, ca, b, m, cb, ba, oa, bb, ob, X, Y, h1, ⟨R.nc, R.mc, R.ac, R.bc, LX, LY, R.lX, R.lY, R.pX, R.pY, R.m0⟩, h3, h4, h5, h6⟩
structure OutL (w : World) (base : Nat) (v : Value) (k : Nat) (Q : Nat -> Rat) (xs : List Value) : Prop where
 own : w.ownsRow base 70 3 v k xs
 at_ : ∀ i, i < k -> ∃ x y, xs[i * 3]? = some (.bool (qn (Q i))) /\ xs[i * 3 + 1]? = some x /\ xs[i * 3 + 2]? = some y /\ xz4 w (fun g => v.ownBlock ≠ some g) (.agg #[.bool (qn (Q i)), x, y]) (Q i)
theorem OutL.keep {w w' : World} {base k : Nat} {v : Value} {Q : Nat -> Rat} {xs : List Value} (h : OutL w base v k Q xs) (s : w.Since w.heap.size w') : OutL w' base v k Q xs := by
 refine ⟨h.own.kept (row := none) ⟨s.os, s.tape, s.output, s.size, fun k hk _ => s.block k hk⟩ (Classical.em _), fun i hi => ?_⟩; obtain ⟨x, y, h1, h2, h3, h4⟩ := h.at_ i hi; exact ⟨x, y, h1, h2, h3, h4.keep s⟩
theorem OutL.snoc {w w1 w' : World} {base k : Nat} {v v' : Value} {Q : Nat -> Rat} {xs : List Value} {x y : Value} (h : OutL w base v k Q xs) (s1 : w.Since w.heap.size w1) (hs : w.heap.size < w1.heap.size) (g : w1.grownBy w' v.ownBlock) (own : w'.ownsRow base 70 3 v' (k + 1) (xs ++ [.bool (qn (Q k)), x, y]))
 (hat : v'.ownBlock = v.ownBlock ∨ v'.ownBlock = some w1.heap.size) (R : xz4 w (fun g => v.ownBlock ≠ some g) (.agg #[.bool (qn (Q k)), x, y]) (Q k)) : OutL w' base v' (k + 1) Q (xs ++ [.bool (qn (Q k)), x, y]) := by
 have hl : xs.length = k * 3 := h.own.1
 have mv : ∀ {u : Value} {q : Rat}, xz4 w (fun g => v.ownBlock ≠ some g) u q -> xz4 w' (fun g => v'.ownBlock ≠ some g) u q := fun {u q} r => by
  have r2 : xz4 w (fun g => v.ownBlock ≠ some g /\ v'.ownBlock ≠ some g) u q := r.imp (fun j hj hp => ⟨hp, fun e => by
   rcases hat with h | h
   . exact hp (h.symm.trans e)
   . rw [e] at h; simp at h; omega⟩)
  have r3 : xz4 w' (fun g => v.ownBlock ≠ some g /\ v'.ownBlock ≠ some g) u q := r2.blocks (fun j hj hp => (g.block j (by omega) (fun e => hp.1 e.symm)).trans (s1.block j hj)); exact r3.imp (fun _ _ hp => hp.2)
 refine ⟨own, fun i hi => ?_⟩
 by_cases e : i = k
 . subst e
   refine ⟨x, y, ?_, ?_, ?_, mv R⟩
   . rw [List.getElem?_append_right (by omega), hl]; simp
   . rw [List.getElem?_append_right (by omega), hl]; simp
   . rw [List.getElem?_append_right (by omega), hl]; simp
 . obtain ⟨x', y', h1, h2, h3, h4⟩ := h.at_ i (by omega)
   exact ⟨x', y', by rw [List.getElem?_append_left (by omega)]; exact h1, by rw [List.getElem?_append_left (by omega)]; exact h2, by rw [List.getElem?_append_left (by omega)]; exact h3, mv h4⟩
theorem OutL.qs {w : World} {base k : Nat} {v : Value} {Q : Nat -> Rat} {xs : List Value} (h : OutL w base v k Q xs) : ∃ a b cap, v = .slice a k cap /\ xj5 w (fun _ => True) a b 0 k Q := by
 have hc := @World.ownsRow.cells _ _ _ _ _ _ _ h.own; have h2 := h.own; have hat := h.at_; obtain ⟨_, ⟨rfl, rfl⟩ | ⟨g, cap, cur, rfl, hg, hb, hn, _⟩⟩ := h2
 . exact ⟨none, 0, 0, rfl, fun i hi => absurd hi (by omega)⟩
 . refine ⟨_, g, cap, rfl, fun i hi => ⟨rfl, ?_⟩⟩
   obtain ⟨x, y, h1, h2, h3, h4⟩ := hat i hi; have e1 := hc (g := g) rfl _ _ h1; have e2 := hc (g := g) rfl _ _ h2; have e3 := hc (g := g) rfl _ _ h3; rw [Go.WideShapes.add_plain] at e1 e2 e3; exact ⟨x, y, e1, by rw [Nat.add_assoc]; exact e2, by rw [Nat.add_assoc]; exact e3, h4.imp (fun _ _ _ => trivial)⟩
theorem new3 (w : World) (x y z : Value) (t : TypeId) : ∀ j u, ([x, y, z] : List Value)[j]? = some u -> (w.alloc (.cells #[x, y, z] t)).cell? ((⟨w.heap.size, 0, none⟩ : Addr).add j) = some u := fun j u hu => by
 rw [Go.WideShapes.add_plain, Nat.zero_add]
 rcases j with _ | _ | _ | j
 . simp at hu; subst hu; simp [go_sem]
 . simp at hu; subst hu; simp [go_sem]
 . simp at hu; subst hu; simp [go_sem]
 . simp at hu
theorem one3 (f : Bool) (a b : Option Addr) (n c m d : Nat) : ∀ u ∈ ([.bool f, .slice a n c, .slice b m d] : List Value), u.oneCell' = true := by
 intro u hu
 simp at hu
 rcases hu with rfl | rfl | rfl <;> rfl
theorem infoRat : ∃ i, Tryz.prog.info? 70 = some i /\ i.zero = some (.agg #[.bool false, .slice none 0 0, .slice none 0 0]) /\ i.size = 3 /\ i.bytes = 56 := by
 obtain ⟨i, hi, h⟩ := Option.map_eq_some_iff.1 yq0; simp only [Prod.mk.injEq] at h; exact ⟨i, hi, h.1, h.2.1, h.2.2⟩
theorem xj5.blocks {w w' : World} {p : Nat -> Prop} {a : Option Addr} {b off n : Nat} {Q : Nat -> Rat} (h : xj5 w p a b off n Q) (h0 : 0 < n -> w'.heap[b]? = w.heap[b]?) (hb : ∀ g, g < w.heap.size -> p g -> w'.heap[g]? = w.heap[g]?) : xj5 w' p a b off n Q := fun i hi => by
 obtain ⟨h1, x, y, C⟩ := h i hi; have e := h0 (by omega); exact ⟨h1, x, y, (World.cell?_of_block (w := w) (a := ⟨b, off + i * 3, none⟩) e).trans C.c0, (World.cell?_of_block (w := w) (a := ⟨b, off + i * 3 + 1, none⟩) e).trans C.c1, (World.cell?_of_block (w := w) (a := ⟨b, off + i * 3 + 2, none⟩) e).trans C.c2, C.R.blocks hb⟩
theorem xj5.lt {w : World} {p : Nat -> Prop} {a : Option Addr} {b off n : Nat} {Q : Nat -> Rat} (h : xj5 w p a b off n Q) (h0 : 0 < n) : b < w.heap.size := by
 obtain ⟨-, x, y, C⟩ := h 0 h0; exact C.lt
structure VecL (w : World) (base : Nat) (v : Value) (k : Nat) (D : Nat -> Nat) (V : Nat -> Nat -> Rat) (xs : List Value) : Prop where
 own : w.ownsRow base 28 1 v k xs
 at_ : ∀ i, i < k -> ∃ aj bj oj cj, xs[i]? = some (.slice aj (D i) cj) /\ D i <= cj /\ (0 < D i -> v.ownBlock ≠ some bj) /\ xj5 w (fun g => v.ownBlock ≠ some g) aj bj oj (D i) (V i)
theorem VecL.keep {w w' : World} {base k : Nat} {v : Value} {D : Nat -> Nat} {V : Nat -> Nat -> Rat} {xs : List Value} (h : VecL w base v k D V xs) (s : w.Since w.heap.size w') : VecL w' base v k D V xs := by
 refine ⟨h.own.kept (row := none) ⟨s.os, s.tape, s.output, s.size, fun k hk _ => s.block k hk⟩ (Classical.em _), fun i hi => ?_⟩; obtain ⟨aj, bj, oj, cj, h1, h2, h3, h4⟩ := h.at_ i hi; exact ⟨aj, bj, oj, cj, h1, h2, h3, h4.keep s⟩
theorem VecL.len {w : World} {base k : Nat} {v : Value} {D : Nat -> Nat} {V : Nat -> Nat -> Rat} {xs : List Value} (h : VecL w base v k D V xs) : xs.length = k := by have := h.own.1; omega
theorem VecL.snoc {w w1 w' : World} {base k : Nat} {v v' : Value} {D : Nat -> Nat} {V : Nat -> Nat -> Rat} {xs : List Value} {a : Option Addr} {b o c : Nat} (h : VecL w base v k D V xs) (s1 : w.Since w.heap.size w1) (hs : w.heap.size < w1.heap.size) (g : w1.grownBy w' v.ownBlock) (own : w'.ownsRow base 28 1 v' (k + 1) (xs ++ [.slice a (D k) c]))
 (hat : v'.ownBlock = v.ownBlock ∨ v'.ownBlock = some w1.heap.size) (hc : D k <= c) (hb : 0 < D k -> v.ownBlock ≠ some b) (R : xj5 w (fun g => v.ownBlock ≠ some g) a b o (D k) (V k)) : VecL w' base v' (k + 1) D V (xs ++ [.slice a (D k) c]) := by
 have hl := h.len
 have ne : ∀ j, j < w.heap.size -> v.ownBlock ≠ some j -> v'.ownBlock ≠ some j := fun j hj hp e => by
  rcases hat with h | h
  . exact hp (h.symm.trans e)
  . rw [e] at h; simp at h; omega
 have same : ∀ j, j < w.heap.size -> v.ownBlock ≠ some j -> w'.heap[j]? = w.heap[j]? := fun j hj hp => (g.block j (by omega) (fun e => hp e.symm)).trans (s1.block j hj)
 have mv : ∀ {a : Option Addr} {b o n : Nat} {Q : Nat -> Rat}, (0 < n -> v.ownBlock ≠ some b) -> xj5 w (fun g => v.ownBlock ≠ some g) a b o n Q -> (0 < n -> v'.ownBlock ≠ some b) /\ xj5 w' (fun g => v'.ownBlock ≠ some g) a b o n Q := fun {a b o n Q} hb r => by
  refine ⟨fun hn => ne b (r.lt hn) (hb hn), ?_⟩; have r2 : xj5 w (fun g => v.ownBlock ≠ some g /\ v'.ownBlock ≠ some g) a b o n Q := r.imp (fun j hj hp => ⟨hp, ne j hj hp⟩); exact (r2.blocks (fun hn => same b (r.lt hn) (hb hn)) (fun j hj hp => same j hj hp.1)).imp (fun _ _ hp => hp.2)
 refine ⟨own, fun i hi => ?_⟩
 by_cases e : i = k
 . subst e
   obtain ⟨m1, m2⟩ := mv hb R; exact ⟨a, b, o, c, by rw [List.getElem?_append_right (by omega), hl]; simp, hc, m1, m2⟩
 . obtain ⟨aj, bj, oj, cj, h1, h2, h3, h4⟩ := h.at_ i (by omega)
   obtain ⟨m1, m2⟩ := mv h3 h4; exact ⟨aj, bj, oj, cj, by rw [List.getElem?_append_left (by omega)]; exact h1, h2, m1, m2⟩
theorem VecL.vecs {w : World} {base k g cap : Nat} {D : Nat -> Nat} {V : Nat -> Nat -> Rat} {xs : List Value} (h : VecL w base (.slice (some ⟨g, 0, none⟩) k cap) k D V xs) : Vecs w (fun q => q ≠ g) (some ⟨g, 0, none⟩) g 0 k D V := fun j hj => by
 have hc := @World.ownsRow.cells _ _ _ _ _ _ _ h.own; obtain ⟨aj, bj, oj, cj, h1, h2, -, h4⟩ := h.at_ j hj; have e1 := hc (g := g) rfl _ _ h1; rw [Go.WideShapes.add_plain] at e1; exact ⟨rfl, aj, bj, oj, cj, e1, h2, h4.imp (fun q _ hq e => hq (by rw [e]; rfl))⟩
theorem infoRats : ∃ i, Tryz.prog.info? 28 = some i /\ i.zero = some (.slice none 0 0) /\ i.size = 1 /\ i.bytes = 24 := by
 have h : (Tryz.prog.info? 28).map (fun i => (i.zero, i.size, i.bytes)) = some (some (.slice none 0 0), 1, 24) := by kernel_rfl
 obtain ⟨i, hi, h⟩ := Option.map_eq_some_iff.1 h; simp only [Prod.mk.injEq] at h; exact ⟨i, hi, h.1, h.2.1, h.2.2⟩
theorem vecA_same (g : xq8) (X : Nat -> Rat) {i j : Nat} (h : j <= i) : vecA g X i j = vecA g X j j := by
 induction i with
 | zero => have : j = 0 := by omega
           subst this; rfl
 | succ i ih =>
   by_cases e : j = i + 1
   . subst e; rfl
   . rw [vecA_old g X (by omega)]; exact ih (by omega)
theorem dimA_same (g : xq8) {i j : Nat} (h : j <= i) : dimA g i j = dimA g j j := by
 induction i with
 | zero => have : j = 0 := by omega
           subst this; rfl
 | succ i ih =>
   by_cases e : j = i + 1
   . subst e; rfl
   . rw [yw3 g (by omega)]; exact ih (by omega)
theorem ratD_qbK {r : RatD} {K : Nat} (ok : r.ok = true) (l : r.lim) (h : r.n + r.m < K) : Qb r.q K := by
 obtain ⟨h1, h2⟩ := q_small ok l; refine ⟨Nat.lt_of_lt_of_le (Nat.lt_of_succ_le h1) (Nat.pow_le_pow_right (by decide) (show r.n <= K by omega)), Nat.lt_of_le_of_lt h2 (Nat.pow_lt_pow_right (by decide) (show r.m < K by omega))⟩
theorem ratD_qb {r : RatD} (ok : r.ok = true) (l : r.lim) (h : r.n + r.m <= 1048576) : Qb r.q 1048577 := ratD_qbK ok l (by omega)
theorem orderOf_q {v v' : Value} {p q : Rat} {k l : Nat} {w : World} (hp : Qb p k) (hq : Qb q l) (hk : 2 * k + 2 * l <= 16777216) (R : RatR w v p) (R' : RatR w v' q) :
 Calls Tryz.prog 52 #[v, v'] w fun e w' => e = .returned (.int .i64 (qcmp p q)) /\ w.Since w.heap.size w' := by
 obtain ⟨a, n, ca, b, m, cb, ba, oa, bb, ob, X, Y, rfl, R, x1, x2⟩ := R; obtain ⟨a', n', ca', b', m', cb', ba', oa', bb', ob', X', Y', rfl, R', y1, y2⟩ := R'; have n1 := xz3 R.pX (by rw [x1]; exact hp.1); have n2 := xz3 R.pY (by rw [x2]; exact hp.2); have n3 := xz3 R'.pX (by rw [y1]; exact hq.1); have n4 := xz3 R'.pY (by rw [y2]; exact hq.2); have J := orderOf_any (qn p) (qn q) a b a' b' ba oa n ca bb ob m cb ba' oa' n' ca' bb' ob' m' cb' X Y X' Y' w (by omega) R R'; rw [x1, x2, y1, y2, q_cmp] at J; exact J
structure IntL (w : World) (base : Nat) (v : Value) (k : Nat) (X : Nat -> Int) (xs : List Value) : Prop where
 own : w.ownsRow base 3 1 v k xs
 at_ : ∀ i, i < k -> xs[i]? = some (.int .i64 (X i))
theorem IntL.keep {w w' : World} {base k : Nat} {v : Value} {X : Nat -> Int} {xs : List Value} (h : IntL w base v k X xs) (s : w.Since w.heap.size w') : IntL w' base v k X xs :=
 ⟨h.own.kept (row := none) ⟨s.os, s.tape, s.output, s.size, fun k hk _ => s.block k hk⟩ (Classical.em _), h.at_⟩
theorem IntL.snoc {w' : World} {base k : Nat} {v' : Value} {X : Nat -> Int} {z : Int} {xs : List Value} (hl : xs.length = k) (at_ : ∀ i, i < k -> xs[i]? = some (.int .i64 (X i))) (own : w'.ownsRow base 3 1 v' (k + 1) (xs ++ [.int .i64 z])) (hz : X k = z) : IntL w' base v' (k + 1) X (xs ++ [.int .i64 z]) := by
 refine ⟨own, fun i hi => ?_⟩
 by_cases e : i = k
 . subst e
   rw [List.getElem?_append_right (by omega), hl, hz]; simp
 . rw [List.getElem?_append_left (by omega)]; exact at_ i (by omega)
theorem IntL.len {w : World} {base k : Nat} {v : Value} {X : Nat -> Int} {xs : List Value} (h : IntL w base v k X xs) : xs.length = k := by have := h.own.1; omega
theorem IntL.ints {w : World} {base k g cap : Nat} {X : Nat -> Int} {xs : List Value} (h : IntL w base (.slice (some ⟨g, 0, none⟩) k cap) k X xs) : Ints w (some ⟨g, 0, none⟩) g 0 k X := fun j hj => by
 have hc := @World.ownsRow.cells _ _ _ _ _ _ _ h.own; have e1 := hc (g := g) rfl _ _ (h.at_ j hj); rw [Go.WideShapes.add_plain] at e1; exact ⟨rfl, e1⟩
theorem infoInt : ∃ i, Tryz.prog.info? 3 = some i /\ i.zero = some (.int .i64 0) /\ i.size = 1 /\ i.bytes = 8 := by
 have h : (Tryz.prog.info? 3).map (fun i => (i.zero, i.size, i.bytes)) = some (some (.int .i64 0), 1, 8) := by kernel_rfl
 obtain ⟨i, hi, h⟩ := Option.map_eq_some_iff.1 h; simp only [Prod.mk.injEq] at h; exact ⟨i, hi, h.1, h.2.1, h.2.2⟩
theorem headFits_any (g : xq8) (aL aH aN : Option Addr) (lo kL kH kN : Nat) (w : World) (hw : 0 <= w.heap.size) (hT : Tab w) (hd : g.size <= 1048576) (H : GraL w lo g aL aH aN kL kH kN) :
 Calls Tryz.prog 51 #[.agg #[.int .i64 g.inn, .int .i64 g.rounds, .slice aL g.nl kL, .slice aH g.nh kH, .slice aN g.nn kN, .int .i64 g.out]] w fun e w' => xw2 e (HeadP g) /\ w.Since w.heap.size w' := by
 have ts := hd; unfold xq8.size at ts; have sA := sal w (.cells #[.int .i64 g.inn, .int .i64 g.rounds, .slice aL g.nl kL, .slice aH g.nh kH, .slice aN g.nn kN, .int .i64 g.out] 50); have bA := Box6.new w (.int .i64 g.inn) (.int .i64 g.rounds) (.slice aL g.nl kL) (.slice aH g.nh kH) (.slice aN g.nn kN) (.int .i64 g.out) 50
 by_cases h1 : g.inn < 1
 . go_enter Tryz.func51, Tryz.ntmps51
   go_wp2; go_ret; exact ⟨⟨false, rfl, by simp only [Bool.false_eq_true, false_iff]; intro h; have := h.i1; omega⟩, sA⟩
 by_cases h2 : 1000 < g.inn
 . go_enter Tryz.func51, Tryz.ntmps51
   go_wp2; go_ret; exact ⟨⟨false, rfl, by simp only [Bool.false_eq_true, false_iff]; intro h; have := h.i2; omega⟩, sA⟩
 by_cases h3 : g.rounds < 0
 . go_enter Tryz.func51, Tryz.ntmps51
   go_wp2; go_ret; exact ⟨⟨false, rfl, by simp only [Bool.false_eq_true, false_iff]; intro h; have := h.r0; omega⟩, sA⟩
 by_cases h4 : 1000 < g.rounds
 . go_enter Tryz.func51, Tryz.ntmps51
   go_wp2; go_ret; exact ⟨⟨false, rfl, by simp only [Bool.false_eq_true, false_iff]; intro h; have := h.r1; omega⟩, sA⟩
 by_cases h5 : (g.nl : Int) = g.inn
 case neg =>
  have q5 : ((g.nl : Int) != g.inn) = true := by simp [h5]
  go_enter Tryz.func51, Tryz.ntmps51; go_wp2; go_ret; exact ⟨⟨false, rfl, by simp only [Bool.false_eq_true, false_iff]; intro h; exact h5 h.l⟩, sA⟩
 have q5 : ((g.nl : Int) != g.inn) = false := by simp [h5]
 have H5 := hide h5; clear h5
 by_cases h6 : (g.nh : Int) = g.inn
 case neg =>
  have q6 : ((g.nh : Int) != g.inn) = true := by simp [h6]
  go_enter Tryz.func51, Tryz.ntmps51; go_wp2; go_ret; exact ⟨⟨false, rfl, by simp only [Bool.false_eq_true, false_iff]; intro h; exact h6 h.h⟩, sA⟩
 have q6 : ((g.nh : Int) != g.inn) = false := by simp [h6]
 have H6 := hide h6; clear h6
 by_cases h7 : 1000 < g.nn
 . have q7 : (1000 : Int) < (g.nn : Int) := by omega
   go_enter Tryz.func51, Tryz.ntmps51; go_wp2; go_ret; exact ⟨⟨false, rfl, by simp only [Bool.false_eq_true, false_iff]; intro h; have := h.n; omega⟩, sA⟩
 have q7 : ¬ (1000 : Int) < (g.nn : Int) := by omega
 obtain ⟨b1, o1, -, L1⟩ := (H.keep sA).LL; have J1 := yj2 aL lo b1 o1 g.nl kL g.Lo _ (Nat.zero_le _) (hT.stay hw sA) (by omega) (by omega) L1; go_enter Tryz.func51, Tryz.ntmps51; go_wp2_with fail; generalize w.alloc (.cells #[.int .i64 g.inn, .int .i64 g.rounds, .slice aL g.nl kL, .slice aH g.nh kH, .slice aN g.nn kN, .int .i64 g.out] 50) = wA at *; refine J1.mono ?_; rintro e w1 ⟨r1, rfl, h8, s1⟩; have S1 := sA.trans (sM s1 sA.size); have p3 := (bA.keep s1).c3; cases r1
 . have N8 := hide h8
   clear h8; go_wp2; go_ret; exact ⟨⟨false, rfl, by simp only [Bool.false_eq_true, false_iff]; intro h; have := N8.out.2 h.okL; cases this⟩, S1⟩
 have O1 := hide (h8.1 rfl); clear h8; obtain ⟨b2, o2, -, L2⟩ := (H.keep S1).LH; have J2 := yj2 aH lo b2 o2 g.nh kH g.Hi w1 (Nat.zero_le _) (hT.stay hw S1) (by omega) (by omega) L2; go_wp2_with fail; refine J2.mono ?_; rintro e w2 ⟨r2, rfl, h9, s2⟩; have N9 := hide h9; clear h9; go_wp2; go_ret; exact ⟨⟨r2, rfl, N9.out.trans ⟨fun h => ⟨by omega, by omega, by omega, by omega, H5.out, H6.out, by omega, O1.out, h⟩, fun h => h.okH⟩⟩, S1.trans (sM s2 S1.size)⟩
structure EvG (g : xq8) (nx : Nat) (X : Nat -> RatD) : Prop where
 head : HeadP g
 box : ∀ j : Nat, (j : Int) < g.inn -> ¬ yq2 g j
 node : ∀ k, k < g.nn -> nc g k = 0
 o0 : 0 <= g.out
 o1 : g.out <= g.nn
 x : (nx : Int) = g.inn
 ok : yz5 X nx
theorem EvG.outc {g : xq8} {nx n : Nat} {X : Nat -> RatD} {Y : Nat -> Int} {c a : Int} (E : EvG g nx X) (h : Outc g n Y c a) : c = 0 /\ n = g.nn + 1 /\ ∀ j, j < n -> Y j = dimA g g.nn j := by
 obtain ⟨h1, h2, h3, h4⟩ := Outc.only (n := g.nn + 1) (X := dimA g g.nn) (c := 0) (a := 0) (.inr (.inr (.inr (.inr ⟨E.head, E.box, E.node, ⟨E.o0, E.o1⟩, rfl, fun _ _ => rfl, rfl, rfl⟩)))) h; exact ⟨h2, h1, fun j hj => h4 j (by omega)⟩
theorem EvG.of {g : xq8} {nx n : Nat} {X : Nat -> RatD} {Y : Nat -> Int} {a : Int} (h : Outc g n Y 0 a) (x : (nx : Int) = g.inn) (ok : yz5 X nx) : EvG g nx X := by
 rcases h with ⟨-, -, e, -⟩ | ⟨-, j, -, -, -, -, e, -⟩ | ⟨-, -, i, -, -, e, -, e2, -⟩ | ⟨-, -, -, -, -, e, -⟩ | ⟨p0, p1, p2, p3, -⟩
 . cases e
 . cases e
 . exact absurd e2.symm e
 . cases e
 . exact ⟨p0, p1, p2, p3.1, p3.2, x, ok⟩
def vD (g : xq8) (j : Nat) : Nat := (dimA g j j).toNat
def vV (g : xq8) (X : Nat -> RatD) (j : Nat) : Nat -> Rat := vecA g (fun c => (X c).q) j j
structure StepP (g : xq8) (X : Nat -> RatD) (i : Nat) : Prop where
 a0 : 0 <= (g.N i).a
 ai : (g.N i).a.toNat <= i
 b0 : 0 <= (g.N i).b
 bi : (g.N i).b.toNat <= i
 b4 : (g.N i).op = 4 -> vD g (g.N i).b.toNat = vD g (i + 1)
 sh : yv5 (g.N i) (vD g (g.N i).a.toNat) (vD g (i + 1))
 new : vV g X (i + 1) = vecN (g.N i) (vV g X (g.N i).a.toNat) (vV g X (g.N i).b.toNat) (vD g (g.N i).a.toNat)
 d : ∀ j, j <= i + 1 -> 1 <= vD g j /\ vD g j <= 1000
 nv : (g.N i).nv <= 1002000
 qw : ∀ c, c < (g.N i).nv -> Qb ((g.N i).w c) 1048640
 qx : ∀ j, j <= i -> ∀ e, e < vD g j -> Qb (vV g X j e) 1048640
 q1 : (g.N i).op = 1 -> ∀ e, e < vD g (i + 1) -> ∀ k, k <= vD g (g.N i).a.toNat -> Qb (psum 0 (fun t => (g.N i).w (e * (vD g (g.N i).a.toNat + 1) + t)) (vV g X (g.N i).a.toNat) k) 1048640
 q6 : (g.N i).op = 6 -> ∀ e, e < vD g (i + 1) -> ∀ k, k <= (g.N i).k.toNat -> Qb (psum 0 (g.N i).w (fun t => vV g X (g.N i).a.toNat (e * (g.N i).s.toNat + t)) k) 1048640
 p1 : (g.N i).op = 1 -> ∀ e, e < vD g (i + 1) -> ∀ k, k <= vD g (g.N i).a.toNat -> Qb (psum ((g.N i).w (e * (vD g (g.N i).a.toNat + 1) + vD g (g.N i).a.toNat)) (fun t => (g.N i).w (e * (vD g (g.N i).a.toNat + 1) + t)) (vV g X (g.N i).a.toNat) k) 1048640
 p6 : (g.N i).op = 6 -> ∀ e, e < vD g (i + 1) -> ∀ k, k <= (g.N i).k.toNat -> Qb (psum ((g.N i).w (g.N i).k.toNat) (g.N i).w (fun t => vV g X (g.N i).a.toNat (e * (g.N i).s.toNat + t)) k) 1048640
 m6 : (g.N i).op = 6 -> (((vD g (g.N i).a.toNat : Nat) : Int) - (g.N i).k) / (g.N i).s + 1 = ((vD g (i + 1) : Nat) : Int)
theorem EvG.stand {g : xq8} {nx : Nat} {X : Nat -> RatD} (E : EvG g nx X) {i : Nat} (hi : i <= g.nn) : Stand g i := ⟨E.head.i1, E.head.i2, fun k hk => E.node k (by omega)⟩
theorem EvG.dims {g : xq8} {nx : Nat} {X : Nat -> RatD} (E : EvG g nx X) {j : Nat} (hj : j <= g.nn) : 1 <= vD g j /\ vD g j <= 1000 := by
 have h := (E.stand hj).dok j (by omega); unfold vD; omega
theorem EvG.qx {g : xq8} {nx : Nat} {X : Nat -> RatD} (E : EvG g nx X) (hz : g.size + (nx + szR X nx) <= 1048576) (lx : ∀ c, c < nx -> (X c).lim) (ln : ∀ k, k < g.nn -> ∀ c, c < (g.N k).nv -> ((g.N k).V c).lim) {j : Nat} (hj : j <= g.nn) {e : Nat} (he : e < vD g j) : Qb (vV g X j e) 1048640 := by
 have st := E.stand hj; have hx : g.inn.toNat = nx := by have := E.x; omega
 have hnn := E.head.n; have zs := szN_mono (A := g.N) hj; unfold xq8.size at hz; have r := graph_rep (x := fun c => (X c).q) st hx j (Nat.le_refl _) e he; have lim1 := hide (gT_lim (K := 1048640) st (by omega) E.ok lx (fun k hk => ln k (by omega)) (by omega)); exact r.lim (gD_pos st) (Nat.le_refl _) (gD_gT st) lim1.out
theorem EvG.step {g : xq8} {nx : Nat} {X : Nat -> RatD} (E : EvG g nx X) (hz : g.size + (nx + szR X nx) <= 1048576) (lx : ∀ c, c < nx -> (X c).lim) (ln : ∀ k, k < g.nn -> ∀ c, c < (g.N k).nv -> ((g.N k).V c).lim) {i : Nat} (hi : i < g.nn) : StepP g X i := by
 have st := E.stand (i := i) (by omega); have st1 := E.stand (i := i + 1) (by omega); have hx : g.inn.toNat = nx := by have := E.x; omega
 have hnn := E.head.n; obtain ⟨f, ⟨a0, ai, sb⟩, c⟩ := yz4 (E.node i hi)
 have b0 : 0 <= (g.N i).b /\ (g.N i).b.toNat <= i := by
  by_cases hb : usesB (g.N i).op = true
  . have := sb hb; omega
  . have := f.b (by simpa using hb)
    omega
 have ai' : (g.N i).a.toNat <= i := by omega
 have eD : ∀ j, j <= i -> (dimA g i j).toNat = vD g j := fun j hj => by unfold vD; rw [dimA_same g hj]
 have eV : ∀ j, j <= i -> vecA g (fun c => (X c).q) i j = vV g X j := fun j hj => by unfold vV; rw [vecA_same g _ hj]
 have sh := st1.shape (Nat.lt_succ_self i); rw [eD _ ai'] at sh; have sh : yv5 (g.N i) (vD g (g.N i).a.toNat) (vD g (i + 1)) := sh
 have new : vV g X (i + 1) = vecN (g.N i) (vV g X (g.N i).a.toNat) (vV g X (g.N i).b.toNat) (vD g (g.N i).a.toNat) := by
  show vecA g (fun c => (X c).q) (i + 1) (i + 1) = _
  rw [vecA_new, eV _ ai', eV _ b0.2, eD _ ai']
 have hzs := hz; unfold xq8.size at hzs; have zs := szN_mono (A := g.N) (show i + 1 <= g.nn from hi); have zi := szN_at (A := g.N) hi; unfold xq1.size at zi; have qw : ∀ c, c < (g.N i).nv -> Qb ((g.N i).w c) 1048640 := fun c hc => ratD_qbK (f.ok c hc) (ln i hi c hc) (by have := szR_at (R := (g.N i).V) hc; omega)
 have lim1 := hide (gT_lim (K := 1048640) st1 (by omega) E.ok lx (fun k hk => ln k (by omega)) (by omega)); have hD1 := gD_gT (x := fun c => (X c).q) (nx := nx) st1; have p1 := gD_pos (x := fun c => (X c).q) (nx := nx) st1
 have hr : ∀ c, c < vD g (g.N i).a.toNat -> Rep (vV g X (g.N i).a.toNat c) (gT g (fun c => (X c).q) nx i) (gD g (fun c => (X c).q) nx i) := fun c hc => by
  rw [<- eV _ ai']; exact graph_rep st hx _ ai' c (by rw [eD _ ai']; exact hc)
 have e1 : gT g (fun c => (X c).q) nx (i + 1) = 2 * (ndN (g.N i) * gT g (fun c => (X c).q) nx i * ndE (g.N i)) := rfl
 have e2 : (g.N i).op ≠ 7 -> gD g (fun c => (X c).q) nx (i + 1) = gD g (fun c => (X c).q) nx i * ndE (g.N i) := fun h7 => by
  show _ * ndF (g.N i) = _
  rw [ndF_E h7]
 refine ⟨a0, ai', b0.1, b0.2, fun o4 => ?_, sh, new, fun j hj => E.dims (by omega), ?_, qw, fun j hj e he => E.qx hz lx ln (by omega) he, fun o1 e he k hk => ?_, fun o6 e he k hk => ?_, fun o1 e he k hk => ?_, fun o6 e he k hk => ?_, fun o6 => ?_⟩
 . have h4 := sh.c4 o4
   rw [h4, <- eD _ b0.2, <- eD _ ai']; unfold xj3 at c
   by_cases h : dimA g i (g.N i).b.toNat = dimA g i (g.N i).a.toNat
   . rw [h]
   . simp [o4, h] at c
 . by_cases o1 : (g.N i).op = 1
   . have k1 := f.k
     rw [o1] at k1; have k1 : 1 <= (g.N i).k /\ (g.N i).k <= 1000 := k1; have d1 := (E.dims (j := (g.N i).a.toNat) (by omega)).2; rw [(sh.c1 o1).1]; exact Nat.le_trans (Nat.mul_le_mul (show (g.N i).k.toNat <= 1000 by omega) (show vD g (g.N i).a.toNat + 1 <= 1001 by omega)) (by decide)
   by_cases o6 : (g.N i).op = 6
   . have k1 := f.k
     rw [o6] at k1; have k1 : 1 <= (g.N i).k /\ (g.N i).k <= 1000 := k1; have := (sh.c6 o6).1; omega
   by_cases o3 : (g.N i).op = 3
   . have := f.v3 o3; omega
   by_cases o7 : (g.N i).op = 7
   . have := f.v7 o7; omega
   have := f.v (by simp [usesV, o1, o6, o3, o7]); omega
 . have r := (dense_rep sh o1 (gD_gT st) hr he hk).2
   rw [<- e2 (by omega)] at r; exact r.lim p1 (by omega) hD1 lim1.out
 . have r := (conv_rep sh o6 (gD_gT st) hr he hk).2
   rw [<- e2 (by omega)] at r; exact r.lim p1 (by omega) hD1 lim1.out
 . have r := (dense_rep sh o1 (gD_gT st) hr he hk).1
   rw [<- e2 (by omega)] at r; exact r.lim p1 (by omega) hD1 lim1.out
 . have r := (conv_rep sh o6 (gD_gT st) hr he hk).1
   rw [<- e2 (by omega)] at r; exact r.lim p1 (by omega) hD1 lim1.out
 . have da := st.dok (g.N i).a.toNat (by omega)
   have dn := st1.dok (i + 1) (by omega); have ed := yw4 g i; unfold xx4 at ed; rw [if_neg (by omega), if_neg (by omega), if_pos o6] at ed; have ea : ((vD g (g.N i).a.toNat : Nat) : Int) = dimA g i (g.N i).a.toNat := by rw [<- eD _ ai']; omega
   have en : ((vD g (i + 1) : Nat) : Int) = dimA g (i + 1) (i + 1) := by show (((dimA g (i + 1) (i + 1)).toNat : Nat) : Int) = _; omega
   rw [ea, en, ed]
theorem qcmp_max (q q' : Rat) : (0 <= qcmp q q' -> (if q < q' then q' else q) = q) /\ (qcmp q q' < 0 -> (if q < q' then q' else q) = q') := by
 unfold qcmp
 by_cases h : q < q'
 . simp [h]
 . simp only [h, if_false]
   split <;> simp
theorem l1Max_v (x y x' y' : Value) (q q' : Rat) (w : World) (hq : Qb q 1048640) (hq' : Qb q' 1048640) (r : Rat) (hr : Hid ((if q < q' then q' else q) = r)) (R : RatR w (.agg #[.bool (qn q), x, y]) q) (R' : RatR w (.agg #[.bool (qn q'), x', y']) q') :
 Calls Tryz.prog 108 #[.agg #[.bool (qn q), x, y], .agg #[.bool (qn q'), x', y']] w fun e w' => ∃ u, e = .returned u /\ xz4 w' (fun g => w.heap.size <= g) u r /\ w.Since w.heap.size w' := by
 obtain ⟨wA, eA⟩ : ∃ wA : World, wA = ((w.alloc (.cells #[.bool (qn q), x, y] 70)).alloc (.cells #[.bool (qn q'), x', y'] 70)).alloc (.cells #[.bool false, .slice none 0 0, .slice none 0 0] 70) := ⟨_, rfl⟩; have sA : w.Since w.heap.size wA := by rw [eA]; exact (((World.Since.refl _ _).alloc (Nat.le_refl _) _).alloc (by simp) _).alloc (by simp; omega) _
 have zA : wA.heap.size = w.heap.size + 1 + 1 + 1 := by rw [eA]; simp
 have bA : Box3 wA w.heap.size (.bool (qn q)) x y := by rw [eA]; exact ((Box3.new w _ _ _ _).keep ((World.Since.refl _ _).alloc (Nat.le_refl _) _)).keep ((World.Since.refl _ _).alloc (Nat.le_refl _) _)
 have cA : Box3 wA (w.heap.size + 1) (.bool (qn q')) x' y' := by
  rw [eA]; have := (Box3.new (w.alloc (.cells #[.bool (qn q), x, y] 70)) (.bool (qn q')) x' y' 70).keep ((World.Since.refl _ _).alloc (Nat.le_refl _) (.cells #[.bool false, .slice none 0 0, .slice none 0 0] 70))
  simpa using this
 have rA : Box3 wA (w.heap.size + 1 + 1) (.bool false) (.slice none 0 0) (.slice none 0 0) := by
  rw [eA]; have := Box3.new ((w.alloc (.cells #[.bool (qn q), x, y] 70)).alloc (.cells #[.bool (qn q'), x', y'] 70)) (.bool false) (.slice none 0 0) (.slice none 0 0) 70
  simpa using this
 have RK := R; have RK' := R'; obtain ⟨a5, n5, c5, b5, m5, d5, -, -, -, -, -, -, e5, -⟩ := R; obtain ⟨a6, n6, c6, b6, m6, d6, -, -, -, -, -, -, e6, -⟩ := R'; simp only [Value.agg.injEq, Array.mk.injEq, List.cons.injEq, and_true, true_and] at e5 e6; obtain ⟨rfl, rfl⟩ := e5; obtain ⟨rfl, rfl⟩ := e6; have JC := l1Cmp_q hq hq' (by omega) (RK.keep sA) (RK'.keep sA); have HR := hide ((hr.out ▸ qcmp_max q q' : (0 <= qcmp q q' -> r = q) /\ (qcmp q q' < 0 -> r = q'))); have EA := hide eA; clear eA; go_enter Tryz.func108, Tryz.ntmps108; go_wp2_with fail; rw [<- EA.out]; refine JC.mono ?_; rintro e w1 ⟨rfl, s1⟩; have S1 := sA.trans (sM s1 sA.size); have b1 := bA.keep s1; have c1 := cA.keep s1; have r1 := rA.keep s1; clear JC EA bA cA rA
 by_cases hz : 0 <= qcmp q q'
 . have HE := hide (HR.out.1 hz)
   have k0 := b1.c0; have k1 := b1.c1; have k2 := b1.c2; go_wp2_with fail; refine (l1Copy_q hq (by omega) (RK.keep S1)).mono ?_; rintro e w2 ⟨u, rfl, RP, s2⟩; have RQ := RP; obtain ⟨a7, n7, c7, b7, m7, d7, -, -, -, -, -, -, e7, -⟩ := RQ; subst e7; have r2 := r1.keep s2; have q0 := r2.c0; have q1 := r2.c1; have q2 := r2.c2; have qf0 := r2.f 0; have qf1 := r2.f 1; have qf2 := r2.f 2; have S2 := S1.trans (sM s2 S1.size); have z1 := s1.size; clear k0 k1 k2; go_wp2; have r3 := ((r2.set0 (.bool (qn q))).set1 (.slice a7 n7 c7)).set2 (.slice b7 m7 d7); refine bodyPost_ret (rb3 rfl _ _ _ _ _ _ rfl r3) rfl ?_; have M : xq0 w2 _ (w.heap.size + 1 + 1) := (((xq0.refl w2 _).setCell 0 (.bool (qn q))).setCell 1 (.slice a7 n7 c7)).setCell 2 (.slice b7 m7 d7); rw [HE.out]; exact ⟨_, rfl, (RP.marked M (by show ¬ w1.heap.size <= _; omega)).imp (fun g _ h => by omega), S2.trans (M.since (by omega))⟩
 . have hz' : qcmp q q' < 0 := by omega
   have HE := hide (HR.out.2 hz'); have k0 := c1.c0; have k1 := c1.c1; have k2 := c1.c2; go_wp2_with fail; refine (l1Copy_q hq' (by omega) (RK'.keep S1)).mono ?_; rintro e w2 ⟨u, rfl, RP, s2⟩; have RQ := RP; obtain ⟨a7, n7, c7, b7, m7, d7, -, -, -, -, -, -, e7, -⟩ := RQ; subst e7; have r2 := r1.keep s2; have q0 := r2.c0; have q1 := r2.c1; have q2 := r2.c2; have qf0 := r2.f 0; have qf1 := r2.f 1; have qf2 := r2.f 2; have S2 := S1.trans (sM s2 S1.size); have z1 := s1.size; clear k0 k1 k2; go_wp2; have r3 := ((r2.set0 (.bool (qn q'))).set1 (.slice a7 n7 c7)).set2 (.slice b7 m7 d7); refine bodyPost_ret (rb3 rfl _ _ _ _ _ _ rfl r3) rfl ?_; have M : xq0 w2 _ (w.heap.size + 1 + 1) := (((xq0.refl w2 _).setCell 0 (.bool (qn q'))).setCell 1 (.slice a7 n7 c7)).setCell 2 (.slice b7 m7 d7); rw [HE.out]; exact ⟨_, rfl, (RP.marked M (by show ¬ w1.heap.size <= _; omega)).imp (fun g _ h => by omega), S2.trans (M.since (by omega))⟩
theorem l1Max_q {v v' : Value} {q q' : Rat} {w : World} (hq : Qb q 1048640) (hq' : Qb q' 1048640) (R : RatR w v q) (R' : RatR w v' q') :
 Calls Tryz.prog 108 #[v, v'] w fun e w' => ∃ u, e = .returned u /\ xz4 w' (fun g => w.heap.size <= g) u (if q < q' then q' else q) /\ w.Since w.heap.size w' := by
 have RK := R; have RK' := R'; obtain ⟨a, n, ca, b, m, cb, -, -, -, -, -, -, rfl, -⟩ := R; obtain ⟨a', n', ca', b', m', cb', -, -, -, -, -, -, rfl, -⟩ := R'; exact l1Max_v _ _ _ _ q q' w hq hq' _ (hide rfl) RK RK'
theorem l2Greatest_q (F n l c0 : Nat) (aj : Option Addr) (bj oj : Nat) (x : Nat -> Rat) (w : World) (QJ : xj5 w (fun _ => True) aj bj oj l x) (hn : 1 <= n) (hF : F + n <= l) (hl : l <= 1000) (qj : ∀ e, e < l -> Qb (x e) 1048640) :
 Calls Tryz.prog 128 #[.slice aj l c0, .int .i64 (F : Int), .int .i64 (n : Int)] w fun e w' => ∃ u, e = .returned u /\ xz4 w' (fun g => w.heap.size <= g) u (xx1 x F (n - 1)) /\ w.Since w.heap.size w' := by
 have sA := sal w (.cells #[.bool false, .slice none 0 0, .slice none 0 0] 70); have zA : (w.alloc (.cells #[.bool false, .slice none 0 0, .slice none 0 0] 70)).heap.size = w.heap.size + 1 := by simp
 have rA := Box3.new w (.bool false) (.slice none 0 0) (.slice none 0 0) 70; obtain ⟨ea0, x0, y0, C0⟩ := QJ F (by omega); subst ea0; obtain ⟨aa, na, ca, ba, ma, da, -, -, -, -, -, -, ea, -⟩ := C0.R; simp only [Value.agg.injEq, Array.mk.injEq, List.cons.injEq, and_true, true_and] at ea; obtain ⟨rfl, rfl⟩ := ea; have hz1 : (F : Int) < (l : Int) := by omega
 have g0 := (C0.keep sA).c0; have g1 := (C0.keep sA).c1; have g2 := (C0.keep sA).c2; go_enter Tryz.func128, Tryz.ntmps128; go_wp2_with fail; generalize w.alloc (.cells #[.bool false, .slice none 0 0, .slice none 0 0] 70) = wA at *; refine (l1Copy_q (qj F (by omega)) (by omega) (C0.keep sA).R.read).mono ?_; rintro e w1 ⟨u1, rfl, R1, s1⟩; have R2 := R1; obtain ⟨a6, n6, c6, b6, m6, d6, -, -, -, -, -, -, e6, -⟩ := R2; subst e6; clear g0 g1 g2; have S1 := sA.trans (sM s1 sA.size); have r1 := rA.keep s1; have q1 := sal w1 (.cells #[.bool (qn (x F)), .slice a6 n6 c6, .slice b6 m6 d6] 70); have bz := Box3.new w1 (.bool (qn (x F))) (.slice a6 n6 c6) (.slice b6 m6 d6) 70; have Sz := S1.trans (sM q1 S1.size); have rz := r1.keep q1; have Rz := (R1.imp (p' := fun g => w.heap.size + 1 <= g /\ g ≠ w1.heap.size) (fun g hg hg' => by have h2 : wA.heap.size <= g := hg'; omega)).keep q1; have hfc : w.heap.size + 1 <= w1.heap.size := by have := s1.size; omega
 go_wp2_with fail; generalize w1.alloc (.cells #[.bool (qn (x F)), .slice a6 n6 c6, .slice b6 m6 d6] 70) = wz at *; clear R1 r1 q1 S1 rA s1; generalize w1.heap.size = fc at *
 go_loopw [8] (fun u wr => ∃ k : Nat, k + 1 <= n /\ u = .int .i64 ((k + 1 : Nat) : Int) /\ w.Since w.heap.size wr /\ Box3 wr w.heap.size (.bool false) (.slice none 0 0) (.slice none 0 0) /\ ∃ v1 v2, Box3 wr fc (.bool (qn (xx1 x F k))) v1 v2 /\ xz4 wr (fun g => w.heap.size + 1 <= g /\ g ≠ fc) (.agg #[.bool (qn (xx1 x F k)), v1, v2]) (xx1 x F k)) (fun u _ => n - (intOf u).toNat)
 case atStart => exact ⟨0, by omega, rfl, Sz, rz, _, _, bz, Rz⟩
 case round =>
  clear Sz rz bz Rz; obtain ⟨k, hk, rfl, s, r, v1, v2, bf, RF⟩ := hrel; have RF2 := RF; obtain ⟨a7, n7, c7, b7, m7, d7, -, -, -, -, -, -, e7, -⟩ := RF2; simp only [Value.agg.injEq, Array.mk.injEq, List.cons.injEq, and_true, true_and] at e7; obtain ⟨rfl, rfl⟩ := e7; have k0 := bf.c0; have k1 := bf.c1; have k2 := bf.c2; have kf0 := bf.f 0; have kf1 := bf.f 1; have kf2 := bf.f 2
  by_cases hlt : k + 1 < n
  . obtain ⟨-, xx, yx, CX⟩ := QJ (F + (k + 1)) (by omega)
    obtain ⟨ax, nx, cx, bx, mx, dx, -, -, -, -, -, -, ex, -⟩ := CX.R; simp only [Value.agg.injEq, Array.mk.injEq, List.cons.injEq, and_true, true_and] at ex; obtain ⟨rfl, rfl⟩ := ex; have hz : ((k + 1 : Nat) : Int) < (n : Int) := by omega
    have f1 : (F : Int) + ((k + 1 : Nat) : Int) = ((F + (k + 1) : Nat) : Int) := by omega
    have f2 : ((F + (k + 1) : Nat) : Int) < (l : Int) := by omega
    obtain ⟨t, ht⟩ : ∃ t, t = k + 1 := ⟨_, rfl⟩; obtain ⟨E, hE⟩ : ∃ E, E = F + (k + 1) := ⟨_, rfl⟩; rw [<- hE] at CX f1 f2; rw [<- ht] at f1 hz; have qF : IntKind.i64.wrap ((F : Int) + (t : Int)) = (E : Int) := by rw [f1]; exact xw9 (by omega) (by omega)
    clear f1; have f3 : (0 : Int) <= (E : Int) := by omega
    have qk : Qb (xx1 x F k) 1048640 := by
     obtain ⟨s', h1, h2⟩ := qmaxw_mem x F k; rw [h2]; exact qj _ (by omega)
    have qe : Qb (x E) 1048640 := qj _ (by omega); have dr := sdr wr; have sd := s.trans (sM dr s.size); have J1 := l1Max_q qk qe (RF.keep dr).read (CX.keep sd).R.read; have em : (if xx1 x F k < x E then x E else xx1 x F k) = xx1 x F (k + 1) := by rw [hE]; rfl
    rw [em] at J1; have HT := hide ht; have HE := hide hE; clear em; have g0 := (CX.keep s).c0; have g1 := (CX.keep s).c1; have g2 := (CX.keep s).c2; have lx := CX.lt; have ne1 : fc ≠ bj := by omega
    rw [<- ht]; clear ht hE; go_wp2_with fail; refine wp_region_held_drew (S := (fun w' => w'.cell? ⟨bj, oj + E * 3, none⟩ = some (.bool (qn (x E))) /\ w'.cell? ⟨bj, oj + E * 3 + 1, none⟩ = some (.slice ax nx cx) /\ w'.cell? ⟨bj, oj + E * 3 + 2, none⟩ = some (.slice bx mx dx))) (by kernel_rfl) ⟨(CX.keep sd).c0, (CX.keep sd).c1, (CX.keep sd).c2⟩ (fun hHeld => ?_); refine tk 1 20 (.slice (some ⟨bj, oj, none⟩) l c0) ?_; simp only [ap, la, List.set_cons_zero, ls]; refine tk 2 21 (.int .i64 F) ?_; simp only [ap, la, List.set_cons_zero, ls]; refine tk 3 22 (.int .i64 t) ?_; simp only [ap, la, List.set_cons_zero, ls]; refine ta 4 23 (.int .i64 E) ?_ ?_
    . intro w' hSw
      try dsimp only at hSw
      go_simp
    simp only [ap, la, List.set_cons_zero, ls]; refine ta 5 24 (.pointer (some ⟨bj, oj + E * 3, none⟩)) ?_ ?_
    . intro w' hSw
      try dsimp only at hSw
      go_simp
    simp only [ap, la, List.set_cons_zero, ls]; refine ta 6 25 (.agg #[.bool (qn (x E)), .slice ax nx cx, .slice bx mx dx]) ?_ ?_
    . intro w' hSw
      try dsimp only at hSw
      go_simp
    simp only [ap, la, List.set_cons_zero, ls]; refine wpAnyH_ready (rs := [0]) (by kernel_rfl) (by simp) ?_; refine AllReadyH.cons rfl (fun K hK => ?_) AllReadyH.nil; have l0 : wr.drew.cell? ⟨fc, 0, none⟩ = some (.bool (qn (xx1 x F k))) := (bf.keep dr).c0; have l1 : wr.drew.cell? ⟨fc, 1, none⟩ = some (.slice a7 n7 c7) := (bf.keep dr).c1; have l2 : wr.drew.cell? ⟨fc, 2, none⟩ = some (.slice b7 m7 d7) := (bf.keep dr).c2; go_simp; clear l0 l1 l2; refine hK.out _ _ ⟨(CX.keep sd).c0, (CX.keep sd).c1, (CX.keep sd).c2⟩ (fun h1 => ?_); clear hK K hHeld; refine wpAnyH_ready (rs := [7]) (by kernel_rfl) (by simp) ?_; refine AllReadyH.cons rfl (fun K hK => ?_) AllReadyH.nil; go_simp
    go_wp2_with (go_at_call 108; with_reducible refine J1.mono ?_; rintro e w5 ⟨u5, rfl, R5, s5⟩)
    have R6 := R5; obtain ⟨a8, n8, c8, b8, m8, d8, -, -, -, -, -, -, e8, -⟩ := R6; subst e8; have u5 := dr.trans (sM s5 dr.size); have S5 := s.trans (sM u5 s.size); have bf5 := bf.keep u5; have r5 := r.keep u5; refine hK.out _ _ ⟨(CX.keep S5).c0, (CX.keep S5).c1, (CX.keep S5).c2⟩ (fun h2 => ?_); clear hK K h1; refine wpAnyH_ready (rs := [8]) (by kernel_rfl) (by simp) ?_; refine AllReadyH.cons rfl (fun K hK => ?_) AllReadyH.nil; have j0 := bf5.c0; have j1 := bf5.c1; have j2 := bf5.c2; have jf0 := bf5.f 0; have jf1 := bf5.f 1; have jf2 := bf5.f 2; go_simp; clear j0 j1 j2 jf0 jf1 jf2; have D8 := ((bf5.set0 (.bool (qn (xx1 x F (k + 1))))).set1 (.slice a8 n8 c8)).set2 (.slice b8 m8 d8); have M8 : xq0 w5 _ fc := (((xq0.refl w5 _).setCell 0 (.bool (qn (xx1 x F (k + 1))))).setCell 1 (.slice a8 n8 c8)).setCell 2 (.slice b8 m8 d8); have lf := bf.lt; have zs := s.size; have R8 := (R5.imp (p' := fun g => w.heap.size + 1 <= g /\ g ≠ fc) (fun g _ hg => by have hg' : wr.drew.heap.size <= g := hg; have : wr.drew.heap.size = wr.heap.size := rfl; omega)).marked M8 (fun h => h.2 rfl); have S8 := S5.trans (M8.since (B := w.heap.size) (by omega)); have r8 := r5.marked M8 (by omega); refine hK.out _ _ ⟨(CX.keep S8).c0, (CX.keep S8).c1, (CX.keep S8).c2⟩ (fun hH9 => ?_); clear hK K hH9 h2; refine wpAnyH_done (by kernel_rfl) ?_ _; go_wp2; go_roundw
    case rel =>
     go_light; exact ⟨k + 1, by omega, by rw [HT.out]; go_num, S8, r8, _, _, D8, R8⟩
    case measure => have := HT.out; simp [intOf]; omega
  . have e : k + 1 = n := by omega
    have r0 := r.c0; have r1 := r.c1; have r2 := r.c2; have f0 := r.f 0; have f1 := r.f 1; have f2 := r.f 2; have HE := hide e; have hz : ¬ ((k + 1 : Nat) : Int) < (n : Int) := by omega
    generalize hkk : ((k + 1 : Nat) : Int) = kk at *; clear hkk e; go_wp2; have rC := ((r.set0 (.bool (qn (xx1 x F k)))).set1 (.slice a7 n7 c7)).set2 (.slice b7 m7 d7); refine bodyPost_ret (rb3 rfl _ _ _ _ _ _ rfl rC) rfl ?_; have M : xq0 wr _ w.heap.size := (((xq0.refl wr _).setCell 0 (.bool (qn (xx1 x F k)))).setCell 1 (.slice a7 n7 c7)).setCell 2 (.slice b7 m7 d7); have ek : n - 1 = k := by have := HE.out; omega
    rw [ek]; exact ⟨_, rfl, (((RF.imp (p' := fun g => w.heap.size + 1 <= g) (fun g _ h => h.1)).marked M (by omega)).imp (fun g _ h => by omega)), s.trans (M.since (by omega))⟩
theorem l1Zero_q (w : World) : Calls Tryz.prog 109 #[] w fun e w' => ∃ u, e = .returned u /\ xz4 w' (fun g => w.heap.size <= g) u 0 /\ w.Since w.heap.size w' :=
 (l1Zero_any w).mono fun _ _ ⟨u, he, V, s⟩ => ⟨u, he, RatV.rp (q := 0) V, s⟩
theorem l2Dot_q (wf xf lw lx cw cx : Nat) (aw ax : Option Addr) (bw ow bx ox : Nat) (W X : Nat -> Rat) (hlw : lw <= 1002000) (hlx : lx <= 1000) (qw : ∀ e, e < lw -> Qb (W e) 1048640) (qx : ∀ e, e < lx -> Qb (X e) 1048640) :
 ∀ (n : Nat) (w : World), xj5 w (fun _ => True) aw bw ow lw W -> xj5 w (fun _ => True) ax bx ox lx X -> wf + n <= lw -> xf + n <= lx -> (∀ k, k <= n -> Qb (psum 0 (fun t => W (wf + t)) (fun t => X (xf + t)) k) 1048640) ->
 Calls Tryz.prog 127 #[.slice aw lw cw, .int .i64 (wf : Int), .slice ax lx cx, .int .i64 (xf : Int), .int .i64 (n : Int)] w fun e w' => ∃ u, e = .returned u /\ xz4 w' (fun g => w.heap.size <= g) u (psum 0 (fun t => W (wf + t)) (fun t => X (xf + t)) n) /\ w.Since w.heap.size w' := by
 intro n
 induction n with
 | zero =>
   intro w HW HX h1 h2 qs; have sA := sal w (.cells #[.bool false, .slice none 0 0, .slice none 0 0] 70); have zA : (w.alloc (.cells #[.bool false, .slice none 0 0, .slice none 0 0] 70)).heap.size = w.heap.size + 1 := by simp
   have rA := Box3.new w (.bool false) (.slice none 0 0) (.slice none 0 0) 70
   show Calls _ _ #[.slice aw lw cw, .int .i64 (wf : Int), .slice ax lx cx, .int .i64 (xf : Int), .int .i64 0] _ _
   go_enter Tryz.func127, Tryz.ntmps127; go_wp2_with fail; generalize w.alloc (.cells #[.bool false, .slice none 0 0, .slice none 0 0] 70) = wA at *; refine (l1Zero_q wA).mono ?_; rintro e w1 ⟨u1, rfl, R1, s1⟩; have R2 := R1; obtain ⟨a6, n6, c6, b6, m6, d6, -, -, -, -, -, -, e6, -⟩ := R2; subst e6; have S1 := sA.trans (sM s1 sA.size); have r := rA.keep s1; have r0 := r.c0; have r1 := r.c1; have r2 := r.c2; have f0 := r.f 0; have f1 := r.f 1; have f2 := r.f 2; go_wp2; have rC := ((r.set0 (.bool (qn 0))).set1 (.slice a6 n6 c6)).set2 (.slice b6 m6 d6); refine bodyPost_ret (rb3 rfl _ _ _ _ _ _ rfl rC) rfl ?_; have M : xq0 w1 _ w.heap.size := (((xq0.refl w1 _).setCell 0 (.bool (qn 0))).setCell 1 (.slice a6 n6 c6)).setCell 2 (.slice b6 m6 d6); exact ⟨_, rfl, (((R1.imp (p' := fun g => w.heap.size + 1 <= g) (fun g _ h => by have h' : wA.heap.size <= g := h; omega)).marked M (by omega)).imp (fun g _ h => by omega)), S1.trans (M.since (by omega))⟩
 | succ n ih =>
   intro w HW HX h1 h2 qs; have sA := sal w (.cells #[.bool false, .slice none 0 0, .slice none 0 0] 70); have zA : (w.alloc (.cells #[.bool false, .slice none 0 0, .slice none 0 0] 70)).heap.size = w.heap.size + 1 := by simp
   have rA := Box3.new w (.bool false) (.slice none 0 0) (.slice none 0 0) 70; obtain ⟨N, hN⟩ : ∃ N, N = n + 1 := ⟨_, rfl⟩; obtain ⟨E, hE⟩ : ∃ E, E = wf + n := ⟨_, rfl⟩; obtain ⟨G, hG⟩ : ∃ G, G = xf + n := ⟨_, rfl⟩; obtain ⟨A, hA⟩ : ∃ A, A = wf + n + 1 := ⟨_, rfl⟩; obtain ⟨B, hB⟩ : ∃ B, B = xf + n + 1 := ⟨_, rfl⟩; obtain ⟨ea1, x1, y1, CW⟩ := HW E (by omega); obtain ⟨ea2, x2, y2, CX⟩ := HX G (by omega); subst ea1 ea2; obtain ⟨a1, n1, c1, b1, m1, d1, -, -, -, -, -, -, e1, -⟩ := CW.R; obtain ⟨a2, n2, c2, b2, m2, d2, -, -, -, -, -, -, e2, -⟩ := CX.R; simp only [Value.agg.injEq, Array.mk.injEq, List.cons.injEq, and_true, true_and] at e1 e2; obtain ⟨rfl, rfl⟩ := e1; obtain ⟨rfl, rfl⟩ := e2; have t0 : ¬ (N : Int) = 0 := by omega
   have t1 : IntKind.i64.wrap ((N : Int) - 1) = (n : Int) := by rw [show (N : Int) - 1 = (n : Int) by omega]; exact xw9 (by omega) (by omega)
   have t2 : IntKind.i64.wrap ((wf : Int) + (N : Int)) = (A : Int) := by rw [show (wf : Int) + (N : Int) = (A : Int) by omega]; exact xw9 (by omega) (by omega)
   have t3 : IntKind.i64.wrap ((A : Int) - 1) = (E : Int) := by rw [show (A : Int) - 1 = (E : Int) by omega]; exact xw9 (by omega) (by omega)
   have t4 : IntKind.i64.wrap ((xf : Int) + (N : Int)) = (B : Int) := by rw [show (xf : Int) + (N : Int) = (B : Int) by omega]; exact xw9 (by omega) (by omega)
   have t5 : IntKind.i64.wrap ((B : Int) - 1) = (G : Int) := by rw [show (B : Int) - 1 = (G : Int) by omega]; exact xw9 (by omega) (by omega)
   have t6 : (E : Int) < (lw : Int) := by omega
   have t7 : (G : Int) < (lx : Int) := by omega
   have t8 : (0 : Int) <= (E : Int) := by omega
   have t9 : (0 : Int) <= (G : Int) := by omega
   have qE := qw E (by omega); have qG := qx G (by omega); have qn' := qs n (by omega); have hr : psum 0 (fun t => W (wf + t)) (fun t => X (xf + t)) n + W E * X G = psum 0 (fun t => W (wf + t)) (fun t => X (xf + t)) (n + 1) := by rw [hE, hG]; rfl
   rw [<- hr, <- hN]; have J0 := fun w' (s : w.Since w.heap.size w') => ih w' (HW.keep s) (HX.keep s) (by omega) (by omega) (fun k hk => qs k (by omega))
   clear hr ih qs h1 h2 hE hG hA hB hN; generalize psum 0 (fun t => W (wf + t)) (fun t => X (xf + t)) n = Z at *; go_enter Tryz.func127, Tryz.ntmps127; go_wp2_with fail; generalize w.alloc (.cells #[.bool false, .slice none 0 0, .slice none 0 0] 70) = wA at *; have dr := sdr wA; have sd := sA.trans (sM dr sA.size); have J1 := J0 wA.drew sd; have gw0 := (CW.keep sA).c0; have gw1 := (CW.keep sA).c1; have gw2 := (CW.keep sA).c2; have gx0 := (CX.keep sA).c0; have gx1 := (CX.keep sA).c1; have gx2 := (CX.keep sA).c2
   go_region_held3 (fun w' => w'.cell? ⟨bw, ow + E * 3, none⟩ = some (.bool (qn (W E))) /\ w'.cell? ⟨bw, ow + E * 3 + 1, none⟩ = some (.slice a1 n1 c1) /\ w'.cell? ⟨bw, ow + E * 3 + 2, none⟩ = some (.slice b1 m1 d1) /\ w'.cell? ⟨bx, ox + G * 3, none⟩ = some (.bool (qn (X G))) /\ w'.cell? ⟨bx, ox + G * 3 + 1, none⟩ = some (.slice a2 n2 c2) /\ w'.cell? ⟨bx, ox + G * 3 + 2, none⟩ = some (.slice b2 m2 d2)) (go_keep)
    (first
      | (go_at_call 127
         with_reducible refine J1.mono ?_
         rintro e wp ⟨up, rfl, Rp, sp⟩; have vp := dr.trans (sM sp dr.size); have Sp := sA.trans (sM vp sA.size); have J2 := l1Mul_q qE qG (by omega) (CW.keep Sp).R.read (CX.keep Sp).R.read; have hw0 := (CW.keep Sp).c0; have hw1 := (CW.keep Sp).c1; have hw2 := (CW.keep Sp).c2; have hx0 := (CX.keep Sp).c0; have hx1 := (CX.keep Sp).c1; have hx2 := (CX.keep Sp).c2)
      | (go_at_call 111
         with_reducible refine J2.mono ?_
         rintro e wq ⟨uq, rfl, Rq, sq⟩; have vq := vp.trans (sM sq vp.size); have Sq := sA.trans (sM vq sA.size); have J3 := l1Add_rp qn' (qE.mul qG) (by omega) (Rp.keep sq).read Rq.read; have iw0 := (CW.keep Sq).c0; have iw1 := (CW.keep Sq).c1; have iw2 := (CW.keep Sq).c2; have ix0 := (CX.keep Sq).c0; have ix1 := (CX.keep Sq).c1; have ix2 := (CX.keep Sq).c2)
      | (go_at_call 110
         with_reducible refine J3.mono ?_
         rintro e w5 ⟨u5', rfl, R5, s5⟩; have R6 := R5; obtain ⟨a7, n7, c7, b7, m7, d7, -, -, -, -, -, -, e7, -⟩ := R6; subst e7; have u5 := vq.trans (sM s5 vq.size); have S5 := sA.trans (sM u5 sA.size); have r5 := rA.keep u5; have lw1 := CW.lt; have lx1 := CX.lt; have ne1 : w.heap.size ≠ bw := by omega
         have ne2 : w.heap.size ≠ bx := by omega
         have r0 := r5.c0; have r1 := r5.c1; have r2 := r5.c2; have f0 := r5.f 0; have f1 := r5.f 1; have f2 := r5.f 2; have ow0 := (CW.keep S5).c0; have ow1 := (CW.keep S5).c1; have ow2 := (CW.keep S5).c2; have ox0 := (CX.keep S5).c0; have ox1 := (CX.keep S5).c1; have ox2 := (CX.keep S5).c2))
   go_wp2; have rC := ((r5.set0 (.bool (qn (Z + W E * X G)))).set1 (.slice a7 n7 c7)).set2 (.slice b7 m7 d7); refine bodyPost_ret (rb3 rfl _ _ _ _ _ _ rfl rC) rfl ?_; have M : xq0 w5 _ w.heap.size := (((xq0.refl w5 _).setCell 0 (.bool (qn (Z + W E * X G)))).setCell 1 (.slice a7 n7 c7)).setCell 2 (.slice b7 m7 d7); exact ⟨_, rfl, (((R5.imp (p' := fun g => w.heap.size + 1 <= g) (fun g _ h => by have h' : wq.heap.size <= g := h; have := vq.size; omega)).marked M (by omega)).imp (fun g _ h => by omega)), S5.trans (M.since (by omega))⟩
theorem el4 (v1 v2 v3 v4 : Int) (a1 : Option Addr) (nv k1 : Nat) (ax az : Option Addr) (bx ox lx cx lz cz e : Nat) (X : Nat -> Rat) (w : World) (HX : xj5 w (fun _ => True) ax bx ox lx X) (qx : ∀ i, i < lx -> Qb (X i) 1048640) (bz oz : Nat) (Z : Nat -> Rat) (HZ : xj5 w (fun _ => True) az bz oz lz Z) (qz : ∀ i, i < lz -> Qb (Z i) 1048640) (he : e < lx) (hez : e < lz) :
 Calls Tryz.prog 97 #[.agg #[.int .i64 4, .int .i64 v1, .int .i64 v2, .int .i64 v3, .int .i64 v4, .slice a1 nv k1], .slice ax lx cx, .slice az lz cz, .int .i64 (e : Int)] w fun r w' => ∃ u, r = .returned u /\ xz4 w' (fun g => w.heap.size <= g) u (X e + Z e) /\ w.Since w.heap.size w' := by
 have sA : w.Since w.heap.size ((w.alloc (.cells #[.int .i64 4, .int .i64 v1, .int .i64 v2, .int .i64 v3, .int .i64 v4, .slice a1 nv k1] 84)).alloc (.cells #[.bool false, .slice none 0 0, .slice none 0 0] 70)) := ((World.Since.refl _ _).alloc (Nat.le_refl _) _).alloc (by simp) _; have zA : ((w.alloc (.cells #[.int .i64 4, .int .i64 v1, .int .i64 v2, .int .i64 v3, .int .i64 v4, .slice a1 nv k1] 84)).alloc (.cells #[.bool false, .slice none 0 0, .slice none 0 0] 70)).heap.size = w.heap.size + 1 + 1 := by simp
 have nA : Box6 ((w.alloc (.cells #[.int .i64 4, .int .i64 v1, .int .i64 v2, .int .i64 v3, .int .i64 v4, .slice a1 nv k1] 84)).alloc (.cells #[.bool false, .slice none 0 0, .slice none 0 0] 70)) w.heap.size (.int .i64 4) (.int .i64 v1) (.int .i64 v2) (.int .i64 v3) (.int .i64 v4) (.slice a1 nv k1) := (Box6.new w _ _ _ _ _ _ _).keep ((World.Since.refl _ _).alloc (Nat.le_refl _) _)
 have rA : Box3 ((w.alloc (.cells #[.int .i64 4, .int .i64 v1, .int .i64 v2, .int .i64 v3, .int .i64 v4, .slice a1 nv k1] 84)).alloc (.cells #[.bool false, .slice none 0 0, .slice none 0 0] 70)) (w.heap.size + 1) (.bool false) (.slice none 0 0) (.slice none 0 0) := by
  have := Box3.new (w.alloc (.cells #[.int .i64 4, .int .i64 v1, .int .i64 v2, .int .i64 v3, .int .i64 v4, .slice a1 nv k1] 84)) (.bool false) (.slice none 0 0) (.slice none 0 0) 70
  simpa using this
 have p0 := nA.c0; obtain ⟨eX, x1, y1, CX⟩ := HX e he; subst eX; obtain ⟨a2, n2, c2, b2, m2, d2, -, -, -, -, -, -, e2, -⟩ := CX.R; simp only [Value.agg.injEq, Array.mk.injEq, List.cons.injEq, and_true, true_and] at e2; obtain ⟨rfl, rfl⟩ := e2; have t1 : (e : Int) < (lx : Int) := by omega
 obtain ⟨eZ, x3, y3, CZ⟩ := HZ e hez; subst eZ; obtain ⟨a3, n3, c3, b3, m3, d3, -, -, -, -, -, -, e3, -⟩ := CZ.R; simp only [Value.agg.injEq, Array.mk.injEq, List.cons.injEq, and_true, true_and] at e3; obtain ⟨rfl, rfl⟩ := e3; have t2 : (e : Int) < (lz : Int) := by omega
 have lx1 := CX.lt; have lz1 := CZ.lt; have ne1 : w.heap.size + 1 ≠ bx := by omega
 have ne2 : w.heap.size + 1 ≠ bz := by omega
 go_enter Tryz.func97, Tryz.ntmps97; go_wp2_with fail; generalize (w.alloc (.cells #[.int .i64 4, .int .i64 v1, .int .i64 v2, .int .i64 v3, .int .i64 v4, .slice a1 nv k1] 84)).alloc (.cells #[.bool false, .slice none 0 0, .slice none 0 0] 70) = wA at *; have dr := sdr wA; have sd := sA.trans (sM dr sA.size); have J1 := l1Add_rp (qx e he) (qz e hez) (by omega) (CX.keep sd).R.read (CZ.keep sd).R.read; have g0 := (CX.keep sA).c0; have g1 := (CX.keep sA).c1; have g2 := (CX.keep sA).c2; have h0 := (CZ.keep sA).c0; have h1 := (CZ.keep sA).c1; have h2 := (CZ.keep sA).c2
 go_region_held3 (fun w' => w'.cell? ⟨bx, ox + e * 3, none⟩ = some (.bool (qn (X e))) /\ w'.cell? ⟨bx, ox + e * 3 + 1, none⟩ = some (.slice a2 n2 c2) /\ w'.cell? ⟨bx, ox + e * 3 + 2, none⟩ = some (.slice b2 m2 d2) /\ w'.cell? ⟨bz, oz + e * 3, none⟩ = some (.bool (qn (Z e))) /\ w'.cell? ⟨bz, oz + e * 3 + 1, none⟩ = some (.slice a3 n3 c3) /\ w'.cell? ⟨bz, oz + e * 3 + 2, none⟩ = some (.slice b3 m3 d3)) (go_keep)
  (first
    | (go_at_call 110
       with_reducible refine J1.mono ?_
       rintro r w5 ⟨u5', rfl, R5, s5⟩; have R6 := R5; obtain ⟨a7, n7, c7, b7, m7, d7, -, -, -, -, -, -, e7, -⟩ := R6; subst e7; have u5 := dr.trans (sM s5 dr.size); have S5 := sA.trans (sM u5 sA.size); have r5 := rA.keep u5; have r0 := r5.c0; have r1 := r5.c1; have r2 := r5.c2; have f0 := r5.f 0; have f1 := r5.f 1; have f2 := r5.f 2; have i0 := (CX.keep S5).c0; have i1 := (CX.keep S5).c1; have i2 := (CX.keep S5).c2; have j0 := (CZ.keep S5).c0; have j1 := (CZ.keep S5).c1; have j2 := (CZ.keep S5).c2))
 go_wp2; have rC := ((r5.set0 (.bool (qn (X e + Z e)))).set1 (.slice a7 n7 c7)).set2 (.slice b7 m7 d7); refine bodyPost_ret (rb3 rfl _ _ _ _ _ _ rfl rC) rfl ?_; have M : xq0 w5 _ (w.heap.size + 1) := (((xq0.refl w5 _).setCell 0 (.bool (qn (X e + Z e)))).setCell 1 (.slice a7 n7 c7)).setCell 2 (.slice b7 m7 d7); exact ⟨_, rfl, (((R5.imp (p' := fun g => w.heap.size + 2 <= g) (fun g _ h => by have h' : wA.drew.heap.size <= g := h; have : wA.drew.heap.size = wA.heap.size := rfl; omega)).marked M (by omega)).imp (fun g _ h => by omega)), S5.trans (M.since (by omega))⟩
theorem el5 (v1 v2 v4 : Int) (kk : Nat) (a1 : Option Addr) (nv k1 : Nat) (ax az : Option Addr) (bx ox lx cx lz cz e : Nat) (X : Nat -> Rat) (w : World) (HX : xj5 w (fun _ => True) ax bx ox lx X) (qx : ∀ i, i < lx -> Qb (X i) 1048640) (F : Nat) (hFe : F = e * kk) (hkk : 1 <= kk) (hF : F + kk <= lx) (hl : lx <= 1000) :
 Calls Tryz.prog 97 #[.agg #[.int .i64 5, .int .i64 v1, .int .i64 v2, .int .i64 (kk : Int), .int .i64 v4, .slice a1 nv k1], .slice ax lx cx, .slice az lz cz, .int .i64 (e : Int)] w fun r w' => ∃ u, r = .returned u /\ xz4 w' (fun g => w.heap.size <= g) u (xx1 X F (kk - 1)) /\ w.Since w.heap.size w' := by
 have sA : w.Since w.heap.size ((w.alloc (.cells #[.int .i64 5, .int .i64 v1, .int .i64 v2, .int .i64 (kk : Int), .int .i64 v4, .slice a1 nv k1] 84)).alloc (.cells #[.bool false, .slice none 0 0, .slice none 0 0] 70)) := ((World.Since.refl _ _).alloc (Nat.le_refl _) _).alloc (by simp) _; have zA : ((w.alloc (.cells #[.int .i64 5, .int .i64 v1, .int .i64 v2, .int .i64 (kk : Int), .int .i64 v4, .slice a1 nv k1] 84)).alloc (.cells #[.bool false, .slice none 0 0, .slice none 0 0] 70)).heap.size = w.heap.size + 1 + 1 := by simp
 have nA : Box6 ((w.alloc (.cells #[.int .i64 5, .int .i64 v1, .int .i64 v2, .int .i64 (kk : Int), .int .i64 v4, .slice a1 nv k1] 84)).alloc (.cells #[.bool false, .slice none 0 0, .slice none 0 0] 70)) w.heap.size (.int .i64 5) (.int .i64 v1) (.int .i64 v2) (.int .i64 (kk : Int)) (.int .i64 v4) (.slice a1 nv k1) := (Box6.new w _ _ _ _ _ _ _).keep ((World.Since.refl _ _).alloc (Nat.le_refl _) _)
 have rA : Box3 ((w.alloc (.cells #[.int .i64 5, .int .i64 v1, .int .i64 v2, .int .i64 (kk : Int), .int .i64 v4, .slice a1 nv k1] 84)).alloc (.cells #[.bool false, .slice none 0 0, .slice none 0 0] 70)) (w.heap.size + 1) (.bool false) (.slice none 0 0) (.slice none 0 0) := by
  have := Box3.new (w.alloc (.cells #[.int .i64 5, .int .i64 v1, .int .i64 v2, .int .i64 (kk : Int), .int .i64 v4, .slice a1 nv k1] 84)) (.bool false) (.slice none 0 0) (.slice none 0 0) 70
  simpa using this
 have p0 := nA.c0; have p3 := nA.c3; have qF : IntKind.i64.wrap ((e : Int) * (kk : Int)) = (F : Int) := by rw [<- Int.natCast_mul, <- hFe]; exact xw9 (by omega) (by omega)
 clear hFe; go_enter Tryz.func97, Tryz.ntmps97; go_wp2_with fail; generalize (w.alloc (.cells #[.int .i64 5, .int .i64 v1, .int .i64 v2, .int .i64 (kk : Int), .int .i64 v4, .slice a1 nv k1] 84)).alloc (.cells #[.bool false, .slice none 0 0, .slice none 0 0] 70) = wA at *; refine (l2Greatest_q F kk lx cx ax bx ox X wA (HX.keep sA) hkk hF hl qx).mono ?_; rintro r w5 ⟨u5', rfl, R5, s5⟩; have R6 := R5; obtain ⟨a7, n7, c7, b7, m7, d7, -, -, -, -, -, -, e7, -⟩ := R6; subst e7; have S5 := sA.trans (sM s5 sA.size); have r5 := rA.keep s5; have r0 := r5.c0; have r1 := r5.c1; have r2 := r5.c2; have f0 := r5.f 0; have f1 := r5.f 1; have f2 := r5.f 2; go_wp2; have rC := ((r5.set0 (.bool (qn (xx1 X F (kk - 1))))).set1 (.slice a7 n7 c7)).set2 (.slice b7 m7 d7); refine bodyPost_ret (rb3 rfl _ _ _ _ _ _ rfl rC) rfl ?_; have M : xq0 w5 _ (w.heap.size + 1) := (((xq0.refl w5 _).setCell 0 (.bool (qn (xx1 X F (kk - 1))))).setCell 1 (.slice a7 n7 c7)).setCell 2 (.slice b7 m7 d7); exact ⟨_, rfl, (((R5.imp (p' := fun g => w.heap.size + 2 <= g) (fun g _ h => by have h' : wA.heap.size <= g := h; omega)).marked M (by omega)).imp (fun g _ h => by omega)), S5.trans (M.since (by omega))⟩
theorem max_relu (q : Rat) : (if q < 0 then 0 else q) = qrelu q := by
 have h1 : q < 0 ↔ q.num < 0 := by rw [Rat.lt_iff]; simp
 cases h : qn q
 . rw [qrelu_pos h, if_neg]
   rw [h1]; exact of_decide_eq_false h
 . rw [qrelu_neg h, if_pos]
   rw [h1]; exact of_decide_eq_true h
theorem el2 (v1 v2 v3 v4 : Int) (a1 : Option Addr) (nv k1 : Nat) (ax az : Option Addr) (bx ox lx cx lz cz e : Nat) (X : Nat -> Rat) (w : World) (HX : xj5 w (fun _ => True) ax bx ox lx X) (qx : ∀ i, i < lx -> Qb (X i) 1048640) (he : e < lx) :
 Calls Tryz.prog 97 #[.agg #[.int .i64 2, .int .i64 v1, .int .i64 v2, .int .i64 v3, .int .i64 v4, .slice a1 nv k1], .slice ax lx cx, .slice az lz cz, .int .i64 (e : Int)] w fun r w' => ∃ u, r = .returned u /\ xz4 w' (fun g => w.heap.size <= g) u (qrelu (X e)) /\ w.Since w.heap.size w' := by
 have sA : w.Since w.heap.size ((w.alloc (.cells #[.int .i64 2, .int .i64 v1, .int .i64 v2, .int .i64 v3, .int .i64 v4, .slice a1 nv k1] 84)).alloc (.cells #[.bool false, .slice none 0 0, .slice none 0 0] 70)) := ((World.Since.refl _ _).alloc (Nat.le_refl _) _).alloc (by simp) _; have zA : ((w.alloc (.cells #[.int .i64 2, .int .i64 v1, .int .i64 v2, .int .i64 v3, .int .i64 v4, .slice a1 nv k1] 84)).alloc (.cells #[.bool false, .slice none 0 0, .slice none 0 0] 70)).heap.size = w.heap.size + 1 + 1 := by simp
 have nA : Box6 ((w.alloc (.cells #[.int .i64 2, .int .i64 v1, .int .i64 v2, .int .i64 v3, .int .i64 v4, .slice a1 nv k1] 84)).alloc (.cells #[.bool false, .slice none 0 0, .slice none 0 0] 70)) w.heap.size (.int .i64 2) (.int .i64 v1) (.int .i64 v2) (.int .i64 v3) (.int .i64 v4) (.slice a1 nv k1) := (Box6.new w _ _ _ _ _ _ _).keep ((World.Since.refl _ _).alloc (Nat.le_refl _) _)
 have rA : Box3 ((w.alloc (.cells #[.int .i64 2, .int .i64 v1, .int .i64 v2, .int .i64 v3, .int .i64 v4, .slice a1 nv k1] 84)).alloc (.cells #[.bool false, .slice none 0 0, .slice none 0 0] 70)) (w.heap.size + 1) (.bool false) (.slice none 0 0) (.slice none 0 0) := by
  have := Box3.new (w.alloc (.cells #[.int .i64 2, .int .i64 v1, .int .i64 v2, .int .i64 v3, .int .i64 v4, .slice a1 nv k1] 84)) (.bool false) (.slice none 0 0) (.slice none 0 0) 70
  simpa using this
 have p0 := nA.c0; obtain ⟨eX, x1, y1, CX⟩ := HX e he; subst eX; obtain ⟨a2, n2, c2, b2, m2, d2, -, -, -, -, -, -, e2, -⟩ := CX.R; simp only [Value.agg.injEq, Array.mk.injEq, List.cons.injEq, and_true, true_and] at e2; obtain ⟨rfl, rfl⟩ := e2; have t1 : (e : Int) < (lx : Int) := by omega
 have lx1 := CX.lt; have ne1 : w.heap.size + 1 ≠ bx := by omega
 go_enter Tryz.func97, Tryz.ntmps97; go_wp2_with fail; generalize (w.alloc (.cells #[.int .i64 2, .int .i64 v1, .int .i64 v2, .int .i64 v3, .int .i64 v4, .slice a1 nv k1] 84)).alloc (.cells #[.bool false, .slice none 0 0, .slice none 0 0] 70) = wA at *; have dr := sdr wA; have sd := sA.trans (sM dr sA.size); have J1 := l1Zero_q wA.drew; have g0 := (CX.keep sA).c0; have g1 := (CX.keep sA).c1; have g2 := (CX.keep sA).c2
 go_region_held3 (fun w' => w'.cell? ⟨bx, ox + e * 3, none⟩ = some (.bool (qn (X e))) /\ w'.cell? ⟨bx, ox + e * 3 + 1, none⟩ = some (.slice a2 n2 c2) /\ w'.cell? ⟨bx, ox + e * 3 + 2, none⟩ = some (.slice b2 m2 d2)) (go_keep)
  (first
    | (go_at_call 109
       with_reducible refine J1.mono ?_
       rintro r wp ⟨up, rfl, Rp, sp⟩; have vp := dr.trans (sM sp dr.size); have Sp := sA.trans (sM vp sA.size); have J2 := l1Max_q (qx e he) (Qb_zero (k := 1048640) (by omega)) (CX.keep Sp).R.read Rp.read; rw [max_relu] at J2; have h0 := (CX.keep Sp).c0; have h1 := (CX.keep Sp).c1; have h2 := (CX.keep Sp).c2)
    | (go_at_call 108
       with_reducible refine J2.mono ?_
       rintro r w5 ⟨u5', rfl, R5, s5⟩; have R6 := R5; obtain ⟨a7, n7, c7, b7, m7, d7, -, -, -, -, -, -, e7, -⟩ := R6; subst e7; have u5 := vp.trans (sM s5 vp.size); have S5 := sA.trans (sM u5 sA.size); have r5 := rA.keep u5; have r0 := r5.c0; have r1 := r5.c1; have r2 := r5.c2; have f0 := r5.f 0; have f1 := r5.f 1; have f2 := r5.f 2; have i0 := (CX.keep S5).c0; have i1 := (CX.keep S5).c1; have i2 := (CX.keep S5).c2))
 go_wp2; have rC := ((r5.set0 (.bool (qn (qrelu (X e))))).set1 (.slice a7 n7 c7)).set2 (.slice b7 m7 d7); refine bodyPost_ret (rb3 rfl _ _ _ _ _ _ rfl rC) rfl ?_; have M : xq0 w5 _ (w.heap.size + 1) := (((xq0.refl w5 _).setCell 0 (.bool (qn (qrelu (X e))))).setCell 1 (.slice a7 n7 c7)).setCell 2 (.slice b7 m7 d7); exact ⟨_, rfl, (((R5.imp (p' := fun g => w.heap.size + 2 <= g) (fun g _ h => by have h' : wp.heap.size <= g := h; have := vp.size; omega)).marked M (by omega)).imp (fun g _ h => by omega)), S5.trans (M.since (by omega))⟩
theorem l1Sign_q {v : Value} {q : Rat} {w : World} (R : RatR w v q) :
 Calls Tryz.prog 80 #[v] w fun e w' => (∃ z : Int, e = .returned (.int .i64 z) /\ (qn q = true -> z = -1) /\ (qn q = false -> 0 <= z /\ z <= 1)) /\ w.Since w.heap.size w' := by
 obtain ⟨a, n, ca, b, m, cb, ba, oa, bb, ob, X, Y, rfl, R, x1, x2⟩ := R; refine (l1Sign_any (qn q) a b n ca m cb w).mono ?_; rintro e w' ⟨rfl, s⟩; have h := xw5 R.pX; rw [x1] at h; refine ⟨⟨_, rfl, fun hq => ?_, fun hq => ?_⟩, s⟩
 . have hn : q.num < 0 := of_decide_eq_true hq
   rw [if_neg (by omega), if_pos hq]
 . rw [hq]
   by_cases h0 : n = 0
   . simp [h0]
   . simp [h0]
theorem el3n (v1 v2 v3 v4 : Int) (bw ow nv k1 : Nat) (ax az : Option Addr) (bx ox lx cx lz cz e : Nat) (X : Nat -> Rat) (w : World) (HX : xj5 w (fun _ => True) ax bx ox lx X) (qx : ∀ i, i < lx -> Qb (X i) 1048640) (W : Nat -> Rat) (HW : xj5 w (fun _ => True) (some ⟨bw, ow, none⟩) bw ow nv W) (qw : ∀ i, i < nv -> Qb (W i) 1048640) (hnv : 0 < nv) (he : e < lx) (hq : Hid (qn (X e) = true)) :
 Calls Tryz.prog 97 #[.agg #[.int .i64 3, .int .i64 v1, .int .i64 v2, .int .i64 v3, .int .i64 v4, .slice (some ⟨bw, ow, none⟩) nv k1], .slice ax lx cx, .slice az lz cz, .int .i64 (e : Int)] w fun r w' => ∃ u, r = .returned u /\ xz4 w' (fun g => w.heap.size <= g) u (W 0 * X e) /\ w.Since w.heap.size w' := by
 have sA : w.Since w.heap.size ((w.alloc (.cells #[.int .i64 3, .int .i64 v1, .int .i64 v2, .int .i64 v3, .int .i64 v4, .slice (some ⟨bw, ow, none⟩) nv k1] 84)).alloc (.cells #[.bool false, .slice none 0 0, .slice none 0 0] 70)) := ((World.Since.refl _ _).alloc (Nat.le_refl _) _).alloc (by simp) _; have zA : ((w.alloc (.cells #[.int .i64 3, .int .i64 v1, .int .i64 v2, .int .i64 v3, .int .i64 v4, .slice (some ⟨bw, ow, none⟩) nv k1] 84)).alloc (.cells #[.bool false, .slice none 0 0, .slice none 0 0] 70)).heap.size = w.heap.size + 1 + 1 := by simp
 have nA : Box6 ((w.alloc (.cells #[.int .i64 3, .int .i64 v1, .int .i64 v2, .int .i64 v3, .int .i64 v4, .slice (some ⟨bw, ow, none⟩) nv k1] 84)).alloc (.cells #[.bool false, .slice none 0 0, .slice none 0 0] 70)) w.heap.size (.int .i64 3) (.int .i64 v1) (.int .i64 v2) (.int .i64 v3) (.int .i64 v4) (.slice (some ⟨bw, ow, none⟩) nv k1) := (Box6.new w _ _ _ _ _ _ _).keep ((World.Since.refl _ _).alloc (Nat.le_refl _) _)
 have rA : Box3 ((w.alloc (.cells #[.int .i64 3, .int .i64 v1, .int .i64 v2, .int .i64 v3, .int .i64 v4, .slice (some ⟨bw, ow, none⟩) nv k1] 84)).alloc (.cells #[.bool false, .slice none 0 0, .slice none 0 0] 70)) (w.heap.size + 1) (.bool false) (.slice none 0 0) (.slice none 0 0) := by
  have := Box3.new (w.alloc (.cells #[.int .i64 3, .int .i64 v1, .int .i64 v2, .int .i64 v3, .int .i64 v4, .slice (some ⟨bw, ow, none⟩) nv k1] 84)) (.bool false) (.slice none 0 0) (.slice none 0 0) 70
  simpa using this
 have p0 := nA.c0; obtain ⟨eX, x1, y1, CX⟩ := HX e he; subst eX; obtain ⟨a2, n2, c2, b2, m2, d2, -, -, -, -, -, -, e2, -⟩ := CX.R; simp only [Value.agg.injEq, Array.mk.injEq, List.cons.injEq, and_true, true_and] at e2; obtain ⟨rfl, rfl⟩ := e2; have t1 : (e : Int) < (lx : Int) := by omega
 obtain ⟨-, x4, y4, CW⟩ := HW 0 hnv; obtain ⟨a4, n4, c4, b4, m4, d4, -, -, -, -, -, -, e4, -⟩ := CW.R; simp only [Value.agg.injEq, Array.mk.injEq, List.cons.injEq, and_true, true_and] at e4; obtain ⟨rfl, rfl⟩ := e4; rw [Nat.zero_mul, Nat.add_zero] at CW; have lw1 := CW.lt; have hnv' : (0 : Int) < (nv : Int) := by omega
 have ne2 : w.heap.size + 1 ≠ bw := by omega
 have ne3 : w.heap.size + 1 ≠ w.heap.size := by omega
 have lx1 := CX.lt; have ne1 : w.heap.size + 1 ≠ bx := by omega
 have g0 := (CX.keep sA).c0; have g1 := (CX.keep sA).c1; have g2 := (CX.keep sA).c2; have JS := l1Sign_q (CX.keep sA).R.read; go_enter Tryz.func97, Tryz.ntmps97; go_wp2_with fail; generalize (w.alloc (.cells #[.int .i64 3, .int .i64 v1, .int .i64 v2, .int .i64 v3, .int .i64 v4, .slice (some ⟨bw, ow, none⟩) nv k1] 84)).alloc (.cells #[.bool false, .slice none 0 0, .slice none 0 0] 70) = wA at *; refine JS.mono ?_; rintro r w1 ⟨⟨z, rfl, h1, h2⟩, s1⟩; have S1 := sA.trans (sM s1 sA.size); have p0' := (nA.keep s1).c0; clear g0 g1 g2 JS; have kk0 := (CX.keep S1).c0; have kk1 := (CX.keep S1).c1; have kk2 := (CX.keep S1).c2; have dr := sdr w1; have v1' := s1.trans (sM dr s1.size); have sd := sA.trans (sM v1' sA.size); have J1 := l1Mul_q (qw 0 hnv) (qx e he) (by omega) (CW.keep sd).R.read (CX.keep sd).R.read; have hz : ¬ (0 : Int) <= z := by have := h1 hq.out; omega
 have q5 := (nA.keep s1).c5; have h0 := (CW.keep S1).c0; have h1 := (CW.keep S1).c1; have h2 := (CW.keep S1).c2; go_wp2_with fail
 go_region_held3 (fun w' => w'.cell? ⟨w.heap.size, 5, none⟩ = some (.slice (some ⟨bw, ow, none⟩) nv k1) /\ w'.cell? ⟨bw, ow, none⟩ = some (.bool (qn (W 0))) /\ w'.cell? ⟨bw, ow + 1, none⟩ = some (.slice a4 n4 c4) /\ w'.cell? ⟨bw, ow + 2, none⟩ = some (.slice b4 m4 d4) /\ w'.cell? ⟨bx, ox + e * 3, none⟩ = some (.bool (qn (X e))) /\ w'.cell? ⟨bx, ox + e * 3 + 1, none⟩ = some (.slice a2 n2 c2) /\ w'.cell? ⟨bx, ox + e * 3 + 2, none⟩ = some (.slice b2 m2 d2)) (go_keep)
  (first
    | (go_at_call 111
       with_reducible refine J1.mono ?_
       rintro r w5 ⟨u5', rfl, R5, s5⟩; have R6 := R5; obtain ⟨a7, n7, c7, b7, m7, d7, -, -, -, -, -, -, e7, -⟩ := R6; subst e7; have u5 := v1'.trans (sM s5 v1'.size); have S5 := sA.trans (sM u5 sA.size); have r5 := rA.keep u5; have r0 := r5.c0; have r1 := r5.c1; have r2 := r5.c2; have f0 := r5.f 0; have f1 := r5.f 1; have f2 := r5.f 2; have o5 := (nA.keep u5).c5; have i0 := (CX.keep S5).c0; have i1 := (CX.keep S5).c1; have i2 := (CX.keep S5).c2; have j0 := (CW.keep S5).c0; have j1 := (CW.keep S5).c1; have j2 := (CW.keep S5).c2))
 go_wp2; have rC := ((r5.set0 (.bool (qn (W 0 * X e)))).set1 (.slice a7 n7 c7)).set2 (.slice b7 m7 d7); refine bodyPost_ret (rb3 rfl _ _ _ _ _ _ rfl rC) rfl ?_; have M : xq0 w5 _ (w.heap.size + 1) := (((xq0.refl w5 _).setCell 0 (.bool (qn (W 0 * X e)))).setCell 1 (.slice a7 n7 c7)).setCell 2 (.slice b7 m7 d7); exact ⟨_, rfl, (((R5.imp (p' := fun g => w.heap.size + 2 <= g) (fun g _ h => by have h' : w1.drew.heap.size <= g := h; have : w1.drew.heap.size = w1.heap.size := rfl; have := s1.size; omega)).marked M (by omega)).imp (fun g _ h => by omega)), S5.trans (M.since (by omega))⟩
theorem el3p (v1 v2 v3 v4 : Int) (bw ow nv k1 : Nat) (ax az : Option Addr) (bx ox lx cx lz cz e : Nat) (X : Nat -> Rat) (w : World) (HX : xj5 w (fun _ => True) ax bx ox lx X) (qx : ∀ i, i < lx -> Qb (X i) 1048640) (W : Nat -> Rat) (HW : xj5 w (fun _ => True) (some ⟨bw, ow, none⟩) bw ow nv W) (hnv : 0 < nv) (he : e < lx) (hq : Hid (qn (X e) = false)) :
 Calls Tryz.prog 97 #[.agg #[.int .i64 3, .int .i64 v1, .int .i64 v2, .int .i64 v3, .int .i64 v4, .slice (some ⟨bw, ow, none⟩) nv k1], .slice ax lx cx, .slice az lz cz, .int .i64 (e : Int)] w fun r w' => ∃ u, r = .returned u /\ xz4 w' (fun g => w.heap.size <= g) u (X e) /\ w.Since w.heap.size w' := by
 have sA : w.Since w.heap.size ((w.alloc (.cells #[.int .i64 3, .int .i64 v1, .int .i64 v2, .int .i64 v3, .int .i64 v4, .slice (some ⟨bw, ow, none⟩) nv k1] 84)).alloc (.cells #[.bool false, .slice none 0 0, .slice none 0 0] 70)) := ((World.Since.refl _ _).alloc (Nat.le_refl _) _).alloc (by simp) _; have zA : ((w.alloc (.cells #[.int .i64 3, .int .i64 v1, .int .i64 v2, .int .i64 v3, .int .i64 v4, .slice (some ⟨bw, ow, none⟩) nv k1] 84)).alloc (.cells #[.bool false, .slice none 0 0, .slice none 0 0] 70)).heap.size = w.heap.size + 1 + 1 := by simp
 have nA : Box6 ((w.alloc (.cells #[.int .i64 3, .int .i64 v1, .int .i64 v2, .int .i64 v3, .int .i64 v4, .slice (some ⟨bw, ow, none⟩) nv k1] 84)).alloc (.cells #[.bool false, .slice none 0 0, .slice none 0 0] 70)) w.heap.size (.int .i64 3) (.int .i64 v1) (.int .i64 v2) (.int .i64 v3) (.int .i64 v4) (.slice (some ⟨bw, ow, none⟩) nv k1) := (Box6.new w _ _ _ _ _ _ _).keep ((World.Since.refl _ _).alloc (Nat.le_refl _) _)
 have rA : Box3 ((w.alloc (.cells #[.int .i64 3, .int .i64 v1, .int .i64 v2, .int .i64 v3, .int .i64 v4, .slice (some ⟨bw, ow, none⟩) nv k1] 84)).alloc (.cells #[.bool false, .slice none 0 0, .slice none 0 0] 70)) (w.heap.size + 1) (.bool false) (.slice none 0 0) (.slice none 0 0) := by
  have := Box3.new (w.alloc (.cells #[.int .i64 3, .int .i64 v1, .int .i64 v2, .int .i64 v3, .int .i64 v4, .slice (some ⟨bw, ow, none⟩) nv k1] 84)) (.bool false) (.slice none 0 0) (.slice none 0 0) 70
  simpa using this
 have p0 := nA.c0; obtain ⟨eX, x1, y1, CX⟩ := HX e he; subst eX; obtain ⟨a2, n2, c2, b2, m2, d2, -, -, -, -, -, -, e2, -⟩ := CX.R; simp only [Value.agg.injEq, Array.mk.injEq, List.cons.injEq, and_true, true_and] at e2; obtain ⟨rfl, rfl⟩ := e2; have t1 : (e : Int) < (lx : Int) := by omega
 obtain ⟨-, x4, y4, CW⟩ := HW 0 hnv; obtain ⟨a4, n4, c4, b4, m4, d4, -, -, -, -, -, -, e4, -⟩ := CW.R; simp only [Value.agg.injEq, Array.mk.injEq, List.cons.injEq, and_true, true_and] at e4; obtain ⟨rfl, rfl⟩ := e4; rw [Nat.zero_mul, Nat.add_zero] at CW; have lw1 := CW.lt; have hnv' : (0 : Int) < (nv : Int) := by omega
 have ne2 : w.heap.size + 1 ≠ bw := by omega
 have ne3 : w.heap.size + 1 ≠ w.heap.size := by omega
 have lx1 := CX.lt; have ne1 : w.heap.size + 1 ≠ bx := by omega
 have g0 := (CX.keep sA).c0; have g1 := (CX.keep sA).c1; have g2 := (CX.keep sA).c2; have JS := l1Sign_q (CX.keep sA).R.read; go_enter Tryz.func97, Tryz.ntmps97; go_wp2_with fail; generalize (w.alloc (.cells #[.int .i64 3, .int .i64 v1, .int .i64 v2, .int .i64 v3, .int .i64 v4, .slice (some ⟨bw, ow, none⟩) nv k1] 84)).alloc (.cells #[.bool false, .slice none 0 0, .slice none 0 0] 70) = wA at *; refine JS.mono ?_; rintro r w1 ⟨⟨z, rfl, h1, h2⟩, s1⟩; have S1 := sA.trans (sM s1 sA.size); have p0' := (nA.keep s1).c0; clear g0 g1 g2 JS; have kk0 := (CX.keep S1).c0; have kk1 := (CX.keep S1).c1; have kk2 := (CX.keep S1).c2; have hz : (0 : Int) <= z := (h2 hq.out).1; go_wp2_with fail; refine (l1Copy_q (qx e he) (by omega) (CX.keep S1).R.read).mono ?_; rintro r w5 ⟨u5', rfl, R5, s5⟩; have R6 := R5; obtain ⟨a7, n7, c7, b7, m7, d7, -, -, -, -, -, -, e7, -⟩ := R6; subst e7; have u5 := s1.trans (sM s5 s1.size); have S5 := sA.trans (sM u5 sA.size); have r5 := rA.keep u5; have r0 := r5.c0; have r1 := r5.c1; have r2 := r5.c2; have f0 := r5.f 0; have f1 := r5.f 1; have f2 := r5.f 2; go_wp2; have rC := ((r5.set0 (.bool (qn (X e)))).set1 (.slice a7 n7 c7)).set2 (.slice b7 m7 d7); refine bodyPost_ret (rb3 rfl _ _ _ _ _ _ rfl rC) rfl ?_; have M : xq0 w5 _ (w.heap.size + 1) := (((xq0.refl w5 _).setCell 0 (.bool (qn (X e)))).setCell 1 (.slice a7 n7 c7)).setCell 2 (.slice b7 m7 d7); exact ⟨_, rfl, (((R5.imp (p' := fun g => w.heap.size + 2 <= g) (fun g _ h => by have h' : w1.heap.size <= g := h; have := s1.size; omega)).marked M (by omega)).imp (fun g _ h => by omega)), S5.trans (M.since (by omega))⟩
theorem psum_from (b : Rat) (w v : Nat -> Rat) (n : Nat) : psum b w v n = psum 0 w v n + b := by
 induction n with
 | zero => show b = 0 + b; rw [Rat.zero_add]
 | succ n ih =>
   show psum b w v n + w n * v n = psum 0 w v n + w n * v n + b
   rw [ih, Rat.add_assoc, Rat.add_assoc, Rat.add_comm b]
theorem el1 (v1 v2 v3 v4 : Int) (bw ow nv k1 : Nat) (ax az : Option Addr) (bx ox lx cx lz cz e : Nat) (X : Nat -> Rat) (w : World) (HX : xj5 w (fun _ => True) ax bx ox lx X) (qx : ∀ i, i < lx -> Qb (X i) 1048640) (W : Nat -> Rat) (HW : xj5 w (fun _ => True) (some ⟨bw, ow, none⟩) bw ow nv W) (qw : ∀ i, i < nv -> Qb (W i) 1048640) (hl : lx <= 1000) (hnv : nv <= 1002000) (E F : Nat) (hF : F = e * (lx + 1)) (hE : E = F + lx) (hEn : E < nv) (qs : ∀ k, k <= lx -> Qb (psum 0 (fun t => W (F + t)) X k) 1048640) :
 Calls Tryz.prog 97 #[.agg #[.int .i64 1, .int .i64 v1, .int .i64 v2, .int .i64 v3, .int .i64 v4, .slice (some ⟨bw, ow, none⟩) nv k1], .slice ax lx cx, .slice az lz cz, .int .i64 (e : Int)] w fun r w' => ∃ u, r = .returned u /\ xz4 w' (fun g => w.heap.size <= g) u (psum (W E) (fun t => W (F + t)) X lx) /\ w.Since w.heap.size w' := by
 have sA : w.Since w.heap.size ((w.alloc (.cells #[.int .i64 1, .int .i64 v1, .int .i64 v2, .int .i64 v3, .int .i64 v4, .slice (some ⟨bw, ow, none⟩) nv k1] 84)).alloc (.cells #[.bool false, .slice none 0 0, .slice none 0 0] 70)) := ((World.Since.refl _ _).alloc (Nat.le_refl _) _).alloc (by simp) _; have zA : ((w.alloc (.cells #[.int .i64 1, .int .i64 v1, .int .i64 v2, .int .i64 v3, .int .i64 v4, .slice (some ⟨bw, ow, none⟩) nv k1] 84)).alloc (.cells #[.bool false, .slice none 0 0, .slice none 0 0] 70)).heap.size = w.heap.size + 1 + 1 := by simp
 have nA : Box6 ((w.alloc (.cells #[.int .i64 1, .int .i64 v1, .int .i64 v2, .int .i64 v3, .int .i64 v4, .slice (some ⟨bw, ow, none⟩) nv k1] 84)).alloc (.cells #[.bool false, .slice none 0 0, .slice none 0 0] 70)) w.heap.size (.int .i64 1) (.int .i64 v1) (.int .i64 v2) (.int .i64 v3) (.int .i64 v4) (.slice (some ⟨bw, ow, none⟩) nv k1) := (Box6.new w _ _ _ _ _ _ _).keep ((World.Since.refl _ _).alloc (Nat.le_refl _) _)
 have rA : Box3 ((w.alloc (.cells #[.int .i64 1, .int .i64 v1, .int .i64 v2, .int .i64 v3, .int .i64 v4, .slice (some ⟨bw, ow, none⟩) nv k1] 84)).alloc (.cells #[.bool false, .slice none 0 0, .slice none 0 0] 70)) (w.heap.size + 1) (.bool false) (.slice none 0 0) (.slice none 0 0) := by
  have := Box3.new (w.alloc (.cells #[.int .i64 1, .int .i64 v1, .int .i64 v2, .int .i64 v3, .int .i64 v4, .slice (some ⟨bw, ow, none⟩) nv k1] 84)) (.bool false) (.slice none 0 0) (.slice none 0 0) 70
  simpa using this
 have p0 := nA.c0; obtain ⟨-, x4, y4, CW⟩ := HW E (by omega); obtain ⟨a4, n4, c4, b4, m4, d4, -, -, -, -, -, -, e4, -⟩ := CW.R; simp only [Value.agg.injEq, Array.mk.injEq, List.cons.injEq, and_true, true_and] at e4; obtain ⟨rfl, rfl⟩ := e4; have lw1 := CW.lt; have hE' : (E : Int) < (nv : Int) := by omega
 have ne2 : w.heap.size + 1 ≠ bw := by omega
 have ne3 : w.heap.size + 1 ≠ w.heap.size := by omega
 obtain ⟨L, hL⟩ : ∃ L, L = lx + 1 := ⟨_, rfl⟩; have q1 : IntKind.i64.wrap ((lx : Int) + 1) = (L : Int) := by rw [show (lx : Int) + 1 = (L : Int) by omega]; exact xw9 (by omega) (by omega)
 have qF : IntKind.i64.wrap ((e : Int) * (L : Int)) = (F : Int) := by
  rw [show (e : Int) * (L : Int) = (F : Int) by rw [hF, hL, Int.natCast_mul]]; exact xw9 (by omega) (by omega)
 have qE : IntKind.i64.wrap ((F : Int) + (lx : Int)) = (E : Int) := by rw [show (F : Int) + (lx : Int) = (E : Int) by omega]; exact xw9 (by omega) (by omega)
 have hFl : F + lx <= nv := by omega
 have h0E : (0 : Int) <= (E : Int) := by omega
 clear hF hE hL; go_enter Tryz.func97, Tryz.ntmps97; go_wp2_with fail; generalize (w.alloc (.cells #[.int .i64 1, .int .i64 v1, .int .i64 v2, .int .i64 v3, .int .i64 v4, .slice (some ⟨bw, ow, none⟩) nv k1] 84)).alloc (.cells #[.bool false, .slice none 0 0, .slice none 0 0] 70) = wA at *; have dr := sdr wA; have sd := sA.trans (sM dr sA.size); have J1 := l2Dot_q F 0 nv lx k1 cx (some ⟨bw, ow, none⟩) ax bw ow bx ox W X (by omega) (by omega) qw qx lx wA.drew (HW.keep sd) (HX.keep sd) hFl (by omega) (fun k hk => by have := qs k hk; simpa only [Nat.zero_add] using this); simp only [Nat.zero_add, Int.natCast_zero] at J1; have gn5 := (nA.keep (World.Since.refl _ _)).c5; have g0 := (CW.keep sA).c0; have g1 := (CW.keep sA).c1; have g2 := (CW.keep sA).c2; go_wp2_with fail
 go_region_held3 (fun w' => w'.cell? ⟨w.heap.size, 5, none⟩ = some (.slice (some ⟨bw, ow, none⟩) nv k1) /\ w'.cell? ⟨bw, ow + E * 3, none⟩ = some (.bool (qn (W E))) /\ w'.cell? ⟨bw, ow + E * 3 + 1, none⟩ = some (.slice a4 n4 c4) /\ w'.cell? ⟨bw, ow + E * 3 + 2, none⟩ = some (.slice b4 m4 d4)) (go_keep)
  (first
    | (go_at_call 127
       with_reducible refine J1.mono ?_
       rintro r wp ⟨up, rfl, Rp, sp⟩; have vp := dr.trans (sM sp dr.size); have Sp := sA.trans (sM vp sA.size); have J2 := l1Add_rp (qs lx (Nat.le_refl _)) (qw E (by omega)) (by omega) Rp.read (CW.keep Sp).R.read; rw [<- psum_from] at J2; have hn5 := (nA.keep vp).c5; have h0 := (CW.keep Sp).c0; have h1 := (CW.keep Sp).c1; have h2 := (CW.keep Sp).c2)
    | (go_at_call 110
       with_reducible refine J2.mono ?_
       rintro r w5 ⟨u5', rfl, R5, s5⟩; have R6 := R5; obtain ⟨a7, n7, c7, b7, m7, d7, -, -, -, -, -, -, e7, -⟩ := R6; subst e7; have u5 := vp.trans (sM s5 vp.size); have S5 := sA.trans (sM u5 sA.size); have r5 := rA.keep u5; have r0 := r5.c0; have r1 := r5.c1; have r2 := r5.c2; have f0 := r5.f 0; have f1 := r5.f 1; have f2 := r5.f 2; have on5 := (nA.keep u5).c5; have i0 := (CW.keep S5).c0; have i1 := (CW.keep S5).c1; have i2 := (CW.keep S5).c2))
 go_wp2; have rC := ((r5.set0 (.bool (qn (psum (W E) (fun t => W (F + t)) X lx)))).set1 (.slice a7 n7 c7)).set2 (.slice b7 m7 d7); refine bodyPost_ret (rb3 rfl _ _ _ _ _ _ rfl rC) rfl ?_; have M : xq0 w5 _ (w.heap.size + 1) := (((xq0.refl w5 _).setCell 0 (.bool (qn (psum (W E) (fun t => W (F + t)) X lx)))).setCell 1 (.slice a7 n7 c7)).setCell 2 (.slice b7 m7 d7); exact ⟨_, rfl, (((R5.imp (p' := fun g => w.heap.size + 2 <= g) (fun g _ h => by have h' : wp.heap.size <= g := h; have := vp.size; omega)).marked M (by omega)).imp (fun g _ h => by omega)), S5.trans (M.since (by omega))⟩
theorem el6 (v1 v2 : Int) (kk ss : Nat) (bw ow nv k1 : Nat) (ax az : Option Addr) (bx ox lx cx lz cz e : Nat) (X : Nat -> Rat) (w : World) (HX : xj5 w (fun _ => True) ax bx ox lx X) (qx : ∀ i, i < lx -> Qb (X i) 1048640) (W : Nat -> Rat) (HW : xj5 w (fun _ => True) (some ⟨bw, ow, none⟩) bw ow nv W) (qw : ∀ i, i < nv -> Qb (W i) 1048640) (hl : lx <= 1000) (hnv : nv <= 1002000) (F : Nat) (hF : F = e * ss) (hk : kk < nv) (hFl : F + kk <= lx) (qs : ∀ k, k <= kk -> Qb (psum 0 W (fun t => X (F + t)) k) 1048640) :
 Calls Tryz.prog 97 #[.agg #[.int .i64 6, .int .i64 v1, .int .i64 v2, .int .i64 (kk : Int), .int .i64 (ss : Int), .slice (some ⟨bw, ow, none⟩) nv k1], .slice ax lx cx, .slice az lz cz, .int .i64 (e : Int)] w fun r w' => ∃ u, r = .returned u /\ xz4 w' (fun g => w.heap.size <= g) u (psum (W kk) W (fun t => X (F + t)) kk) /\ w.Since w.heap.size w' := by
 have sA : w.Since w.heap.size ((w.alloc (.cells #[.int .i64 6, .int .i64 v1, .int .i64 v2, .int .i64 (kk : Int), .int .i64 (ss : Int), .slice (some ⟨bw, ow, none⟩) nv k1] 84)).alloc (.cells #[.bool false, .slice none 0 0, .slice none 0 0] 70)) := ((World.Since.refl _ _).alloc (Nat.le_refl _) _).alloc (by simp) _; have zA : ((w.alloc (.cells #[.int .i64 6, .int .i64 v1, .int .i64 v2, .int .i64 (kk : Int), .int .i64 (ss : Int), .slice (some ⟨bw, ow, none⟩) nv k1] 84)).alloc (.cells #[.bool false, .slice none 0 0, .slice none 0 0] 70)).heap.size = w.heap.size + 1 + 1 := by simp
 have nA : Box6 ((w.alloc (.cells #[.int .i64 6, .int .i64 v1, .int .i64 v2, .int .i64 (kk : Int), .int .i64 (ss : Int), .slice (some ⟨bw, ow, none⟩) nv k1] 84)).alloc (.cells #[.bool false, .slice none 0 0, .slice none 0 0] 70)) w.heap.size (.int .i64 6) (.int .i64 v1) (.int .i64 v2) (.int .i64 (kk : Int)) (.int .i64 (ss : Int)) (.slice (some ⟨bw, ow, none⟩) nv k1) := (Box6.new w _ _ _ _ _ _ _).keep ((World.Since.refl _ _).alloc (Nat.le_refl _) _)
 have rA : Box3 ((w.alloc (.cells #[.int .i64 6, .int .i64 v1, .int .i64 v2, .int .i64 (kk : Int), .int .i64 (ss : Int), .slice (some ⟨bw, ow, none⟩) nv k1] 84)).alloc (.cells #[.bool false, .slice none 0 0, .slice none 0 0] 70)) (w.heap.size + 1) (.bool false) (.slice none 0 0) (.slice none 0 0) := by
  have := Box3.new (w.alloc (.cells #[.int .i64 6, .int .i64 v1, .int .i64 v2, .int .i64 (kk : Int), .int .i64 (ss : Int), .slice (some ⟨bw, ow, none⟩) nv k1] 84)) (.bool false) (.slice none 0 0) (.slice none 0 0) 70
  simpa using this
 have p0 := nA.c0; obtain ⟨-, x4, y4, CW⟩ := HW kk (by omega); obtain ⟨a4, n4, c4, b4, m4, d4, -, -, -, -, -, -, e4, -⟩ := CW.R; simp only [Value.agg.injEq, Array.mk.injEq, List.cons.injEq, and_true, true_and] at e4; obtain ⟨rfl, rfl⟩ := e4; have lw1 := CW.lt; have hE' : (kk : Int) < (nv : Int) := by omega
 have ne2 : w.heap.size + 1 ≠ bw := by omega
 have ne3 : w.heap.size + 1 ≠ w.heap.size := by omega
 have qF : IntKind.i64.wrap ((e : Int) * (ss : Int)) = (F : Int) := by rw [<- Int.natCast_mul, <- hF]; exact xw9 (by omega) (by omega)
 clear hF; go_enter Tryz.func97, Tryz.ntmps97; go_wp2_with fail; generalize (w.alloc (.cells #[.int .i64 6, .int .i64 v1, .int .i64 v2, .int .i64 (kk : Int), .int .i64 (ss : Int), .slice (some ⟨bw, ow, none⟩) nv k1] 84)).alloc (.cells #[.bool false, .slice none 0 0, .slice none 0 0] 70) = wA at *; have dr := sdr wA; have sd := sA.trans (sM dr sA.size); have J1 := l2Dot_q 0 F nv lx k1 cx (some ⟨bw, ow, none⟩) ax bw ow bx ox W X (by omega) (by omega) qw qx kk wA.drew (HW.keep sd) (HX.keep sd) (by omega) hFl (fun k hk => by have := qs k hk; simpa only [Nat.zero_add] using this); simp only [Nat.zero_add, Int.natCast_zero] at J1; have gn3 := (nA.keep (World.Since.refl _ _)).c3; have gn4 := (nA.keep (World.Since.refl _ _)).c4; have gn5 := (nA.keep (World.Since.refl _ _)).c5; have g0 := (CW.keep sA).c0; have g1 := (CW.keep sA).c1; have g2 := (CW.keep sA).c2; go_wp2_with fail
 go_region_held3 (fun w' => w'.cell? ⟨w.heap.size, 3, none⟩ = some (.int .i64 (kk : Int)) /\ w'.cell? ⟨w.heap.size, 4, none⟩ = some (.int .i64 (ss : Int)) /\ w'.cell? ⟨w.heap.size, 5, none⟩ = some (.slice (some ⟨bw, ow, none⟩) nv k1) /\ w'.cell? ⟨bw, ow + kk * 3, none⟩ = some (.bool (qn (W kk))) /\ w'.cell? ⟨bw, ow + kk * 3 + 1, none⟩ = some (.slice a4 n4 c4) /\ w'.cell? ⟨bw, ow + kk * 3 + 2, none⟩ = some (.slice b4 m4 d4)) (go_keep)
  (first
    | (go_at_call 127
       with_reducible refine J1.mono ?_
       rintro r wp ⟨up, rfl, Rp, sp⟩; have vp := dr.trans (sM sp dr.size); have Sp := sA.trans (sM vp sA.size); have J2 := l1Add_rp (qs kk (Nat.le_refl _)) (qw kk (by omega)) (by omega) Rp.read (CW.keep Sp).R.read; rw [<- psum_from] at J2; have hn3 := (nA.keep vp).c3; have hn4 := (nA.keep vp).c4; have hn5 := (nA.keep vp).c5; have h0 := (CW.keep Sp).c0; have h1 := (CW.keep Sp).c1; have h2 := (CW.keep Sp).c2)
    | (go_at_call 110
       with_reducible refine J2.mono ?_
       rintro r w5 ⟨u5', rfl, R5, s5⟩; have R6 := R5; obtain ⟨a7, n7, c7, b7, m7, d7, -, -, -, -, -, -, e7, -⟩ := R6; subst e7; have u5 := vp.trans (sM s5 vp.size); have S5 := sA.trans (sM u5 sA.size); have r5 := rA.keep u5; have r0 := r5.c0; have r1 := r5.c1; have r2 := r5.c2; have f0 := r5.f 0; have f1 := r5.f 1; have f2 := r5.f 2; have on3 := (nA.keep u5).c3; have on4 := (nA.keep u5).c4; have on5 := (nA.keep u5).c5; have i0 := (CW.keep S5).c0; have i1 := (CW.keep S5).c1; have i2 := (CW.keep S5).c2))
 go_wp2; have rC := ((r5.set0 (.bool (qn (psum (W kk) W (fun t => X (F + t)) kk)))).set1 (.slice a7 n7 c7)).set2 (.slice b7 m7 d7); refine bodyPost_ret (rb3 rfl _ _ _ _ _ _ rfl rC) rfl ?_; have M : xq0 w5 _ (w.heap.size + 1) := (((xq0.refl w5 _).setCell 0 (.bool (qn (psum (W kk) W (fun t => X (F + t)) kk)))).setCell 1 (.slice a7 n7 c7)).setCell 2 (.slice b7 m7 d7); exact ⟨_, rfl, (((R5.imp (p' := fun g => w.heap.size + 2 <= g) (fun g _ h => by have h' : wp.heap.size <= g := h; have := vp.size; omega)).marked M (by omega)).imp (fun g _ h => by omega)), S5.trans (M.since (by omega))⟩
end Go.Proofs.YthaomfabdghfjaaGreat
