import Derived.Test.YtlpabmcebpppfaaGreatDoorOwnP22
import Derived.Test.YtlpabmcebpppfaaGreatDoorOwnP20
import Derived.Maps.AppendAt
import Derived.Deep.AppendLies
namespace Go.Proofs.YtlpabmcebpppfaaGreatDoor
open Go.RowKit

theorem ratD_qbK {r : RatD} {K : Nat} (ok : r.ok = true) (l : r.lim) (h : r.n + r.m < K) : Qb r.q K := by
  obtain ⟨h1, h2⟩ := q_small ok l
  refine ⟨Nat.lt_of_lt_of_le (Nat.lt_of_succ_le h1) (Nat.pow_le_pow_right (by decide) (show r.n ≤ K by omega)), Nat.lt_of_le_of_lt h2 (Nat.pow_lt_pow_right (by decide) (show r.m < K by omega))⟩

theorem ratD_qb {r : RatD} (ok : r.ok = true) (l : r.lim) (h : r.n + r.m ≤ 1048576) : Qb r.q 1048577 := ratD_qbK ok l (by omega)

theorem orderOf_q {v v' : Value} {p q : Rat} {k l : Nat} {w : World} (hp : Qb p k) (hq : Qb q l) (hk : 2 * k + 2 * l ≤ 16777216) (R : RatR w v p) (R' : RatR w v' q) :
    Calls Tryz.prog 85 #[v, v'] w fun e w' => e = .returned (.int .i64 (qcmp p q)) ∧ w.Since w.heap.size w' := by
  obtain ⟨a, n, ca, b, m, cb, ba, oa, bb, ob, X, Y, rfl, R, x1, x2⟩ := R
  obtain ⟨a', n', ca', b', m', cb', ba', oa', bb', ob', X', Y', rfl, R', y1, y2⟩ := R'
  have n1 := lv_lim R.pX (by rw [x1]; exact hp.1)
  have n2 := lv_lim R.pY (by rw [x2]; exact hp.2)
  have n3 := lv_lim R'.pX (by rw [y1]; exact hq.1)
  have n4 := lv_lim R'.pY (by rw [y2]; exact hq.2)
  have J := orderOf_any (qn p) (qn q) a b a' b' ba oa n ca bb ob m cb ba' oa' n' ca' bb' ob' m' cb' X Y X' Y' w (by omega) R R'
  rw [x1, x2, y1, y2, q_cmp] at J
  exact J

/-- A list of ints that is grown by append. -/
structure IntL (w : World) (base : Nat) (v : Value) (k : Nat) (X : Nat → Int) (xs : List Value) : Prop where
  own : w.ownsRow base 3 1 v k xs
  at_ : ∀ i, i < k → xs[i]? = some (.int .i64 (X i))

theorem IntL.keep {w w' : World} {base k : Nat} {v : Value} {X : Nat → Int} {xs : List Value} (h : IntL w base v k X xs) (s : w.Since w.heap.size w') : IntL w' base v k X xs :=
  ⟨h.own.kept (row := none) ⟨s.os, s.tape, s.output, s.size, fun k hk _ => s.block k hk⟩ (Classical.em _), h.at_⟩

theorem IntL.snoc {w' : World} {base k : Nat} {v' : Value} {X : Nat → Int} {z : Int} {xs : List Value} (hl : xs.length = k) (at_ : ∀ i, i < k → xs[i]? = some (.int .i64 (X i))) (own : w'.ownsRow base 3 1 v' (k + 1) (xs ++ [.int .i64 z])) (hz : X k = z) : IntL w' base v' (k + 1) X (xs ++ [.int .i64 z]) := by
  refine ⟨own, fun i hi => ?_⟩
  by_cases e : i = k
  · subst e
    rw [List.getElem?_append_right (by omega), hl, hz]; simp
  · rw [List.getElem?_append_left (by omega)]; exact at_ i (by omega)

theorem IntL.len {w : World} {base k : Nat} {v : Value} {X : Nat → Int} {xs : List Value} (h : IntL w base v k X xs) : xs.length = k := by have := h.own.1; omega

theorem IntL.ints {w : World} {base k g cap : Nat} {X : Nat → Int} {xs : List Value} (h : IntL w base (.slice (some ⟨g, 0, none⟩) k cap) k X xs) : Ints w (some ⟨g, 0, none⟩) g 0 k X := fun j hj => by
  have hc := @World.ownsRow.cells _ _ _ _ _ _ _ h.own
  have e1 := hc (g := g) rfl _ _ (h.at_ j hj)
  rw [Go.WideShapes.add_plain] at e1
  exact ⟨rfl, e1⟩

theorem infoInt : ∃ i, Tryz.prog.info? 3 = some i ∧ i.zero = some (.int .i64 0) ∧ i.size = 1 ∧ i.bytes = 8 := by
  have h : (Tryz.prog.info? 3).map (fun i => (i.zero, i.size, i.bytes)) = some (some (.int .i64 0), 1, 8) := by kernel_rfl
  obtain ⟨i, hi, h⟩ := Option.map_eq_some_iff.1 h
  simp only [Prod.mk.injEq] at h
  exact ⟨i, hi, h.1, h.2.1, h.2.2⟩

set_option maxHeartbeats 3200000 in
set_option maxRecDepth 100000 in
/-- impl.headFits. -/
theorem headFits_any (g : GraphD) (aL aH aN : Option Addr) (lo kL kH kN : Nat) (w : World) (hw : 0 ≤ w.heap.size) (hT : Tab w) (hd : g.size ≤ 1048576) (H : GraL w lo g aL aH aN kL kH kN) :
    Calls Tryz.prog 84 #[.agg #[.int .i64 g.inn, .int .i64 g.rounds, .slice aL g.nl kL, .slice aH g.nh kH, .slice aN g.nn kN, .int .i64 g.out]] w fun e w' => BoolRet e (HeadP g) ∧ w.Since w.heap.size w' := by
  have ts := hd
  unfold GraphD.size at ts
  have sA : w.Since w.heap.size (w.alloc (.cells #[.int .i64 g.inn, .int .i64 g.rounds, .slice aL g.nl kL, .slice aH g.nh kH, .slice aN g.nn kN, .int .i64 g.out] 31)) := (World.Since.refl _ _).alloc (Nat.le_refl _) _
  have bA := Box6.new w (.int .i64 g.inn) (.int .i64 g.rounds) (.slice aL g.nl kL) (.slice aH g.nh kH) (.slice aN g.nn kN) (.int .i64 g.out) 31
  by_cases h1 : g.inn < 1
  · go_enter Tryz.func84, Tryz.ntmps84
    go_wp2
    go_ret
    exact ⟨⟨false, rfl, by simp only [Bool.false_eq_true, false_iff]; intro h; have := h.i1; omega⟩, sA⟩
  by_cases h2 : 1000 < g.inn
  · go_enter Tryz.func84, Tryz.ntmps84
    go_wp2
    go_ret
    exact ⟨⟨false, rfl, by simp only [Bool.false_eq_true, false_iff]; intro h; have := h.i2; omega⟩, sA⟩
  by_cases h3 : g.rounds < 0
  · go_enter Tryz.func84, Tryz.ntmps84
    go_wp2
    go_ret
    exact ⟨⟨false, rfl, by simp only [Bool.false_eq_true, false_iff]; intro h; have := h.r0; omega⟩, sA⟩
  by_cases h4 : 1000 < g.rounds
  · go_enter Tryz.func84, Tryz.ntmps84
    go_wp2
    go_ret
    exact ⟨⟨false, rfl, by simp only [Bool.false_eq_true, false_iff]; intro h; have := h.r1; omega⟩, sA⟩
  by_cases h5 : (g.nl : Int) = g.inn
  case neg =>
    have q5 : ((g.nl : Int) != g.inn) = true := by simp [h5]
    go_enter Tryz.func84, Tryz.ntmps84
    go_wp2
    go_ret
    exact ⟨⟨false, rfl, by simp only [Bool.false_eq_true, false_iff]; intro h; exact h5 h.l⟩, sA⟩
  have q5 : ((g.nl : Int) != g.inn) = false := by simp [h5]
  have H5 := hide h5
  clear h5
  by_cases h6 : (g.nh : Int) = g.inn
  case neg =>
    have q6 : ((g.nh : Int) != g.inn) = true := by simp [h6]
    go_enter Tryz.func84, Tryz.ntmps84
    go_wp2
    go_ret
    exact ⟨⟨false, rfl, by simp only [Bool.false_eq_true, false_iff]; intro h; exact h6 h.h⟩, sA⟩
  have q6 : ((g.nh : Int) != g.inn) = false := by simp [h6]
  have H6 := hide h6
  clear h6
  by_cases h7 : 1000 < g.nn
  · have q7 : (1000 : Int) < (g.nn : Int) := by omega
    go_enter Tryz.func84, Tryz.ntmps84
    go_wp2
    go_ret
    exact ⟨⟨false, rfl, by simp only [Bool.false_eq_true, false_iff]; intro h; have := h.n; omega⟩, sA⟩
  have q7 : ¬ (1000 : Int) < (g.nn : Int) := by omega
  obtain ⟨b1, o1, -, L1⟩ := (H.keep sA).LL
  have J1 := allValid_any aL lo b1 o1 g.nl kL g.Lo _ (Nat.zero_le _) (hT.stay hw sA) (by omega) (by omega) L1
  go_enter Tryz.func84, Tryz.ntmps84
  go_wp2_with fail
  generalize w.alloc (.cells #[.int .i64 g.inn, .int .i64 g.rounds, .slice aL g.nl kL, .slice aH g.nh kH, .slice aN g.nn kN, .int .i64 g.out] 31) = wA at *
  refine J1.mono ?_
  rintro e w1 ⟨r1, rfl, h8, s1⟩
  have S1 := sA.trans (sinceMono s1 sA.size)
  have p3 := (bA.keep s1).c3
  cases r1
  · have N8 := hide h8
    clear h8
    go_wp2
    go_ret
    exact ⟨⟨false, rfl, by simp only [Bool.false_eq_true, false_iff]; intro h; have := N8.out.2 h.okL; cases this⟩, S1⟩
  have O1 := hide (h8.1 rfl)
  clear h8
  obtain ⟨b2, o2, -, L2⟩ := (H.keep S1).LH
  have J2 := allValid_any aH lo b2 o2 g.nh kH g.Hi w1 (Nat.zero_le _) (hT.stay hw S1) (by omega) (by omega) L2
  go_wp2_with fail
  refine J2.mono ?_
  rintro e w2 ⟨r2, rfl, h9, s2⟩
  have N9 := hide h9
  clear h9
  go_wp2
  go_ret
  exact ⟨⟨r2, rfl, N9.out.trans ⟨fun h => ⟨by omega, by omega, by omega, by omega, H5.out, H6.out, by omega, O1.out, h⟩, fun h => h.okH⟩⟩, S1.trans (sinceMono s2 S1.size)⟩

end Go.Proofs.YtlpabmcebpppfaaGreatDoor
