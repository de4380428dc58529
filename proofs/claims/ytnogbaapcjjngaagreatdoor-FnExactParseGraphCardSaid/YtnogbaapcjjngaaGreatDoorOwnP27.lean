import Derived.Test.YtnogbaapcjjngaaGreatDoorOwnP26
import Derived.Defers
import Derived.Recover
import Derived.Test.YtnogbaapcjjngaaGreatDoorOwnP17
import Derived.Test.YtnogbaapcjjngaaGreatDoorOwnP20
import Derived.Test.YtnogbaapcjjngaaGreatDoorOwnP23
namespace Go.Proofs.YtnogbaapcjjngaaGreatDoor
open Go.RowKit

set_option maxHeartbeats 800000 in
set_option maxRecDepth 100000 in
theorem wrongLineOf_q (n : Int) (w : World) : Calls Tryz.prog 24 #[.iface 86 (.agg #[.int .i64 n])] w fun e w' => e = .returned (.int .i64 n) ∧ w.Since w.heap.size w' := by
  have sA : w.Since w.heap.size (w.alloc (.cells #[.int .i64 n] 86)) := (World.Since.refl _ _).alloc (Nat.le_refl _) _
  have hta : ∀ w : World, (Instr.typeAssert (.iface 86 (.agg #[.int .i64 n])) 20 86 true).run Tryz.prog w = .ok (.tuple #[.agg #[.int .i64 n], .bool true]) w := fun _ => by kernel_rfl
  go_enter Tryz.func24, Tryz.ntmps24
  go_wp2
  go_ret
  exact ⟨rfl, sA⟩

end Go.Proofs.YtnogbaapcjjngaaGreatDoor

namespace Go.Proofs.YtnogbaapcjjngaaGreatDoor
open Go.RowKit

theorem RatW.can0 {w : World} {p : Nat → Prop} {v : Value} {neg : Bool} {N D M : Nat} (h : RatW w p v neg N D M) (hM : M ≤ 9223372036854775807) : ∃ a1 a2 k1 k2, v = .agg #[.bool (ratC neg N D).neg, .slice a1 (ratC neg N D).n k1, .slice a2 (ratC neg N D).m k2] ∧ RatL w 0 (ratC neg N D) a1 a2 k1 k2 := by
  obtain ⟨v1, v2, g, h', rfl, h1, h2, -⟩ := h
  obtain ⟨a1, k1, rfl, p1, p2, p3, p4, p5⟩ := h1.can
  obtain ⟨a2, k2, rfl, q1, q2, q3, q4, q5⟩ := h2.can
  exact ⟨a1, a2, k1, k2, rfl, ⟨p1, q1, p3, q3, ⟨g, 0, fun _ => Nat.zero_le _, p4⟩, ⟨h', 0, fun _ => Nat.zero_le _, q4⟩, p5, q5, Nat.le_trans p2 hM, Nat.le_trans q2 hM⟩⟩

/-- The numbers of words. -/
def numF (l : List ByteArray) : Nat → RatD := fun i => numD (wd l i)

theorem OutR.rats {w : World} {lo : Nat} {v : Value} {l : List ByteArray} {p : Nat → Nat → Prop} {xs : List Value} (h : OutR w lo v l.length (wd l) p xs) : ∃ a g cap, v = .slice a l.length cap ∧ l.length ≤ cap ∧ Rats w 0 a g 0 l.length (numF l) := by
  have hc := @World.ownsRow.cells _ _ _ _ _ _ _ h.own
  have hat := h.at_
  obtain ⟨_, ⟨e, e0⟩ | ⟨g, cap, cur, e, hg, hb, hn, _⟩⟩ := h.own
  · exact ⟨none, 0, 0, by rw [e, e0], by omega, fun i hi => absurd hi (by omega)⟩
  · subst e
    refine ⟨_, g, cap, rfl, hn, fun i hi => ⟨rfl, ?_⟩⟩
    obtain ⟨u1, u2, h1, h2, h3, h4⟩ := hat i hi
    obtain ⟨a1, a2, k1, k2, e, L⟩ := RatW.can0 h4 (by omega)
    simp only [Value.agg.injEq, Array.mk.injEq, List.cons.injEq, and_true] at e
    obtain ⟨e1, rfl, rfl⟩ := e
    have c1 := hc (g := g) rfl _ _ h1
    have c2 := hc (g := g) rfl _ _ h2
    have c3 := hc (g := g) rfl _ _ h3
    rw [Go.WideShapes.add_plain] at c1 c2 c3
    exact ⟨a1, a2, k1, k2, ⟨c1, by rw [Nat.add_assoc]; exact c2, by rw [Nat.add_assoc]; exact c3, L⟩⟩

end Go.Proofs.YtnogbaapcjjngaaGreatDoor

namespace Go.Proofs.YtnogbaapcjjngaaGreatDoor
open Go.RowKit

/-- How many words lines have. -/
def tot (rest : List (Nat × List ByteArray)) : Nat := (rest.map fun r => r.2.length).sum

theorem tot_append (a b : List (Nat × List ByteArray)) : tot (a ++ b) = tot a + tot b := by simp [tot]
theorem tot_cons (a : Nat × List ByteArray) (b : List (Nat × List ByteArray)) : tot (a :: b) = a.2.length + tot b := by simp [tot]
theorem lnsF_tot (t : Nat) (L : List ByteArray) : tot (lnsF t L) ≤ (L.map fun l => l.size + 1).sum := by
  induction L generalizing t with
  | nil => simp [lnsF, tot]
  | cons x xs ih =>
    have h1 := ih (t + 1)
    have h2 := words_len x
    rw [lnsF]
    simp only [List.map_cons, List.sum_cons]
    split
    · omega
    · rw [tot_cons]
      show (wordsB x).length + _ ≤ _
      omega

theorem cutL_sum (c : UInt8) : ∀ l : List UInt8, ((cutL c l).map fun p => p.length + 1).sum = l.length + 1
  | [] => by simp [cutL]
  | x :: xs => by
    have h := cutL_sum c xs
    unfold cutL
    split
    · simp only [List.map_cons, List.sum_cons, List.length_nil, List.length_cons, h]; omega
    · cases e : cutL c xs with
      | nil => exact absurd e (cutL_ne c xs)
      | cons p ps =>
        rw [e] at h
        simp only [List.map_cons, List.sum_cons, List.length_cons] at h ⊢
        omega
theorem pcs_sum (c : UInt8) (s : ByteArray) : ((pcs c s).map fun l => l.size + 1).sum = s.size + 1 := by
  have h := cutL_sum c s.data.toList
  unfold pcs
  rw [List.map_map]
  rw [← Lib.size_eq] at h
  rw [← h]
  congr 1

theorem canR_lim {N k : Nat} (h : N < 2 ^ (32 * k)) : (canR N).1 ≤ k := by
  obtain ⟨p, hp⟩ : ∃ p, LimbsOf N p := ⟨_, canR_ok N⟩
  obtain ⟨e1, -, -⟩ := canR_of hp
  rw [e1]
  rcases Nat.eq_zero_or_pos p.1 with h0 | h0
  · omega
  · have h1 := lv_ge p.2 p.1 h0 (hp.2.1 h0)
    rw [hp.2.2] at h1
    have h2 := Nat.lt_of_le_of_lt h1 h
    have h3 := (Nat.pow_lt_pow_iff_right (show 1 < 2 by omega)).1 h2
    omega

theorem pow_400 : 10 ^ 400 < 2 ^ (32 * 42) := by decide +kernel

theorem numD_lim {x : ByteArray} (h : numOk x) : (numD x).n ≤ 42 ∧ (numD x).m ≤ 42 := by
  obtain ⟨K, E, hK, hE, pw⟩ : ∃ K E, K = 42 ∧ E = 400 ∧ 10 ^ E < 2 ^ (32 * K) := ⟨42, 400, rfl, rfl, pow_400⟩
  unfold numOk at h
  have key : (parseO x).2.1 < 2 ^ (32 * K) ∧ (parseO x).2.2.1 < 2 ^ (32 * K) := by
    unfold parseO at h ⊢
    simp only at h ⊢
    split at h
    · cases h
    · rename_i h1
      split at h
      · cases h
      · rename_i h2
        split at h
        · cases h
        · rename_i h3
          simp only [if_neg h1, if_neg h2, if_neg h3]
          simp only [Bool.not_eq_true', Bool.and_eq_false_iff, not_or, Bool.not_eq_false] at h1
          simp only [not_or, Nat.not_lt] at h2
          have b1 := dv_lim (x := pTop (runs x)) (k := (pTop (runs x)).size) (fun j hj => digB_digs' h1.1 j hj)
          have b2 := dv_lim (x := pBot (runs x)) (k := (pBot (runs x)).size) (fun j hj => digB_digs' h1.2 j hj)
          have p1 : 10 ^ (pTop (runs x)).size ≤ 10 ^ E := Nat.pow_le_pow_right (by omega) (by omega)
          have p2 : 10 ^ (pBot (runs x)).size ≤ 10 ^ E := Nat.pow_le_pow_right (by omega) (by omega)
          have := pw
          have d1 := Nat.div_le_self (dv (pTop (runs x)) (pTop (runs x)).size) (Nat.gcd (dv (pTop (runs x)) (pTop (runs x)).size) (dv (pBot (runs x)) (pBot (runs x)).size))
          have d2 := Nat.div_le_self (dv (pBot (runs x)) (pBot (runs x)).size) (Nat.gcd (dv (pTop (runs x)) (pTop (runs x)).size) (dv (pBot (runs x)) (pBot (runs x)).size))
          exact ⟨Nat.lt_of_le_of_lt d1 (Nat.lt_trans (Nat.lt_of_lt_of_le b1 p1) this), Nat.lt_of_le_of_lt d2 (Nat.lt_trans (Nat.lt_of_lt_of_le b2 p2) this)⟩
  rw [← hK]; exact ⟨canR_lim key.1, canR_lim key.2⟩

theorem szR_num {l : List ByteArray} {n : Nat} (h : ∀ i, i < n → numOk (wd l i)) : szR (numF l) n ≤ 84 * n := by
  induction n with
  | zero => simp [szR]
  | succ n ih =>
    have h1 := ih (fun i hi => h i (by omega))
    have h2 := numD_lim (h n (by omega))
    rw [szR_succ]
    have e : numF l n = numD (wd l n) := rfl
    rw [e]
    omega

theorem wd_mem {l : List ByteArray} {i : Nat} (h : i < l.length) : wd l i ∈ l := by
  unfold wd
  rw [List.getD_eq_getElem?_getD, List.getElem?_eq_getElem h]
  exact List.getElem_mem h

end Go.Proofs.YtnogbaapcjjngaaGreatDoor

namespace Go.Proofs.YtnogbaapcjjngaaGreatDoor
open Go.RowKit

theorem But.c {c : Nat} {w w' : World} (B : But c w w') : Chg (fun q => q = c) w w' := ⟨B.os, B.tape, B.output, B.size, fun q hq hn => B.block q hq (by simpa using hn)⟩
theorem since_chg {w w1 w' : World} {B : Nat} {R : Nat → Prop} (s : w.Since B w1) (hB : B ≤ w.heap.size) (h : Chg R w1 w') (hn : ∀ q, q < B → ¬ R q) : w.Since B w' :=
  ⟨h.os.trans s.os, h.tape.trans s.tape, h.output.trans s.output, Nat.le_trans s.size h.size, fun q hq => (h.block q (by have := s.size; omega) (hn q hq)).trans (s.block q hq)⟩

end Go.Proofs.YtnogbaapcjjngaaGreatDoor

namespace Go.Proofs.YtnogbaapcjjngaaGreatDoor
open Go.RowKit

section
variable {w w' : World} {p : Nat → Prop} {c i K K' b off : Nat} {v0 v1 : Value} {aW aB : Option Addr} {gW nW cW gB nB cB : Nat} {pW pB : Nat → Nat → Prop} {kW kB : Nat → Nat} {f : Bool} {g h : Nat} {a1 : Option Addr} {n1 k1 : Nat} {a2 : Option Addr} {n2 k2 : Nat} {X Y : Nat → Nat}
theorem OwnQ.keep (r : OwnQ w p b off f g h a1 n1 k1 a2 n2 k2 X Y) (s : w.Since w.heap.size w') : OwnQ w' p b off f g h a1 n1 k1 a2 n2 k2 X Y := by
  have lt : b < w.heap.size := World.block_lt_of_cell? _ _ r.c0
  refine ⟨(s.cell (a := ⟨b, off, none⟩) lt).trans r.c0, (s.cell (a := ⟨b, off + 1, none⟩) lt).trans r.c1, (s.cell (a := ⟨b, off + 2, none⟩) lt).trans r.c2, r.L1.keep s, r.L2.keep s, r.s1, r.s2, fun h0 => ⟨(r.lg h0).1, fun o => ?_⟩, fun h0 => ⟨(r.lh h0).1, fun o => ?_⟩, r.ne⟩
  · have lt' : g < w.heap.size := World.block_lt_of_cell? _ _ (r.L1 0 h0).2
    rw [s.frozen (a := ⟨g, o, none⟩) lt']; exact (r.lg h0).2 o
  · have lt' : h < w.heap.size := World.block_lt_of_cell? _ _ (r.L2 0 h0).2
    rw [s.frozen (a := ⟨h, o, none⟩) lt']; exact (r.lh h0).2 o
theorem LM.keep {a : Option Addr} {n : Nat} {p : Nat → Nat → Prop} {K : Nat → Nat} (h : LM w a g n p K) (s : w.Since w.heap.size w') : LM w' a g n p K :=
  ⟨h.ha, fun i h2 => by
    obtain ⟨g', h', a1', n1', k1', a2', n2', k2', r', e'⟩ := h.M i h2
    exact ⟨g', h', a1', n1', k1', a2', n2', k2', r'.keep s, e'⟩⟩
end

/-- The blocks of number j of a list. -/
def px (xs : List Value) (j q : Nat) : Prop := ∃ u, (xs[j * 3 + 1]? = some u ∨ xs[j * 3 + 2]? = some u) ∧ eb u = some q
/-- The blocks of map i. -/
def pz (zs : List (List Value)) (i q : Nat) : Prop := ∃ z u, zs[i]? = some z ∧ u ∈ z ∧ eb u = some q

theorem pw_inj {xs : List Value} (h : xs.Pairwise fun u v => ∀ g, eb u = some g → eb v ≠ some g) {i j q : Nat} {u u' : Value} (hi : xs[i]? = some u) (hj : xs[j]? = some u') (e : eb u = some q) (e' : eb u' = some q) : i = j := by
  obtain ⟨li, ei⟩ := List.getElem?_eq_some_iff.1 hi
  obtain ⟨lj, ej⟩ := List.getElem?_eq_some_iff.1 hj
  have hp := List.pairwise_iff_getElem.1 h
  rcases Nat.lt_trichotomy i j with hlt | heq | hlt
  · exact absurd e' (by have := hp i j li lj hlt q (by rw [ei]; exact e); rw [ej] at this; exact this)
  · exact heq
  · exact absurd e (by have := hp j i lj li hlt q (by rw [ej]; exact e'); rw [ei] at this; exact this)

theorem px_mem {xs : List Value} {j q : Nat} (h : px xs j q) : ∃ u, u ∈ xs ∧ eb u = some q := by
  obtain ⟨u, h | h, e⟩ := h
  · exact ⟨u, List.mem_of_getElem? h, e⟩
  · exact ⟨u, List.mem_of_getElem? h, e⟩

theorem own_frozen {w : World} {base g n m cap size : Nat} {t : TypeId} {xs : List Value} (h : w.ownsRow base t size (.slice (some ⟨g, 0, none⟩) m cap) n xs) (o : Nat) : w.frozen? ⟨g, o, none⟩ = false := by
  obtain ⟨-, ⟨e, -⟩ | ⟨g', cap', cur, e, -, hh, -⟩⟩ := h
  · cases e
  · simp only [Value.slice.injEq, Option.some.injEq, Addr.mk.injEq, and_true] at e
    obtain ⟨rfl, -⟩ := e
    unfold World.frozen?
    rw [hh]
    simp

theorem OutR.lq {w : World} {lo : Nat} {v : Value} {l : List ByteArray} {p : Nat → Nat → Prop} {xs : List Value} (h : OutR w lo v l.length (wd l) p xs) (ok : ∀ x ∈ l, numOk x) (pw : xs.Pairwise fun u v => ∀ g, eb u = some g → eb v ≠ some g) :
    ∃ a g cap, v = .slice a l.length cap ∧ LQ w a g l.length (px xs) ∧ (0 < l.length → eb v = some g) := by
  have hc := @World.ownsRow.cells _ _ _ _ _ _ _ h.own
  have hown := h.own
  obtain ⟨_, ⟨e, e0⟩ | ⟨g, cap, cur, e, hg, hb', hn, _⟩⟩ := h.own
  · exact ⟨none, 0, 0, by rw [e, e0], ⟨fun h0 => absurd h0 (by omega), fun h0 => absurd h0 (by omega), fun i _ hi => absurd hi (by omega), ⟨fun i j q hi => absurd hi (by omega), fun i q hi => absurd hi (by omega)⟩⟩, fun h0 => absurd h0 (by omega)⟩
  · subst e
    refine ⟨_, g, cap, rfl, ⟨fun _ => rfl, fun _ o => own_frozen hown o, fun i _ hi => ?_, ⟨fun i j q hi hj hp hq => ?_, fun i q hi hp e => ?_⟩⟩, fun h0 => ?_⟩
    · obtain ⟨u1, u2, h1, h2, h3, h4⟩ := h.at_ i hi
      have hok := ok _ (wd_mem hi)
      have lim := numD_lim hok
      obtain ⟨a1, a2, k1, k2, ee, -⟩ := RatW.can0 h4 (by omega)
      obtain ⟨v1, v2, g1, g2, e1, N1, N2, b1, b2, b3⟩ := h4
      simp only [Value.agg.injEq, Array.mk.injEq, List.cons.injEq, and_true, true_and] at e1
      obtain ⟨rfl, rfl⟩ := e1
      have M1 := N1
      have M2 := N2
      obtain ⟨x1, m1, d1, Y1, rfl, -, -, -, L1, f1, -, t1, e9⟩ := N1
      obtain ⟨x2, m2, d2, Y2, rfl, -, -, -, L2, f2, -, t2, e8⟩ := N2
      simp only [Value.agg.injEq, Array.mk.injEq, List.cons.injEq, Value.slice.injEq, and_true] at ee
      have en : m1 = (numD (wd l i)).n := ee.2.1.2.1
      have em : m2 = (numD (wd l i)).m := ee.2.2.2.1
      have c1 := hc (g := g) rfl _ _ h1
      have c2 := hc (g := g) rfl _ _ h2
      have c3 := hc (g := g) rfl _ _ h3
      rw [Go.WideShapes.add_plain, Nat.zero_add] at c1 c2 c3
      have nz1 : 0 < m1 → eb (.slice x1 m1 d1) = some g1 := fun h0 => by
        obtain ⟨ea, -⟩ := L1 0 h0
        subst ea
        obtain ⟨k, rfl⟩ : ∃ k, m1 = k + 1 := ⟨m1 - 1, by omega⟩
        rfl
      have nz2 : 0 < m2 → eb (.slice x2 m2 d2) = some g2 := fun h0 => by
        obtain ⟨ea, -⟩ := L2 0 h0
        subst ea
        obtain ⟨k, rfl⟩ : ∃ k, m2 = k + 1 := ⟨m2 - 1, by omega⟩
        rfl
      refine ⟨_, g1, g2, x1, m1, d1, x2, m2, d2, Y1, Y2, c1, c2, c3, L1, L2, by omega, by omega, fun h0 => ⟨⟨_, Or.inl h2, nz1 h0⟩, f1 h0⟩, fun h0 => ⟨⟨_, Or.inr h3, nz2 h0⟩, f2 h0⟩, fun h0 h0' => b3 (M1.eb (nz1 h0)).1 (M2.eb (nz2 h0')).1⟩
    · obtain ⟨u, hu, eu⟩ := hp
      obtain ⟨u', hu', eu'⟩ := hq
      rcases hu with hu | hu <;> rcases hu' with hu' | hu' <;> (have := pw_inj pw hu hu' eu eu'; omega)
    · obtain ⟨u, hu, eu⟩ := px_mem hp
      obtain ⟨_, _, _, hv, _⟩ := h.mem hu eu
      exact hv (by rw [e]; rfl)
    · obtain ⟨k, hk⟩ : ∃ k, l.length = k + 1 := ⟨l.length - 1, by omega⟩
      rw [hk]; rfl

end Go.Proofs.YtnogbaapcjjngaaGreatDoor

namespace Go.Proofs.YtnogbaapcjjngaaGreatDoor
open Go.RowKit

/-- A node of six cells whose list lies in blocks of its own, those of p. -/
structure DQ (w : World) (p : Nat → Prop) (c i : Nat) (v0 v1 v2 v3 v4 : Value) (aV : Option Addr) (gV nV cV : Nat) (pV : Nat → Nat → Prop) : Prop where
  c0 : w.cell? ⟨c, i * 6, none⟩ = some v0
  c1 : w.cell? ⟨c, i * 6 + 1, none⟩ = some v1
  c2 : w.cell? ⟨c, i * 6 + 2, none⟩ = some v2
  c3 : w.cell? ⟨c, i * 6 + 3, none⟩ = some v3
  c4 : w.cell? ⟨c, i * 6 + 4, none⟩ = some v4
  c5 : w.cell? ⟨c, i * 6 + 5, none⟩ = some (.slice aV nV cV)
  V : LQ w aV gV nV pV
  inV : ∀ q, setQ gV nV pV q → p q
  sz : nV ≤ 1048576

/-- .. whose marks stand, from K to K'. -/
structure DM (w : World) (p : Nat → Prop) (c i K K' : Nat) (aV : Option Addr) (gV nV cV : Nat) (pV : Nat → Nat → Prop) (kV : Nat → Nat) : Prop where
  c0 : w.cell? ⟨c, i * 6, none⟩ = some (.int .i64 (K : Int))
  c1 : w.cell? ⟨c, i * 6 + 1, none⟩ = some (.int .i64 ((K : Int) + 1))
  c2 : w.cell? ⟨c, i * 6 + 2, none⟩ = some (.int .i64 ((K : Int) + 1 + 1))
  c3 : w.cell? ⟨c, i * 6 + 3, none⟩ = some (.int .i64 ((K : Int) + 1 + 1 + 1))
  c4 : w.cell? ⟨c, i * 6 + 4, none⟩ = some (.int .i64 ((K : Int) + 1 + 1 + 1 + 1))
  c5 : w.cell? ⟨c, i * 6 + 5, none⟩ = some (.slice aV nV cV)
  V : LM w aV gV nV pV kV
  inV : ∀ q, setQ gV nV pV q → p q
  sz : nV ≤ 1048576
  k0 : kV 0 = K + 5
  k2 : K' = kV nV

def DQs (w : World) (c k n : Nat) (p : Nat → Nat → Prop) (z : Nat → Nat) : Prop := ∀ i, k ≤ i → i < n → ∃ v0 v1 v2 v3 v4 aV gV nV cV pV, DQ w (p i) c i v0 v1 v2 v3 v4 aV gV nV cV pV ∧ nV ≤ z i
def DMs (w : World) (c n : Nat) (p : Nat → Nat → Prop) (K : Nat → Nat) : Prop := ∀ i, i < n → ∃ aV gV nV cV pV kV, DM w (p i) c i (K i) (K (i + 1)) aV gV nV cV pV kV

section
variable {w w' : World} {S p : Nat → Prop} {c i K K' : Nat} {v0 v1 v2 v3 v4 : Value} {aV : Option Addr} {gV nV cV : Nat} {pV : Nat → Nat → Prop} {kV : Nat → Nat}
theorem DQ.frame (h : DQ w p c i v0 v1 v2 v3 v4 aV gV nV cV pV) (F : Fra w w' S) (hS : ∀ q, p q → ¬ S q) (hc : ∀ o, i * 6 ≤ o → o < i * 6 + 6 → w'.cell? ⟨c, o, none⟩ = w.cell? ⟨c, o, none⟩) : DQ w' p c i v0 v1 v2 v3 v4 aV gV nV cV pV :=
  ⟨by rw [hc _ (by omega) (by omega)]; exact h.c0, by rw [hc _ (by omega) (by omega)]; exact h.c1, by rw [hc _ (by omega) (by omega)]; exact h.c2, by rw [hc _ (by omega) (by omega)]; exact h.c3, by rw [hc _ (by omega) (by omega)]; exact h.c4, by rw [hc _ (by omega) (by omega)]; exact h.c5, h.V.frame F (fun q hq => hS q (h.inV q hq)), h.inV, h.sz⟩
theorem DM.frame (h : DM w p c i K K' aV gV nV cV pV kV) (F : Fra w w' S) (hS : ∀ q, p q → ¬ S q) (hc : ∀ o, i * 6 ≤ o → o < i * 6 + 6 → w'.cell? ⟨c, o, none⟩ = w.cell? ⟨c, o, none⟩) : DM w' p c i K K' aV gV nV cV pV kV :=
  ⟨by rw [hc _ (by omega) (by omega)]; exact h.c0, by rw [hc _ (by omega) (by omega)]; exact h.c1, by rw [hc _ (by omega) (by omega)]; exact h.c2, by rw [hc _ (by omega) (by omega)]; exact h.c3, by rw [hc _ (by omega) (by omega)]; exact h.c4, by rw [hc _ (by omega) (by omega)]; exact h.c5, h.V.frame F (fun q hq => hS q (h.inV q hq)), h.inV, h.sz, h.k0, h.k2⟩
theorem DQ.keep (h : DQ w p c i v0 v1 v2 v3 v4 aV gV nV cV pV) (s : w.Since w.heap.size w') : DQ w' p c i v0 v1 v2 v3 v4 aV gV nV cV pV := by
  have lt : c < w.heap.size := World.block_lt_of_cell? _ _ h.c0
  exact ⟨(s.cell (a := ⟨c, i * 6, none⟩) lt).trans h.c0, (s.cell (a := ⟨c, i * 6 + 1, none⟩) lt).trans h.c1, (s.cell (a := ⟨c, i * 6 + 2, none⟩) lt).trans h.c2, (s.cell (a := ⟨c, i * 6 + 3, none⟩) lt).trans h.c3, (s.cell (a := ⟨c, i * 6 + 4, none⟩) lt).trans h.c4, (s.cell (a := ⟨c, i * 6 + 5, none⟩) lt).trans h.c5, h.V.keep s, h.inV, h.sz⟩
theorem DM.keep (h : DM w p c i K K' aV gV nV cV pV kV) (s : w.Since w.heap.size w') : DM w' p c i K K' aV gV nV cV pV kV := by
  have lt : c < w.heap.size := World.block_lt_of_cell? _ _ h.c0
  exact ⟨(s.cell (a := ⟨c, i * 6, none⟩) lt).trans h.c0, (s.cell (a := ⟨c, i * 6 + 1, none⟩) lt).trans h.c1, (s.cell (a := ⟨c, i * 6 + 2, none⟩) lt).trans h.c2, (s.cell (a := ⟨c, i * 6 + 3, none⟩) lt).trans h.c3, (s.cell (a := ⟨c, i * 6 + 4, none⟩) lt).trans h.c4, (s.cell (a := ⟨c, i * 6 + 5, none⟩) lt).trans h.c5, h.V.keep s, h.inV, h.sz, h.k0, h.k2⟩
end

set_option maxHeartbeats 3200000 in
set_option maxRecDepth 100000 in
/-- markNodeS at a list of nodes in blocks of their own. -/
theorem markNodeS_p (a : Option Addr) (c n cap k0 : Nat) (p : Nat → Nat → Prop) (z : Nat → Nat) (w : World) (hn : n ≤ 1048576) (hk0 : k0 ≤ 70000000000000) (hz : ∀ i, i ≤ n → psN z i ≤ 2097152) (ha : 0 < n → a = some ⟨c, 0, none⟩) (D : DisP n p c) (hf : 0 < n → ∀ o, w.frozen? ⟨c, o, none⟩ = false) (H : DQs w c 0 n p z) :
    Calls Tryz.prog 39 #[.slice a n cap, .int .i64 k0] w fun e w' => ∃ K : Nat → Nat, K 0 = k0 ∧ (∀ i, i ≤ n → K i ≤ 141000000000000) ∧ e = .returned (.int .i64 ((K n : Nat) : Int)) ∧ Fra w w' (setQ c n p) ∧ DMs w' c n p K := by
  go_enter Tryz.func39, Tryz.ntmps39
  go_wp2
  go_loopw [1, 5] (fun q i wr => ∃ (k : Nat) (K : Nat → Nat), k ≤ n ∧ i = .int .i64 k ∧ q = .int .i64 ((K k : Nat) : Int) ∧ K 0 = k0 ∧ K k ≤ k0 + 5 * k + psN z k * 8388609 ∧ Fra w wr (setQ c n p) ∧ DMs wr c k p K ∧ DQs wr c k n p z ∧ Hid (∀ i, i ≤ k → K i ≤ 141000000000000)) (fun _ i _ => n - (intOf i).toNat)
  case atStart => exact ⟨0, fun _ => k0, Nat.zero_le _, rfl, rfl, rfl, by simp [psN], Fra.refl _ _, fun i hi => absurd hi (by omega), H, hide (fun _ _ => by show k0 ≤ 141000000000000; omega)⟩
  case round =>
    obtain ⟨k, K, hk, rfl, rfl, hK0, hK, hs, hm, ho, HKI⟩ := hrel
    have hzk := hz k hk
    by_cases hlt : k < n
    · obtain ⟨v0, v1, v2, v3, v4, aV, gV, nV, cV, pV, r, hzz⟩ := ho k (Nat.le_refl _) hlt
      obtain rfl := ha (by omega)
      have hz1 := hz (k + 1) (by omega)
      have hpz : psN z (k + 1) = psN z k + z k := rfl
      have e0 := r.c0
      have e1 := r.c1
      have e2 := r.c2
      have e3 := r.c3
      have e4 := r.c4
      have e5 := r.c5
      have hsz := r.sz
      have fz0 : wr.frozen? ⟨c, k * 6, none⟩ = false := by rw [hs.frozen]; exact hf (by omega) _
      have fz1 : wr.frozen? ⟨c, k * 6 + 1, none⟩ = false := by rw [hs.frozen]; exact hf (by omega) _
      have fz2 : wr.frozen? ⟨c, k * 6 + 2, none⟩ = false := by rw [hs.frozen]; exact hf (by omega) _
      have fz3 : wr.frozen? ⟨c, k * 6 + 3, none⟩ = false := by rw [hs.frozen]; exact hf (by omega) _
      have fz4 : wr.frozen? ⟨c, k * 6 + 4, none⟩ = false := by rw [hs.frozen]; exact hf (by omega) _
      have HKz := hide hK
      have zK : K k ≤ 141000000000000 := by omega
      have ncV : ¬ setQ gV nV pV c := fun h0 => D.nb k c hlt (r.inV c h0) rfl
      have HPZ := hide hpz
      have HZ1 := hide hz1
      have HZK := hide hzk
      generalize hKk : K k = Kk at *
      clear hK hpz hz1 hzk
      go_wp2_with fail
      obtain ⟨w1, ew1⟩ : ∃ x, ((((wr.setCell ⟨c, k * 6, none⟩ (.int .i64 (Kk : Int))).setCell ⟨c, k * 6 + 1, none⟩ (.int .i64 ((Kk : Int) + 1))).setCell ⟨c, k * 6 + 2, none⟩ (.int .i64 ((Kk : Int) + 1 + 1))).setCell ⟨c, k * 6 + 3, none⟩ (.int .i64 ((Kk : Int) + 1 + 1 + 1))).setCell ⟨c, k * 6 + 4, none⟩ (.int .i64 ((Kk : Int) + 1 + 1 + 1 + 1)) = x := ⟨_, rfl⟩
      have M1 : Marked wr w1 c := by rw [← ew1]; exact (((((Marked.refl wr c).setCell _ _).setCell _ _).setCell _ _).setCell _ _).setCell _ _
      have D1 : Hid (∀ o, o ≠ k * 6 → o ≠ k * 6 + 1 → o ≠ k * 6 + 2 → o ≠ k * 6 + 3 → o ≠ k * 6 + 4 → w1.cell? ⟨c, o, none⟩ = wr.cell? ⟨c, o, none⟩) := hide (fun o h1 h2 h3 h4 h5 => by
        rw [← ew1, cell_els _ _ h5, cell_els _ _ h4, cell_els _ _ h3, cell_els _ _ h2, cell_els _ _ h1])
      have D2 : Hid (w1.cell? ⟨c, k * 6, none⟩ = some (.int .i64 (Kk : Int)) ∧ w1.cell? ⟨c, k * 6 + 1, none⟩ = some (.int .i64 ((Kk : Int) + 1)) ∧ w1.cell? ⟨c, k * 6 + 2, none⟩ = some (.int .i64 ((Kk : Int) + 1 + 1)) ∧ w1.cell? ⟨c, k * 6 + 3, none⟩ = some (.int .i64 ((Kk : Int) + 1 + 1 + 1)) ∧ w1.cell? ⟨c, k * 6 + 4, none⟩ = some (.int .i64 ((Kk : Int) + 1 + 1 + 1 + 1))) := hide (by
        rw [← ew1]
        refine ⟨?_, ?_, ?_, ?_, ?_⟩
        · rw [cell_els _ _ (by omega), cell_els _ _ (by omega), cell_els _ _ (by omega), cell_els _ _ (by omega), World.cell?_setCell_same _ _ _ e0]
        · rw [cell_els _ _ (by omega), cell_els _ _ (by omega), cell_els _ _ (by omega)]
          exact World.cell?_setCell_same _ _ _ (by rw [cell_els _ _ (by omega)]; exact e1)
        · rw [cell_els _ _ (by omega), cell_els _ _ (by omega)]
          exact World.cell?_setCell_same _ _ _ (by rw [cell_els _ _ (by omega), cell_els _ _ (by omega)]; exact e2)
        · rw [cell_els _ _ (by omega)]
          exact World.cell?_setCell_same _ _ _ (by rw [cell_els _ _ (by omega), cell_els _ _ (by omega), cell_els _ _ (by omega)]; exact e3)
        · exact World.cell?_setCell_same _ _ _ (by rw [cell_els _ _ (by omega), cell_els _ _ (by omega), cell_els _ _ (by omega), cell_els _ _ (by omega)]; exact e4))
      rw [ew1]
      clear ew1
      rw [show ((Kk : Int) + 1 + 1 + 1 + 1 + 1) = ((Kk + 5 : Nat) : Int) by omega]
      refine (markRatS_q cV (Kk + 5) (by omega) (by omega) (r.V.frame M1.fr (fun q h0 h1 => ncV (h1 ▸ h0)))).mono ?_
      rintro e w2 ⟨kV, hkV0, hkV, rfl, F2, LM2⟩
      obtain ⟨kw, hkw⟩ : ∃ x, kV nV = x := ⟨_, rfl⟩
      rw [hkw] at hkV ⊢
      have HKW := hide hkw
      have HKW0 := hide hkV0
      clear hkw hkV0
      go_wp2
      go_roundw
      case rel =>
        have F : Fra wr w2 (fun x => x = c ∨ p k x) := (M1.fr.mono (fun x h0 => .inl h0)).trans (F2.mono (fun x h0 => .inr (r.inV x h0)))
        have hcc : ∀ o, w2.cell? ⟨c, o, none⟩ = w1.cell? ⟨c, o, none⟩ := fun o => by
          rw [F2.cell (a := ⟨c, o, none⟩) ncV]
        have hcb : ∀ o, o ≠ k * 6 → o ≠ k * 6 + 1 → o ≠ k * 6 + 2 → o ≠ k * 6 + 3 → o ≠ k * 6 + 4 → w2.cell? ⟨c, o, none⟩ = wr.cell? ⟨c, o, none⟩ := fun o h1 h2 h3 h4 h5 => by
          rw [hcc, D1.out o h1 h2 h3 h4 h5]
        refine ⟨k + 1, fun i => if i ≤ k then K i else kw, by omega, by go_num, ?_, ?_, ?_, hs.trans (F.mono ?_), fun i hi => ?_, fun i hi hi' => ?_, hide (fun i hi => ?_)⟩
        · simp only [show ¬ k + 1 ≤ k by omega, if_false]
        · simpa using hK0
        · simp only [show ¬ k + 1 ≤ k by omega, if_false]
          have h1 := HKz.out
          have h2 := HPZ.out
          have h3 : (psN z k + z k) * 8388609 = psN z k * 8388609 + z k * 8388609 := Nat.add_mul _ _ _
          rw [h2, h3]
          have h4 : nV * 8388609 ≤ z k * 8388609 := Nat.mul_le_mul_right _ hzz
          omega
        · intro x hx
          refine ⟨by omega, ?_⟩
          rcases hx with hx | hx
          · exact .inl hx
          · exact .inr ⟨k, hlt, hx⟩
        · by_cases e : i = k
          · subst e
            simp only [Nat.le_refl, if_true, show ¬ i + 1 ≤ i by omega, if_false, hKk]
            obtain ⟨q0, q1, q2, q3, q4⟩ := D2.out
            refine ⟨aV, gV, nV, cV, pV, kV, ⟨?_, ?_, ?_, ?_, ?_, ?_, LM2, r.inV, hsz, HKW0.out, HKW.out.symm⟩⟩
            · rw [hcc]; exact q0
            · rw [hcc]; exact q1
            · rw [hcc]; exact q2
            · rw [hcc]; exact q3
            · rw [hcc]; exact q4
            · rw [hcb _ (by omega) (by omega) (by omega) (by omega) (by omega)]; exact e5
          · have hi2 : i < k := by omega
            simp only [show i ≤ k by omega, show i + 1 ≤ k by omega, if_true]
            obtain ⟨aV', gV', nV', cV', pV', kV', r'⟩ := hm i hi2
            exact ⟨aV', gV', nV', cV', pV', kV', r'.frame F (fun x h1 h3 => by
              rcases h3 with h3 | h3
              · exact D.nb i x (by omega) h1 h3
              · exact e (D.one i k x (by omega) hlt h1 h3)) (fun o h1 h2 => hcb o (by omega) (by omega) (by omega) (by omega) (by omega))⟩
        · obtain ⟨v0', v1', v2', v3', v4', aV', gV', nV', cV', pV', r', z'⟩ := ho i (by omega) hi'
          exact ⟨v0', v1', v2', v3', v4', aV', gV', nV', cV', pV', r'.frame F (fun x h1 h3 => by
            rcases h3 with h3 | h3
            · exact D.nb i x hi' h1 h3
            · have := D.one i k x hi' hlt h1 h3; omega) (fun o h1 h2 => hcb o (by omega) (by omega) (by omega) (by omega) (by omega)), z'⟩
        · by_cases e : i ≤ k
          · simp only [e, if_true]; exact HKI.out i e
          · simp only [e, if_false]
            have h1 := HKz.out
            have h2 := HZ1.out
            have h5 := HPZ.out
            have h4 : nV * 8388609 ≤ z k * 8388609 := Nat.mul_le_mul_right _ hzz
            omega
      case measure => simp [intOf]; omega
    · have e : k = n := by omega
      subst e
      clear hK
      go_wp2
      go_ret
      exact ⟨K, hK0, HKI.out, rfl, hs, hm⟩

set_option maxHeartbeats 3200000 in
set_option maxRecDepth 100000 in
/-- heldNodeS at a list whose marks stand. -/
theorem heldNodeS_p (a : Option Addr) (c n cap k0 : Nat) (p : Nat → Nat → Prop) (K : Nat → Nat) (w : World) (hn : n ≤ 1048576) (hK0 : K 0 = k0) (ha : 0 < n → a = some ⟨c, 0, none⟩) (hKn : ∀ i, i ≤ n → K i ≤ 141000000000000) (H : DMs w c n p K) :
    Calls Tryz.prog 41 #[.slice a n cap, .int .i64 k0] w fun e w' => e = .returned (.int .i64 ((K n : Nat) : Int)) ∧ w' = w := by
  go_enter Tryz.func41, Tryz.ntmps41
  go_wp2
  go_loop [1, 5] (fun q i => ∃ k : Nat, k ≤ n ∧ i = .int .i64 k ∧ q = .int .i64 ((K k : Nat) : Int)) (fun _ i => n - (intOf i).toNat)
  case atStart => exact ⟨0, Nat.zero_le _, rfl, by rw [hK0]⟩
  case round =>
    obtain ⟨k, hk, rfl, rfl⟩ := hrel
    by_cases hlt : k < n
    · obtain ⟨aV, gV, nV, cV, pV, kV, r⟩ := H k hlt
      obtain rfl := ha (by omega)
      have g0 := r.c0
      have g1 := r.c1
      have g2 := r.c2
      have g3 := r.c3
      have g4 := r.c4
      have g5 := r.c5
      have zK := hKn k hk
      have hsz := r.sz
      have LV := r.V
      have h0 := hide r.k0
      have h2 := hide r.k2
      have zK1 := hKn (k + 1) (by omega)
      rw [r.k2] at zK1
      clear r
      generalize hKk : K k = Kk at *
      go_wp2_with fail
      rw [show ((Kk : Int) + 1 + 1 + 1 + 1 + 1) = ((Kk + 5 : Nat) : Int) by omega]
      refine (heldRatS_p aV gV nV cV pV kV (Kk + 5) w (by omega) (by omega) LV.ha h0.out LV.M).mono ?_
      rintro e w2 ⟨rfl, rfl⟩
      obtain ⟨kw, hkw⟩ : ∃ x, kV nV = x := ⟨_, rfl⟩
      rw [hkw] at zK1 ⊢
      have HKW := hide hkw
      clear hkw
      go_wp2
      go_round
      case rel => exact ⟨k + 1, by omega, by go_num, by rw [h2.out, HKW.out]⟩
      case measure => simp [intOf]; omega
    · have e : k = n := by omega
      subst e
      go_wp2
      go_ret
      exact ⟨rfl, rfl⟩

end Go.Proofs.YtnogbaapcjjngaaGreatDoor

namespace Go.Proofs.YtnogbaapcjjngaaGreatDoor
open Go.RowKit

/-- Nodes in blocks of their own. -/
structure NodQ (w : World) (a : Option Addr) (c n : Nat) (p : Nat → Nat → Prop) (z : Nat → Nat) : Prop where
  ha : 0 < n → a = some ⟨c, 0, none⟩
  D : DisP n p c
  f : 0 < n → ∀ o, w.frozen? ⟨c, o, none⟩ = false
  Q : DQs w c 0 n p z

section
variable {w w' : World} {S : Nat → Prop} {a : Option Addr} {c n : Nat} {p : Nat → Nat → Prop} {z K : Nat → Nat}
theorem NodQ.keep (h : NodQ w a c n p z) (s : w.Since w.heap.size w') : NodQ w' a c n p z :=
  ⟨h.ha, h.D, fun h0 o => by
    obtain ⟨_, _, _, _, _, _, _, _, _, _, r, -⟩ := h.Q 0 (Nat.le_refl _) h0
    have lt : c < w.heap.size := World.block_lt_of_cell? _ _ r.c0
    rw [s.frozen (a := ⟨c, o, none⟩) lt]; exact h.f h0 o, fun i h1 h2 => by
    obtain ⟨v0', v1', v2', v3', v4', aV', gV', nV', cV', pV', r', z'⟩ := h.Q i h1 h2
    exact ⟨v0', v1', v2', v3', v4', aV', gV', nV', cV', pV', r'.keep s, z'⟩⟩
theorem NodQ.frame (h : NodQ w a c n p z) (F : Fra w w' S) (hS : ∀ q, setQ c n p q → ¬ S q) : NodQ w' a c n p z :=
  ⟨h.ha, h.D, fun h0 o => by rw [F.frozen]; exact h.f h0 o, fun i h1 h2 => by
    obtain ⟨v0', v1', v2', v3', v4', aV', gV', nV', cV', pV', r', z'⟩ := h.Q i h1 h2
    exact ⟨v0', v1', v2', v3', v4', aV', gV', nV', cV', pV', r'.frame F (fun q hq => hS q ⟨by omega, .inr ⟨i, h2, hq⟩⟩) (fun o _ _ => F.cell (a := ⟨c, o, none⟩) (hS c ⟨by omega, .inl rfl⟩)), z'⟩⟩
theorem DMs.keep (h : DMs w c n p K) (s : w.Since w.heap.size w') : DMs w' c n p K := fun i hi => by
  obtain ⟨aV', gV', nV', cV', pV', kV', r'⟩ := h i hi
  exact ⟨aV', gV', nV', cV', pV', kV', r'.keep s⟩
end

/-- The blocks of a graph. -/
def setG (gL nL : Nat) (pL : Nat → Nat → Prop) (gH nH : Nat) (pH : Nat → Nat → Prop) (c nN : Nat) (p : Nat → Nat → Prop) (q : Nat) : Prop := setQ gL nL pL q ∨ setQ gH nH pH q ∨ setQ c nN p q

/-- A graph in blocks of its own. -/
structure GrQ (w : World) (aL : Option Addr) (gL nL : Nat) (pL : Nat → Nat → Prop) (aH : Option Addr) (gH nH : Nat) (pH : Nat → Nat → Prop) (aN : Option Addr) (c nN : Nat) (p : Nat → Nat → Prop) (z : Nat → Nat) : Prop where
  L : LQ w aL gL nL pL
  H : LQ w aH gH nH pH
  N : NodQ w aN c nN p z
  LH : ∀ q, setQ gL nL pL q → ¬ setQ gH nH pH q
  LN : ∀ q, setQ gL nL pL q → ¬ setQ c nN p q
  HN : ∀ q, setQ gH nH pH q → ¬ setQ c nN p q

/-- .. whose marks stand. -/
structure GrM (w : World) (k0 : Nat) (aL : Option Addr) (gL nL : Nat) (pL : Nat → Nat → Prop) (aH : Option Addr) (gH nH : Nat) (pH : Nat → Nat → Prop) (c nN : Nat) (p : Nat → Nat → Prop) (KL KH K : Nat → Nat) : Prop where
  L : LM w aL gL nL pL KL
  H : LM w aH gH nH pH KH
  N : DMs w c nN p K
  e0 : KL 0 = k0
  e1 : KH 0 = KL nL
  e2 : K 0 = KH nH
  b1 : KL nL ≤ 70000000000000
  b2 : KH nH ≤ 70000000000000
  b3 : ∀ i, i ≤ nN → K i ≤ 141000000000000

theorem GrQ.keep {w w' : World} {aL aH aN : Option Addr} {gL nL gH nH c nN : Nat} {pL pH p : Nat → Nat → Prop} {z : Nat → Nat} (h : GrQ w aL gL nL pL aH gH nH pH aN c nN p z) (s : w.Since w.heap.size w') : GrQ w' aL gL nL pL aH gH nH pH aN c nN p z :=
  ⟨h.L.keep s, h.H.keep s, h.N.keep s, h.LH, h.LN, h.HN⟩

set_option maxHeartbeats 1600000 in
set_option maxRecDepth 100000 in
/-- markGraph at a graph in blocks of its own. -/
theorem markGraph_p (u0 u1 u5 : Int) (aL aH aN : Option Addr) (gL nL cL gH nH cH c nN cN k0 : Nat) (pL pH p : Nat → Nat → Prop) (z : Nat → Nat) (w : World) (hL : nL ≤ 1048576) (hH : nH ≤ 1048576) (hN : nN ≤ 1048576) (hk0 : k0 ≤ 1000000) (hz : ∀ i, i ≤ nN → psN z i ≤ 2097152)
    (Q : GrQ w aL gL nL pL aH gH nH pH aN c nN p z) (hlt : ∀ q, setG gL nL pL gH nH pH c nN p q → q < w.heap.size) :
    Calls Tryz.prog 14 #[.agg #[.int .i64 u0, .int .i64 u1, .slice aL nL cL, .slice aH nH cH, .slice aN nN cN, .int .i64 u5], .int .i64 k0] w fun e w' => ∃ KL KH K : Nat → Nat, e = .returned (.int .i64 ((K nN : Nat) : Int)) ∧ ∃ w1, w.Since w.heap.size w1 ∧ Fra w1 w' (setG gL nL pL gH nH pH c nN p) ∧ GrM w' k0 aL gL nL pL aH gH nH pH c nN p KL KH K := by
  have sA : w.Since w.heap.size (w.alloc (.cells #[.int .i64 u0, .int .i64 u1, .slice aL nL cL, .slice aH nH cH, .slice aN nN cN, .int .i64 u5] 33)) := (World.Since.refl _ _).alloc (Nat.le_refl _) _
  have oA := Box6.new w (.int .i64 u0) (.int .i64 u1) (.slice aL nL cL) (.slice aH nH cH) (.slice aN nN cN) (.int .i64 u5) 33
  have nL0 : ¬ setQ gL nL pL w.heap.size := fun h => by have := hlt _ (Or.inl h); omega
  have nH0 : ¬ setQ gH nH pH w.heap.size := fun h => by have := hlt _ (Or.inr (Or.inl h)); omega
  go_enter Tryz.func14, Tryz.ntmps14
  go_wp2_with fail
  generalize w.alloc (.cells #[.int .i64 u0, .int .i64 u1, .slice aL nL cL, .slice aH nH cH, .slice aN nN cN, .int .i64 u5] 33) = w1 at *
  have Q1 := hide (Q.keep sA)
  clear Q
  refine (markRatS_q cL k0 hL (by omega) Q1.out.L).mono ?_
  rintro e w2 ⟨KL, hK0, hK, rfl, F1, M1⟩
  have i3 : w2.cell? ⟨w.heap.size, 3, none⟩ = some (.slice aH nH cH) := by rw [F1.cell (a := ⟨w.heap.size, 3, none⟩) nL0]; exact oA.c3
  have i4 : w2.cell? ⟨w.heap.size, 4, none⟩ = some (.slice aN nN cN) := by rw [F1.cell (a := ⟨w.heap.size, 4, none⟩) nL0]; exact oA.c4
  obtain ⟨x1, hx1⟩ : ∃ x, KL nL = x := ⟨_, rfl⟩
  rw [hx1] at hK ⊢
  have HX1 := hide hx1
  have HK0 := hide hK0
  have HM1 := hide M1
  clear hx1 hK0 M1
  go_wp2_with fail
  refine (markRatS_q cH x1 hH (by omega) (Q1.out.H.frame F1 (fun q h0 h1 => Q1.out.LH q h1 h0))).mono ?_
  rintro e w3 ⟨KH, hK0, hKH, rfl, F2, M2⟩
  have j4 : w3.cell? ⟨w.heap.size, 4, none⟩ = some (.slice aN nN cN) := by rw [F2.cell (a := ⟨w.heap.size, 4, none⟩) nH0]; exact i4
  obtain ⟨x2, hx2⟩ : ∃ x, KH nH = x := ⟨_, rfl⟩
  rw [hx2] at hKH ⊢
  have HX2 := hide hx2
  have HK1 := hide hK0
  have HM2 := hide M2
  clear hx2 hK0 M2 i3 i4
  go_wp2_with fail
  have N3 := ((Q1.out.N.frame F1 (fun q h0 h1 => Q1.out.LN q h1 h0)).frame F2 (fun q h0 h1 => Q1.out.HN q h1 h0))
  refine (markNodeS_p aN c nN cN x2 p z w3 hN (by omega) hz N3.ha N3.D N3.f N3.Q).mono ?_
  rintro e w4 ⟨K, hK0, hKN, rfl, F3, M3⟩
  obtain ⟨x3, hx3⟩ : ∃ x, K nN = x := ⟨_, rfl⟩
  rw [hx3]
  have HX3 := hide hx3
  have HK2 := hide hK0
  have HM3 := hide M3
  have HKN := hide hKN
  clear hx3 hK0 M3 N3 hKN
  go_wp2
  go_ret
  exact ⟨KL, KH, K, by rw [HX3.out]; rfl, w1, sA, ((F1.mono (fun x h0 => Or.inl h0)).trans (F2.mono (fun x h0 => Or.inr (Or.inl h0)))).trans (F3.mono (fun x h0 => Or.inr (Or.inr h0))),
    (HM1.out.frame F2 (fun q h0 h1 => Q1.out.LH q h0 h1)).frame F3 (fun q h0 h1 => Q1.out.LN q h0 h1), HM2.out.frame F3 (fun q h0 h1 => Q1.out.HN q h0 h1), HM3.out, HK0.out, by rw [HK1.out, HX1.out], by rw [HK2.out, HX2.out], by rw [HX1.out]; omega, by rw [HX2.out]; omega, HKN.out⟩

set_option maxHeartbeats 1600000 in
set_option maxRecDepth 100000 in
/-- heldGraph at a graph whose marks stand. -/
theorem heldGraph_p (u0 u1 u5 : Int) (aL aH aN : Option Addr) (gL nL cL gH nH cH c nN cN k0 : Nat) (pL pH p : Nat → Nat → Prop) (KL KH K : Nat → Nat) (w : World) (hL : nL ≤ 1048576) (hH : nH ≤ 1048576) (hN : nN ≤ 1048576) (hk0 : k0 ≤ 1000000) (ha : 0 < nN → aN = some ⟨c, 0, none⟩)
    (M : GrM w k0 aL gL nL pL aH gH nH pH c nN p KL KH K) :
    Calls Tryz.prog 15 #[.agg #[.int .i64 u0, .int .i64 u1, .slice aL nL cL, .slice aH nH cH, .slice aN nN cN, .int .i64 u5], .int .i64 k0] w fun e w' => e = .returned (.int .i64 ((K nN : Nat) : Int)) ∧ w.Since w.heap.size w' := by
  have sA : w.Since w.heap.size (w.alloc (.cells #[.int .i64 u0, .int .i64 u1, .slice aL nL cL, .slice aH nH cH, .slice aN nN cN, .int .i64 u5] 33)) := (World.Since.refl _ _).alloc (Nat.le_refl _) _
  have oA := Box6.new w (.int .i64 u0) (.int .i64 u1) (.slice aL nL cL) (.slice aH nH cH) (.slice aN nN cN) (.int .i64 u5) 33
  have i2 := oA.c2
  have i3 := oA.c3
  have i4 := oA.c4
  have ML := hide (M.L.keep sA)
  have MH := hide (M.H.keep sA)
  have MN := hide (M.N.keep sA)
  have z1 := M.b1
  have z2 := M.b2
  have z3 := M.b3 nN (Nat.le_refl _)
  have HM := hide M
  clear M
  obtain ⟨x1, hx1⟩ : ∃ x, KL nL = x := ⟨_, rfl⟩
  obtain ⟨x2, hx2⟩ : ∃ x, KH nH = x := ⟨_, rfl⟩
  obtain ⟨x3, hx3⟩ : ∃ x, K nN = x := ⟨_, rfl⟩
  rw [hx1] at z1
  rw [hx2] at z2
  rw [hx3] at z3 ⊢
  have HX1 := hide hx1
  have HX2 := hide hx2
  have HX3 := hide hx3
  have n1 : ¬ ((x1 : Int) < 0) := by omega
  have n2 : ¬ ((x2 : Int) < 0) := by omega
  have n3 : ¬ ((x3 : Int) < 0) := by omega
  clear hx1 hx2 hx3
  go_enter Tryz.func15, Tryz.ntmps15
  go_wp2_with fail
  generalize w.alloc (.cells #[.int .i64 u0, .int .i64 u1, .slice aL nL cL, .slice aH nH cH, .slice aN nN cN, .int .i64 u5] 33) = w1 at *
  refine (heldRatS_p aL gL nL cL pL KL k0 w1 hL (by omega) ML.out.ha HM.out.e0 ML.out.M).mono ?_
  rintro e w2 ⟨rfl, rfl⟩
  rw [HX1.out]
  go_wp2_with fail
  refine (heldRatS_p aH gH nH cH pH KH x1 _ hH (by omega) MH.out.ha (by rw [HM.out.e1, HX1.out]) MH.out.M).mono ?_
  rintro e w3 ⟨rfl, rfl⟩
  rw [HX2.out]
  go_wp2_with fail
  refine (heldNodeS_p aN c nN cN x2 p K _ hN (by rw [HM.out.e2, HX2.out]) ha HM.out.b3 MN.out).mono ?_
  rintro e w4 ⟨rfl, rfl⟩
  rw [HX3.out]
  go_wp2
  go_ret
  exact ⟨rfl, sA⟩

end Go.Proofs.YtnogbaapcjjngaaGreatDoor

namespace Go.Proofs.YtnogbaapcjjngaaGreatDoor
open Go.RowKit

/-- A truth value that says whether P. -/
def RetB (w : World) (P : Prop) (e : Ending) (w' : World) : Prop := ∃ r : Bool, e = .returned (.bool r) ∧ (r = true ↔ P) ∧ w.Since w.heap.size w'
theorem RetB.yes {w w' : World} {P : Prop} (h : P) (s : w.Since w.heap.size w') : RetB w P (.returned (.bool true)) w' := ⟨true, rfl, by simp [h], s⟩
theorem RetB.no {w w' : World} {P : Prop} (h : ¬ P) (s : w.Since w.heap.size w') : RetB w P (.returned (.bool false)) w' := ⟨false, rfl, by simp [h], s⟩

set_option maxHeartbeats 1600000 in
set_option maxRecDepth 100000 in
theorem l2IsInt_q (x : ByteArray) (w : World) (hx : x.size ≤ 100000) :
    Calls Tryz.prog 51 #[.string x] w fun e w' => RetB w (isInt x) e w' := by
  go_enter Tryz.func51, Tryz.ntmps51
  go_wp2_with fail
  refine (l1Digits_any x w (by omega)).mono ?_
  rintro e w1 ⟨rfl, sm⟩
  have s1 : w.Since w.heap.size w1 := sm.since _
  cases hd : digB x
  · have HD := hide hd
    clear hd
    go_wp2
    go_ret
    exact ⟨_, rfl, by unfold isInt; rw [HD.out]; simp, s1⟩
  · have HD := hide hd
    clear hd
    go_wp2
    go_ret
    exact ⟨_, rfl, by unfold isInt; rw [HD.out]; simp; omega, s1⟩

theorem dv_congr {x y : ByteArray} {k : Nat} (h : ∀ j, j < k → bt x j = bt y j) : dv x k = dv y k := by
  induction k with
  | zero => rfl
  | succ k ih => rw [dv, dv, ih (fun j hj => h j (by omega)), h k (by omega)]

set_option maxHeartbeats 3200000 in
set_option maxRecDepth 100000 in
theorem l2Int_q : ∀ (n : Nat) (x : ByteArray) (w : World), x.size = n → n ≤ 6 → (∀ j, j < n → 48 ≤ bt x j ∧ bt x j ≤ 57) →
    Calls Tryz.prog 21 #[.string x] w fun e w' => e = .returned (.int .i64 ((dv x n : Nat) : Int)) ∧ w.Since w.heap.size w' := by
  intro n
  induction n with
  | zero =>
    intro x w hx _ _
    have hz : (x.size : Int) = 0 := by omega
    go_enter Tryz.func21, Tryz.ntmps21
    go_wp2
    go_ret
    exact ⟨by simp [dv], World.Since.refl _ _⟩
  | succ n ih =>
    intro x w hx hn hd
    have dr : w.Since w.heap.size w.drew := (World.Since.refl _ _).drew
    have hxs := sz_ext x (i := 0) (j := n) (Nat.zero_le _) (by omega)
    have J := ih (x.extract 0 n) w.drew (by omega) (by omega) (fun j hj => by rw [bt_ext x (by omega), Nat.zero_add]; exact hd j (by omega))
    have HE : dv (x.extract 0 n) n = dv x n := dv_congr (fun j hj => by rw [bt_ext x (by omega), Nat.zero_add])
    rw [HE] at J
    have hln : n < x.size := by omega
    have hb := bt_in hln
    have hxd := hd n (by omega)
    obtain ⟨y, hy⟩ : ∃ y, bt x n = y + 48 := ⟨bt x n - 48, by omega⟩
    have HS : Hid (dv x (n + 1) = dv x n * 10 + y) := hide (by rw [dv, hy, Nat.add_sub_cancel])
    rw [hy] at hb hxd
    have hdl : dv x n ≤ 1000000 := by
      have h1 := dv_lim (x := x) (k := n) (fun j hj => hd j (by omega))
      have h2 : 10 ^ n ≤ 10 ^ 6 := Nat.pow_le_pow_right (by omega) (by omega)
      omega
    obtain ⟨V, hV⟩ : ∃ V, dv x n = V := ⟨_, rfl⟩
    rw [hV] at hdl HS J
    have hw2 : ((y + 48 : Nat) : Int) - 48 = (y : Int) := by omega
    have hw3 : (y : Int) + 48 - 48 = (y : Int) := by omega
    have hw1 : IntKind.u8.wrap (y : Int) = (y : Int) := by have := u8_sub (y + 48) (by omega) (by omega); rw [hw2] at this; rw [this]; omega
    have hw4 : IntKind.i64.wrap ((V : Int) * 10) = (V : Int) * 10 := by rw [IntKind.wrap_i64]; omega
    have hw5 : IntKind.i64.wrap (y : Int) = (y : Int) := by rw [IntKind.wrap_i64]; omega
    have hw6 : IntKind.i64.wrap ((V : Int) * 10 + (y : Int)) = (V : Int) * 10 + (y : Int) := by rw [IntKind.wrap_i64]; omega
    have hz : ¬ (x.size : Int) = 0 := by omega
    have hz1 : IntKind.i64.wrap ((x.size : Int) - 1) = (n : Int) := by rw [IntKind.wrap_i64]; omega
    have hle : n ≤ x.size := by omega
    have hle' : (n : Int) ≤ (x.size : Int) := by omega
    have hnn : ¬ ((x.size : Int) < (n : Int)) := by omega
    have hn0 : ¬ ((n : Int) < 0) := by omega
    have HX := hide hx
    clear hy hV HE ih hx
    go_enter Tryz.func21, Tryz.ntmps21
    go_wp2_with fail
    go_region_held_law (fun _ => True) (go_keep)
      (first
        | (go_at_call 21
           with_reducible refine J.mono ?_
           rintro e w2 ⟨rfl, s2⟩
           have v2 : w.Since w.heap.size w2 := dr.trans (sinceMono s2 dr.size)))
    all_goals
      go_wp2
      go_ret
      exact ⟨by rw [HS.out]; simp, v2⟩

theorem l2Int_d (x : ByteArray) (w : World) (h : isInt x) :
    Calls Tryz.prog 21 #[.string x] w fun e w' => e = .returned (.int .i64 ((dv x x.size : Nat) : Int)) ∧ w.Since w.heap.size w' :=
  l2Int_q x.size x w rfl h.2 (fun j hj => digB_digs' h.1 j hj)

set_option maxHeartbeats 1600000 in
set_option maxRecDepth 100000 in
theorem l2IsNum_q (x : ByteArray) (w : World) (hx : x.size ≤ 100000) :
    Calls Tryz.prog 52 #[.string x] w fun e w' => RetB w (numOk x) e w' := by
  have J := specRatParse_any x w (by omega)
  have HN : numOk x ↔ (parseO x).2.2.2 = 0 := Iff.rfl
  obtain ⟨c, hc⟩ : ∃ c, (parseO x).2.2.2 = c := ⟨_, rfl⟩
  rw [hc] at J HN
  clear hc
  go_enter Tryz.func52, Tryz.ntmps52
  go_wp2_with fail
  refine J.mono ?_
  rintro e w1 ⟨v, rfl, ⟨v1, v2, g1, g2, rfl, N1, N2, -⟩, s1⟩
  obtain ⟨a1, q1, c1, Y1, rfl, -⟩ := N1
  obtain ⟨a2, q2, c2, Y2, rfl, -⟩ := N2
  have sB : w1.Since w1.heap.size (w1.alloc (.cells #[.bool (parseO x).1, .slice a1 q1 c1, .slice a2 q2 c2] 61)) := (World.Since.refl _ _).alloc (Nat.le_refl _) _
  have SB : w.Since w.heap.size _ := s1.trans (sinceMono sB s1.size)
  go_wp2
  go_ret
  exact ⟨_, rfl, by rw [HN]; simp, SB⟩

set_option maxHeartbeats 1600000 in
set_option maxRecDepth 100000 in
theorem l2Num_q (x : ByteArray) (w : World) (hx : x.size ≤ 100000) :
    Calls Tryz.prog 32 #[.string x] w fun e w' => ∃ v, e = .returned v ∧ WordR w' (fun g => w.heap.size ≤ g) v x ∧ w.Since w.heap.size w' := by
  have sA : w.Since w.heap.size (w.alloc (.cells #[.bool false, .slice none 0 0, .slice none 0 0] 61)) := (World.Since.refl _ _).alloc (Nat.le_refl _) _
  have rA := Box3.new w (.bool false) (.slice none 0 0) (.slice none 0 0) 61
  have zA : Hid ((w.alloc (.cells #[.bool false, .slice none 0 0, .slice none 0 0] 61)).heap.size = w.heap.size + 1) := hide (by simp)
  go_enter Tryz.func32, Tryz.ntmps32
  go_wp2_with fail
  generalize w.alloc (.cells #[.bool false, .slice none 0 0, .slice none 0 0] 61) = wA at *
  refine (specRatParse_any x wA (by omega)).mono ?_
  rintro e w1 ⟨v, rfl, RV, s1⟩
  have W1 := RV.w
  obtain ⟨v1, v2, g1, g2, rfl, N1, N2, -, -, -⟩ := RV
  obtain ⟨a1, q1, c1, Y1, rfl, -⟩ := N1
  obtain ⟨a2, q2, c2, Y2, rfl, -⟩ := N2
  have W1 : WordR w1 (fun q => wA.heap.size ≤ q) (.agg #[.bool (parseO x).1, .slice a1 q1 c1, .slice a2 q2 c2]) x := W1
  obtain ⟨nb, hnb⟩ : ∃ b, (parseO x).1 = b := ⟨_, rfl⟩
  rw [hnb] at W1 ⊢
  have S1 : w.Since w.heap.size w1 := sA.trans (sinceMono s1 sA.size)
  have sB : w1.Since w1.heap.size (w1.alloc (.cells #[.bool nb, .slice a1 q1 c1, .slice a2 q2 c2] 61)) := (World.Since.refl _ _).alloc (Nat.le_refl _) _
  have SB := S1.trans (sinceMono sB S1.size)
  have W2 : WordR (w1.alloc (.cells #[.bool nb, .slice a1 q1 c1, .slice a2 q2 c2] 61)) (fun q => wA.heap.size ≤ q) (.agg #[.bool nb, .slice a1 q1 c1, .slice a2 q2 c2]) x := RatW.keep W1 sB
  have nB := Box3.new w1 (.bool nb) (.slice a1 q1 c1) (.slice a2 q2 c2) 61
  have r := (rA.keep s1).keep sB
  have r0 := r.c0
  have r1 := r.c1
  have r2 := r.c2
  have f0 := r.f 0
  have f1 := r.f 1
  have f2 := r.f 2
  have n0 := nB.c0
  have n1 := nB.c1
  have n2 := nB.c2
  clear hnb
  go_wp2
  have rC := ((r.set0 (.bool nb)).set1 (.slice a1 q1 c1)).set2 (.slice a2 q2 c2)
  refine bodyPost_ret (results_box3 rfl _ _ _ _ _ _ rfl rC) rfl ?_
  have M : Marked (w1.alloc (.cells #[.bool nb, .slice a1 q1 c1, .slice a2 q2 c2] 61)) _ w.heap.size := (((Marked.refl _ _).setCell 0 (.bool nb)).setCell 1 (.slice a1 q1 c1)).setCell 2 (.slice a2 q2 c2)
  have zA' := zA.out
  exact ⟨_, rfl, RatW.imp (RatW.blocks W2 (Nat.le_of_eq M.size.symm) (fun g hg hp => M.other g (by omega))) (fun g _ h => by omega), SB.trans (M.since (by omega))⟩

end Go.Proofs.YtnogbaapcjjngaaGreatDoor

namespace Go.Proofs.YtnogbaapcjjngaaGreatDoor
open Go.RowKit

/-- What l2Shape asks of a line. -/
def shapeOk (ws : List ByteArray) (nm : ByteArray) (ints least : Nat) (most : Int) : Prop :=
  ws.head? = some nm ∧ 1 + ints + least ≤ ws.length ∧ (0 ≤ most → (ws.length : Int) ≤ 1 + ints + most) ∧ ∀ i, 1 ≤ i → i < ws.length → (i ≤ ints → isInt (wd ws i)) ∧ (ints < i → numOk (wd ws i))

theorem wd_get {ws : List ByteArray} {i : Nat} (h : i < ws.length) : ws[i]? = some (wd ws i) := by
  unfold wd
  rw [List.getD_eq_getElem?_getD, List.getElem?_eq_getElem h]; rfl

set_option maxHeartbeats 6400000 in
set_option maxRecDepth 100000 in
theorem l2Shape_q (nm : ByteArray) (ints least : Nat) (most : Int) (a : Option Addr) (wb off cap : Nat) (ws : List ByteArray) (w : World) (hc : ∀ (j : Nat) (x : ByteArray), ws[j]? = some x → a = some ⟨wb, off, none⟩ ∧ w.cell? ⟨wb, off + j, none⟩ = some (.string x)) (hz : ∀ x ∈ ws, x.size ≤ 100000) (h0 : 0 < ws.length) (hl : ws.length ≤ 100001)
    (hi : ints ≤ 10) (hle : least ≤ 10) (hm : -1 ≤ most) (hm' : most ≤ 10) :
    Calls Tryz.prog 19 #[.slice a ws.length cap, .string nm, .int .i64 (ints : Int), .int .i64 (least : Int), .int .i64 most] w fun e w' => RetB w (shapeOk ws nm ints least most) e w' := by
  have hx0 := wd_get h0
  obtain ⟨rfl, c0⟩ := hc 0 _ hx0
  have HC : Hid (∀ i, i < ws.length → w.cell? ⟨wb, off + i, none⟩ = some (.string (wd ws i))) := hide (fun i hi => (hc i _ (wd_get hi)).2)
  have HZ : Hid (∀ i, i < ws.length → (wd ws i).size ≤ 100000) := hide (fun i hi => hz _ (wd_mem hi))
  have HH : Hid (ws.head? = some (wd ws 0)) := hide (by rw [← hx0]; cases ws <;> rfl)
  have HS : Hid (∀ P : Prop, P = shapeOk ws nm ints least most → P = (ws.head? = some nm ∧ 1 + ints + least ≤ ws.length ∧ (0 ≤ most → (ws.length : Int) ≤ 1 + ints + most) ∧ ∀ i, 1 ≤ i → i < ws.length → (i ≤ ints → isInt (wd ws i)) ∧ (ints < i → numOk (wd ws i)))) := hide (fun P h => h)
  obtain ⟨x0, hx⟩ : ∃ x, wd ws 0 = x := ⟨_, rfl⟩
  obtain ⟨L, hL⟩ : ∃ L, ws.length = L := ⟨_, rfl⟩
  obtain ⟨SH, hSH⟩ : ∃ P, P = shapeOk ws nm ints least most := ⟨_, rfl⟩
  have HS := hide (HS.out _ hSH)
  rw [← hSH]
  rw [hx] at c0 HH
  rw [hL] at h0 hl HC HZ HS ⊢
  clear hx0 hc hz hSH hx
  have HL := hide hL
  clear hL
  rw [Nat.add_zero] at c0
  have hL0 : (0 : Int) < (L : Int) := by omega
  by_cases hn : x0.toList = nm.toList
  rotate_left
  · have hbe : (x0.toList == nm.toList) = false := by simpa using hn
    have HN := hide (fun e : x0 = nm => hn (str_eq.2 e))
    clear hn
    go_enter Tryz.func19, Tryz.ntmps19
    go_wp2
    go_ret
    exact RetB.no (by
      rw [HS.out, HH.out]
      exact fun h => HN.out (by simpa using h.1)) (World.Since.refl _ _)
  have hbe : (x0.toList == nm.toList) = true := by simpa using hn
  have HN := hide (str_eq.1 hn)
  clear hn
  by_cases h1 : L < 1 + ints + least
  · have h1' : (L : Int) < 1 + (ints : Int) + (least : Int) := by omega
    go_enter Tryz.func19, Tryz.ntmps19
    go_wp2
    go_ret
    exact RetB.no (by
      rw [HS.out]
      exact fun h => by have := h.2.1; omega) (World.Since.refl _ _)
  have h1' : ¬ (L : Int) < 1 + (ints : Int) + (least : Int) := by omega
  have hmm : most = -1 ∨ (0 ≤ most ∧ 1 + (ints : Int) + most < (L : Int)) ∨ (0 ≤ most ∧ ¬ 1 + (ints : Int) + most < (L : Int)) := by omega
  rcases hmm with hm0 | ⟨hm0, hm1⟩ | ⟨hm0, hm1⟩
  rotate_left
  · go_enter Tryz.func19, Tryz.ntmps19
    go_wp2
    go_ret
    exact RetB.no (by
      rw [HS.out]
      exact fun h => by have := h.2.2.1 hm0; omega) (World.Since.refl _ _)
  rotate_left
  · subst hm0
    have HM : Hid ((0 : Int) ≤ -1 → (L : Int) ≤ 1 + (ints : Int) + -1) := hide (fun h => absurd h (by decide))
    go_enter Tryz.func19, Tryz.ntmps19
    go_wp2_with fail
    go_loopw [11] (fun i wr => ∃ (k : Nat), 1 ≤ k ∧ k ≤ L ∧ i = .int .i64 (k : Int) ∧ w.Since w.heap.size wr ∧ Hid (∀ i, 1 ≤ i → i < k → (i ≤ ints → isInt (wd ws i)) ∧ (ints < i → numOk (wd ws i)))) (fun i _ => L - (intOf i).toNat)
    case atStart => exact ⟨1, Nat.le_refl _, by omega, rfl, World.Since.refl _ _, hide (fun i h1 h2 => absurd h1 (by omega))⟩
    case round =>
      obtain ⟨k, hk1, hkL, rfl, S, HK⟩ := hrel
      by_cases hlt : k < L
      · have hzk : (k : Int) < (L : Int) := by omega
        have ck : wr.cell? ⟨wb, off + k, none⟩ = some (.string (wd ws k)) := (S.cell (a := ⟨wb, off + k, none⟩) (World.block_lt_of_cell? _ _ (HC.out k hlt))).trans (HC.out k hlt)
        have hsz := HZ.out k hlt
        obtain ⟨x, hx⟩ : ∃ x, wd ws k = x := ⟨_, rfl⟩
        rw [hx] at ck hsz
        have HX := hide hx
        clear hx
        by_cases hki : k ≤ ints
        · have hk2 : (k : Int) ≤ (ints : Int) := by omega
          have hk3 : ¬ (ints : Int) < (k : Int) := by omega
          go_wp2_with fail
          refine (l2IsInt_q x wr hsz).mono ?_
          rintro e w2 ⟨r, rfl, ir, s2⟩
          have S2 := S.trans (sinceMono s2 S.size)
          have IR := hide ir
          clear ir
          cases r
          · go_wp2
            go_ret
            exact RetB.no (by
              rw [HS.out]
              exact fun h => by
                have h := h.2.2.2 k hk1 hlt
                have := h.1 hki
                rw [HX.out] at this
                have := IR.out.2 this
                simp at this) S2
          · have HK2 : Hid (∀ i, 1 ≤ i → i < k + 1 → (i ≤ ints → isInt (wd ws i)) ∧ (ints < i → numOk (wd ws i))) := hide (fun i h1 h2 => by
              by_cases e : i = k
              · subst e
                exact ⟨fun _ => by rw [HX.out]; exact IR.out.1 (by simp), fun h => absurd h (by omega)⟩
              · exact HK.out i h1 (by omega))
            go_wp2
            go_roundw
            case rel => exact ⟨k + 1, by omega, by omega, by go_num, S2, HK2⟩
            case measure => simp [intOf]; omega
        · have hk2 : ¬ (k : Int) ≤ (ints : Int) := by omega
          have hk3 : (ints : Int) < (k : Int) := by omega
          go_wp2_with fail
          refine (l2IsNum_q x wr hsz).mono ?_
          rintro e w2 ⟨r, rfl, ir, s2⟩
          have S2 := S.trans (sinceMono s2 S.size)
          have IR := hide ir
          clear ir
          cases r
          · go_wp2
            go_ret
            exact RetB.no (by
              rw [HS.out]
              exact fun h => by
                have h := h.2.2.2 k hk1 hlt
                have := h.2 (by omega)
                rw [HX.out] at this
                have := IR.out.2 this
                simp at this) S2
          · have HK2 : Hid (∀ i, 1 ≤ i → i < k + 1 → (i ≤ ints → isInt (wd ws i)) ∧ (ints < i → numOk (wd ws i))) := hide (fun i h1 h2 => by
              by_cases e : i = k
              · subst e
                exact ⟨fun h => absurd h (by omega), fun _ => by rw [HX.out]; exact IR.out.1 (by simp)⟩
              · exact HK.out i h1 (by omega))
            go_wp2
            go_roundw
            case rel => exact ⟨k + 1, by omega, by omega, by go_num, S2, HK2⟩
            case measure => simp [intOf]; omega
      · have e : k = L := by omega
        subst e
        have hzk : ¬ ((k : Int) < (k : Int)) := by omega
        go_wp2
        go_ret
        exact RetB.yes (by
          rw [HS.out]
          exact ⟨by rw [HH.out, HN.out], by omega, HM.out, HK.out⟩) S
  · have HM : Hid (0 ≤ most → (L : Int) ≤ 1 + (ints : Int) + most) := hide (fun h => by omega)
    go_enter Tryz.func19, Tryz.ntmps19
    go_wp2_with fail
    go_loopw [11] (fun i wr => ∃ (k : Nat), 1 ≤ k ∧ k ≤ L ∧ i = .int .i64 (k : Int) ∧ w.Since w.heap.size wr ∧ Hid (∀ i, 1 ≤ i → i < k → (i ≤ ints → isInt (wd ws i)) ∧ (ints < i → numOk (wd ws i)))) (fun i _ => L - (intOf i).toNat)
    case atStart => exact ⟨1, Nat.le_refl _, by omega, rfl, World.Since.refl _ _, hide (fun i h1 h2 => absurd h1 (by omega))⟩
    case round =>
      obtain ⟨k, hk1, hkL, rfl, S, HK⟩ := hrel
      by_cases hlt : k < L
      · have hzk : (k : Int) < (L : Int) := by omega
        have ck : wr.cell? ⟨wb, off + k, none⟩ = some (.string (wd ws k)) := (S.cell (a := ⟨wb, off + k, none⟩) (World.block_lt_of_cell? _ _ (HC.out k hlt))).trans (HC.out k hlt)
        have hsz := HZ.out k hlt
        obtain ⟨x, hx⟩ : ∃ x, wd ws k = x := ⟨_, rfl⟩
        rw [hx] at ck hsz
        have HX := hide hx
        clear hx
        by_cases hki : k ≤ ints
        · have hk2 : (k : Int) ≤ (ints : Int) := by omega
          have hk3 : ¬ (ints : Int) < (k : Int) := by omega
          go_wp2_with fail
          refine (l2IsInt_q x wr hsz).mono ?_
          rintro e w2 ⟨r, rfl, ir, s2⟩
          have S2 := S.trans (sinceMono s2 S.size)
          have IR := hide ir
          clear ir
          cases r
          · go_wp2
            go_ret
            exact RetB.no (by
              rw [HS.out]
              exact fun h => by
                have h := h.2.2.2 k hk1 hlt
                have := h.1 hki
                rw [HX.out] at this
                have := IR.out.2 this
                simp at this) S2
          · have HK2 : Hid (∀ i, 1 ≤ i → i < k + 1 → (i ≤ ints → isInt (wd ws i)) ∧ (ints < i → numOk (wd ws i))) := hide (fun i h1 h2 => by
              by_cases e : i = k
              · subst e
                exact ⟨fun _ => by rw [HX.out]; exact IR.out.1 (by simp), fun h => absurd h (by omega)⟩
              · exact HK.out i h1 (by omega))
            go_wp2
            go_roundw
            case rel => exact ⟨k + 1, by omega, by omega, by go_num, S2, HK2⟩
            case measure => simp [intOf]; omega
        · have hk2 : ¬ (k : Int) ≤ (ints : Int) := by omega
          have hk3 : (ints : Int) < (k : Int) := by omega
          go_wp2_with fail
          refine (l2IsNum_q x wr hsz).mono ?_
          rintro e w2 ⟨r, rfl, ir, s2⟩
          have S2 := S.trans (sinceMono s2 S.size)
          have IR := hide ir
          clear ir
          cases r
          · go_wp2
            go_ret
            exact RetB.no (by
              rw [HS.out]
              exact fun h => by
                have h := h.2.2.2 k hk1 hlt
                have := h.2 (by omega)
                rw [HX.out] at this
                have := IR.out.2 this
                simp at this) S2
          · have HK2 : Hid (∀ i, 1 ≤ i → i < k + 1 → (i ≤ ints → isInt (wd ws i)) ∧ (ints < i → numOk (wd ws i))) := hide (fun i h1 h2 => by
              by_cases e : i = k
              · subst e
                exact ⟨fun h => absurd h (by omega), fun _ => by rw [HX.out]; exact IR.out.1 (by simp)⟩
              · exact HK.out i h1 (by omega))
            go_wp2
            go_roundw
            case rel => exact ⟨k + 1, by omega, by omega, by go_num, S2, HK2⟩
            case measure => simp [intOf]; omega
      · have e : k = L := by omega
        subst e
        have hzk : ¬ ((k : Int) < (k : Int)) := by omega
        go_wp2
        go_ret
        exact RetB.yes (by
          rw [HS.out]
          exact ⟨by rw [HH.out, HN.out], by omega, HM.out, HK.out⟩) S

end Go.Proofs.YtnogbaapcjjngaaGreatDoor

namespace Go.Proofs.YtnogbaapcjjngaaGreatDoor
open Go.RowKit

theorem infoLine : ∃ i, Tryz.prog.info? 47 = some i ∧ i.zero = some (.agg #[.int .i64 0, .slice none 0 0]) ∧ i.size = 2 ∧ i.bytes = 32 := by
  have h : (Tryz.prog.info? 47).map (fun i => (i.zero, i.size, i.bytes)) = some (some (.agg #[.int .i64 0, .slice none 0 0]), 2, 32) := by kernel_rfl
  obtain ⟨i, hi, h⟩ := Option.map_eq_some_iff.1 h
  simp only [Prod.mk.injEq] at h
  exact ⟨i, hi, h.1, h.2.1, h.2.2⟩

/-- Lines with their words, grown by append. -/
structure LinO (w : World) (lo : Nat) (v : Value) (ls : List (Nat × List ByteArray)) (xs : List Value) : Prop where
  own : w.ownsRow lo 47 2 v ls.length xs
  at_ : ∀ (j n : Nat) (ws : List ByteArray), ls[j]? = some (n, ws) → ∃ g cap, xs[j * 2]? = some (.int .i64 (n : Int)) ∧ xs[j * 2 + 1]? = some (.slice (some ⟨g, 0, none⟩) ws.length cap) ∧ (∀ (i : Nat) (x : ByteArray), ws[i]? = some x → w.cell? ⟨g, i, none⟩ = some (.string x)) ∧ g < w.heap.size ∧ v.ownBlock ≠ some g ∧ ws.length ≤ cap

section
variable {w w' w1 : World} {lo : Nat} {v v' : Value} {ls : List (Nat × List ByteArray)} {xs : List Value}
theorem LinO.keep (h : LinO w lo v ls xs) (s : w.Since w.heap.size w') : LinO w' lo v ls xs := by
  refine ⟨own_keep' h.own s, fun j n ws hj => ?_⟩
  obtain ⟨g, cap, h1, h2, h3, h4, h5⟩ := h.at_ j n ws hj
  exact ⟨g, cap, h1, h2, fun i x hx => (s.cell (a := ⟨g, i, none⟩) h4).trans (h3 i x hx), Nat.lt_of_lt_of_le h4 s.size, h5⟩
theorem LinO.snoc (h : LinO w lo v ls xs) (s1 : w.Since w.heap.size w1) (hs : w.heap.size < w1.heap.size) (g : w1.grownBy w' v.ownBlock) {n b cap : Nat} {ws : List ByteArray} (own : w'.ownsRow lo 47 2 v' (ls.length + 1) (xs ++ [.int .i64 (n : Int), .slice (some ⟨b, 0, none⟩) ws.length cap]))
    (hat : v'.ownBlock = v.ownBlock ∨ v'.ownBlock = some w1.heap.size) (hw : ∀ (i : Nat) (x : ByteArray), ws[i]? = some x → w.cell? ⟨b, i, none⟩ = some (.string x)) (hb : b < w.heap.size) (hv : v.ownBlock ≠ some b) (hcap : ws.length ≤ cap) : LinO w' lo v' (ls ++ [(n, ws)]) (xs ++ [.int .i64 (n : Int), .slice (some ⟨b, 0, none⟩) ws.length cap]) := by
  have hl : xs.length = ls.length * 2 := h.own.1
  have z := g.size
  have mv : ∀ {b : Nat} {ws : List ByteArray}, (∀ (i : Nat) (x : ByteArray), ws[i]? = some x → w.cell? ⟨b, i, none⟩ = some (.string x)) → b < w.heap.size → v.ownBlock ≠ some b → (∀ (i : Nat) (x : ByteArray), ws[i]? = some x → w'.cell? ⟨b, i, none⟩ = some (.string x)) ∧ b < w'.heap.size ∧ v'.ownBlock ≠ some b := fun {b ws} hw hb hv => by
    have hk := (g.block b (by omega) (fun e => hv e.symm)).trans (s1.block b hb)
    refine ⟨fun i x hx => (World.cell?_of_block (a := ⟨b, i, none⟩) hk).trans (hw i x hx), by omega, fun e => ?_⟩
    rcases hat with h | h
    · exact hv (h.symm.trans e)
    · rw [e] at h; simp at h; omega
  refine ⟨by rw [List.length_append]; exact own, fun j m ws' hj => ?_⟩
  by_cases e : j = ls.length
  · subst e
    rw [List.getElem?_append_right (Nat.le_refl _), Nat.sub_self] at hj
    simp only [List.getElem?_cons_zero, Option.some.injEq, Prod.mk.injEq] at hj
    obtain ⟨rfl, rfl⟩ := hj
    obtain ⟨a1, a2, a3⟩ := mv hw hb hv
    refine ⟨b, cap, ?_, ?_, a1, a2, a3, hcap⟩
    · rw [List.getElem?_append_right (by omega), hl]; simp
    · rw [List.getElem?_append_right (by omega), hl]; simp
  · have hlt : j < ls.length := by
      have := (List.getElem?_eq_some_iff.1 hj).1
      rw [List.length_append] at this
      simp at this
      omega
    rw [List.getElem?_append_left hlt] at hj
    obtain ⟨g', cap', h1, h2, h3, h4, h5, h6⟩ := h.at_ j m ws' hj
    obtain ⟨a1, a2, a3⟩ := mv h3 h4 h5
    exact ⟨g', cap', by rw [List.getElem?_append_left (by omega)]; exact h1, by rw [List.getElem?_append_left (by omega)]; exact h2, a1, a2, a3, h6⟩
end

/-- Lines with their words in the block g. -/
def LinL (w : World) (g : Nat) (ls : List (Nat × List ByteArray)) : Prop :=
  ∀ (j n : Nat) (ws : List ByteArray), ls[j]? = some (n, ws) → w.cell? ⟨g, j * 2, none⟩ = some (.int .i64 (n : Int)) ∧ ∃ q cap, w.cell? ⟨g, j * 2 + 1, none⟩ = some (.slice (some ⟨q, 0, none⟩) ws.length cap) ∧ ws.length ≤ cap ∧ ∀ (i : Nat) (x : ByteArray), ws[i]? = some x → w.cell? ⟨q, i, none⟩ = some (.string x)

theorem LinL.keep {w w' : World} {g : Nat} {ls : List (Nat × List ByteArray)} (h : LinL w g ls) (s : w.Since w.heap.size w') : LinL w' g ls := fun j n ws hj => by
  obtain ⟨h1, q, cap, h2, h4, h3⟩ := h j n ws hj
  exact ⟨(s.cell (a := ⟨g, j * 2, none⟩) (World.block_lt_of_cell? _ _ h1)).trans h1, q, cap, (s.cell (a := ⟨g, j * 2 + 1, none⟩) (World.block_lt_of_cell? _ _ h2)).trans h2, h4, fun i x hx => (s.cell (a := ⟨q, i, none⟩) (World.block_lt_of_cell? _ _ (h3 i x hx))).trans (h3 i x hx)⟩

theorem LinO.l {w : World} {lo g cap : Nat} {ls : List (Nat × List ByteArray)} {xs : List Value} (h : LinO w lo (.slice (some ⟨g, 0, none⟩) ls.length cap) ls xs) : LinL w g ls := fun j n ws hj => by
  have hc := @World.ownsRow.cells _ _ _ _ _ _ _ h.own
  obtain ⟨q, c, h1, h2, h3, -, -, h4⟩ := h.at_ j n ws hj
  have c1 := hc (g := g) rfl _ _ h1
  have c2 := hc (g := g) rfl _ _ h2
  rw [Go.WideShapes.add_plain, Nat.zero_add] at c1 c2
  exact ⟨c1, q, c, c2, h4, h3⟩

theorem newL (w : World) (x y : Value) (t : TypeId) : ∀ j u, ([x, y] : List Value)[j]? = some u → (w.alloc (.cells #[x, y] t)).cell? ((⟨w.heap.size, 0, none⟩ : Addr).add j) = some u := fun j u hu => by
  rw [Go.WideShapes.add_plain, Nat.zero_add]
  rcases j with _ | _ | j
  · simp at hu; subst hu; simp [go_sem]
  · simp at hu; subst hu; simp [go_sem]
  · simp at hu
theorem oneL (z : Int) (a : Option Addr) (n c : Nat) : ∀ u ∈ ([.int .i64 z, .slice a n c] : List Value), u.oneCell' = true := by
  intro u hu
  simp at hu
  rcases hu with rfl | rfl <;> rfl

theorem lnsF_take {P : List ByteArray} {k : Nat} {x : ByteArray} (h : P[k]? = some x) : lnsF 0 (P.take (k + 1)) = lnsF 0 (P.take k) ++ (if wordsB x = [] then [] else [(k + 1, wordsB x)]) := by
  have hk := (List.getElem?_eq_some_iff.1 h).1
  rw [List.take_add_one, h, lnsF_append, List.length_take, Nat.min_eq_left (by omega), Nat.zero_add]
  simp only [Option.toList, lnsF]

/-- How l2Lines ends. -/
def LinesE (w w' : World) (P : List ByteArray) (e : Ending) : Prop :=
  ∃ g cap, e = .returned (.tuple #[.slice (some ⟨g, 0, none⟩) (lnsF 0 P).length cap, .int .i64 (P.length : Int)]) ∧ LinL w' g (lnsF 0 P) ∧ w.Since w.heap.size w' ∧ (lnsF 0 P).length ≤ cap

set_option maxHeartbeats 6400000 in
set_option maxRecDepth 100000 in
theorem l2Lines_q (s : ByteArray) (w : World) (hs : s.size ≤ 100000) :
    Calls Tryz.prog 18 #[.string s] w fun e w' => LinesE w w' (pcs 10 s) e := by
  obtain ⟨i0, hi, hz0, hz1, hz2⟩ := infoLine
  have sA : w.Since w.heap.size (w.alloc (.cells #[] 47)) := (World.Since.refl _ _).alloc (Nat.le_refl _) _
  have oA : (w.alloc (.cells #[] 47)).ownsRow w.heap.size 47 2 (.slice (some ⟨w.heap.size, 0, none⟩) 0 0) 0 [] := World.ownsRow_made w #[] 0 (Nat.le_refl _) (Nat.zero_le _) rfl
  have ZA := hide (show (w.alloc (.cells #[] 47)).heap.size = w.heap.size + 1 by simp)
  have HPL := pcs_len 10 s
  obtain ⟨P, hP⟩ : ∃ P, pcs 10 s = P := ⟨_, rfl⟩
  have HZ : Hid (∀ x ∈ P, x.size ≤ s.size) := hide (fun x hx => pcs_le (by rw [hP]; exact hx))
  rw [hP] at HPL ⊢
  have HP := hide hP
  clear hP
  go_enter Tryz.func18, Tryz.ntmps18
  go_wp2_with fail
  generalize w.alloc (.cells #[] 47) = wA at *
  have JC : Calls Tryz.prog 49 #[.string s, .int .u8 10, .int .u8 10] wA fun e w' => ∃ v, e = .returned v ∧ w'.ownsRow wA.heap.size 9 1 v (pcs 10 s).length ((pcs 10 s).map Value.string) ∧ wA.Since wA.heap.size w' := l1Cut_c 10 s wA (by omega)
  refine JC.mono ?_
  rintro e w1 ⟨v1, rfl, OP, s1⟩
  have OP : w1.ownsRow wA.heap.size 9 1 v1 P.length (P.map Value.string) := by rw [← HP.out]; exact OP
  have hpp : 0 < P.length := by rw [← HP.out]; exact pcs_pos 10 s
  obtain ⟨gP, cP, rfl, hg1, -⟩ := OP.form hpp
  obtain ⟨cP', bP, lP, -⟩ := StrO.cells OP
  have CP := hide cP'
  have HgP : Hid (w.heap.size < gP) := hide (by have := ZA.out; omega)
  clear JC cP' OP
  have S1 : w.Since w.heap.size w1 := sA.trans (sinceMono s1 sA.size)
  have z1 := s1.size
  have o1 : LinO w1 w.heap.size (.slice (some ⟨w.heap.size, 0, none⟩) 0 0) [] [] := ⟨own_keep' oA s1, fun j n ws h => by simp at h⟩
  go_wp2_with fail
  go_loopw [4, 6] (fun u i wr => ∃ k : Nat, k ≤ P.length ∧ i = .int .i64 (k : Int) ∧ w.Since w.heap.size wr ∧ Hid (∀ (j : Nat) (x : ByteArray), P[j]? = some x → wr.cell? ⟨gP, j, none⟩ = some (.string x)) ∧ gP < wr.heap.size ∧ ∃ (g cap m : Nat) (ls : List (Nat × List ByteArray)) (xs : List Value), u = .slice (some ⟨g, 0, none⟩) m cap ∧ g ≠ gP ∧ m ≤ k ∧ Hid (ls.length = m) ∧ Hid (ls = lnsF 0 (P.take k)) ∧ LinO wr w.heap.size (.slice (some ⟨g, 0, none⟩) m cap) ls xs) (fun _ i _ => P.length - (intOf i).toNat)
  case atStart => exact ⟨0, Nat.zero_le _, rfl, S1, CP, lP, w.heap.size, 0, 0, [], [], rfl, by have := HgP.out; omega, Nat.le_refl _, hide rfl, hide (by simp [lnsF]), o1⟩
  case round =>
    obtain ⟨k, hk, rfl, s2, cp, lp, g, cap, m, ls, xs, rfl, hne, hmk, HM, HL, O⟩ := hrel
    by_cases hlt : k < P.length
    · have hlt' : (k : Int) < (P.length : Int) := by omega
      obtain ⟨x, hx⟩ : ∃ x, P[k]? = some x := ⟨_, List.getElem?_eq_getElem hlt⟩
      have g0 := cp.out k x hx
      have hxz : x.size ≤ s.size := HZ.out x (List.mem_of_getElem? hx)
      have tf := lnsF_take hx
      have hwl := words_len x
      have JW := l2Words_q x wr (by omega)
      have lg := O.own.lt g rfl
      clear hx
      by_cases hx0 : wordsB x = []
      · rw [if_pos hx0, List.append_nil] at tf
        have TF := hide tf
        rw [hx0] at JW
        have JW : Calls Tryz.prog 50 #[.string x, .int .u8 32, .int .u8 32] wr fun e w' => ∃ g cap, e = .returned (.slice (some ⟨g, 0, none⟩) 0 cap) ∧ wr.Since wr.heap.size w' := JW.mono (fun e w' h => by obtain ⟨g, cap, e, -, s⟩ := h; exact ⟨g, cap, e, s⟩)
        clear tf hx0
        go_wp2_with fail
        refine JW.mono ?_
        rintro e w3 ⟨g3, c3, rfl, s3⟩
        have S3 := s2.trans (sinceMono s3 s2.size)
        have O3 := O.keep s3
        have z3 := s3.size
        have C3 : Hid (∀ (j : Nat) (x : ByteArray), P[j]? = some x → w3.cell? ⟨gP, j, none⟩ = some (.string x)) := hide (fun j x h => (s3.cell (a := ⟨gP, j, none⟩) lp).trans (cp.out j x h))
        have HL3 : Hid (ls = lnsF 0 (P.take (k + 1))) := hide (by rw [TF.out]; exact HL.out)
        clear JW
        go_wp2
        go_roundw
        case rel => exact ⟨k + 1, by omega, by go_num, S3, C3, by omega, g, cap, m, ls, xs, rfl, hne, by omega, HM, HL3, O3⟩
        case measure => simp [intOf]; omega
      · rw [if_neg hx0] at tf
        have TF := hide tf
        have hw0 : 0 < (wordsB x).length := List.length_pos_iff.2 hx0
        obtain ⟨W, hW⟩ : ∃ W, wordsB x = W := ⟨_, rfl⟩
        rw [hW] at JW hwl hw0 TF
        have hw1 : (0 : Int) < (W.length : Int) := by omega
        clear tf hx0 hW
        go_wp2_with fail
        refine JW.mono ?_
        rintro e w3 ⟨g3, c3, rfl, o3, s3⟩
        have S3 := s2.trans (sinceMono s3 s2.size)
        have O3 := O.keep s3
        have z3 := s3.size
        have z2 := s2.size
        obtain ⟨cw, bw, lw, lcap⟩ := o3.cells
        have hk1 : IntKind.i64.wrap ((k : Int) + 1) = ((k + 1 : Nat) : Int) := by rw [IntKind.wrap_i64]; omega
        have CW := hide cw
        clear JW cw o3
        go_wp2_with (at_builtin; refine wpList_append_own_at _ rfl _ _ 41 rfl w.heap.size 47 i0 _ 2 32 Tryz.underlying41 hi hz0 hz1 hz2 rfl (by decide) _ m xs rfl (by have := O3.own; rw [HM.out] at this; exact this.alloc _) ⟨w3.heap.size, 0, none⟩ 1 1 [.int .i64 ((k : Int) + 1), .slice (some ⟨g3, 0, none⟩) W.length c3] rfl rfl (newL _ _ _ _) (oneL _ _ _ _) (by unfold maxLen; omega) (by omega) (by simp; omega) ?_)
        intro v' w5 hown' hgrow hnn hat
        replace hgrow : (w3.alloc (.cells #[.int .i64 ((k : Int) + 1), .slice (some ⟨g3, 0, none⟩) W.length c3] 47)).grownBy w5 (Value.slice (some ⟨g, 0, none⟩) m cap).ownBlock := hgrow
        obtain ⟨g', capn, rfl, hg1, hg2⟩ := hown'.form (by omega)
        have sW := (World.Since.refl w3.heap.size w3).alloc (Nat.le_refl _) (.cells #[.int .i64 ((k : Int) + 1), .slice (some ⟨g3, 0, none⟩) W.length c3] 47)
        have zW : (w3.alloc (.cells #[.int .i64 ((k : Int) + 1), .slice (some ⟨g3, 0, none⟩) W.length c3] 47)).heap.size = w3.heap.size + 1 := by simp
        have z5 := hgrow.size
        have S5 : w.Since w.heap.size w5 := (S3.trans (sinceMono sW S3.size)).grown hgrow (by omega) (fun q hq => (O.own.lt q hq).1)
        have kb : w5.heap[gP]? = wr.heap[gP]? := ((hgrow.block gP (by omega) (by simp [Value.ownBlock]; omega)).trans (sW.block gP (by omega))).trans (s3.block gP lp)
        have C5 : Hid (∀ (j : Nat) (x : ByteArray), P[j]? = some x → w5.cell? ⟨gP, j, none⟩ = some (.string x)) := hide (fun j x h => (World.cell?_of_block (a := ⟨gP, j, none⟩) kb).trans (cp.out j x h))
        have hne5 : g' ≠ gP := by
          rcases hat with h | h
          · simp [Value.ownBlock] at h; omega
          · simp [Value.ownBlock] at h; omega
        have O5 := O3.snoc (n := k + 1) (ws := W) sW (by omega) hgrow (by rw [HM.out]; exact hown') (by rw [zW]; exact hat) CW.out lw (by simp [Value.ownBlock]; omega) lcap
        have HM5 : Hid ((ls ++ [(k + 1, W)]).length = m + 1) := hide (by simp; exact HM.out)
        have HL5 : Hid (ls ++ [(k + 1, W)] = lnsF 0 (P.take (k + 1))) := hide (by rw [TF.out, HL.out])
        clear hnn hat hown' hgrow kb g0 O3 O
        go_wp2
        go_roundw
        case rel => exact ⟨k + 1, by omega, by go_num, S5, C5, by omega, g', capn, m + 1, _, _, rfl, hne5, by omega, HM5, HL5, O5⟩
        case measure => simp [intOf]; omega
    · have e : k = P.length := by omega
      subst e
      have hz1' : ¬ ((P.length : Int) < (P.length : Int)) := by omega
      have O5 := hide O
      rw [List.take_length] at HL
      clear O
      go_wp2
      go_ret2
      refine ⟨g, cap, ?_, ?_, s2, ?_⟩
      · rw [← HL.out, HM.out]; rfl
      · have := O5.out
        rw [← HM.out] at this
        rw [← HL.out]
        exact this.l
      · have h9 := O5.out.own
        obtain ⟨-, ⟨e9, -⟩ | ⟨g9, cap9, cur, e9, -, -, hn, -⟩⟩ := h9
        · cases e9
        · simp only [Value.slice.injEq] at e9
          rw [← HL.out, HM.out]
          rw [HM.out] at hn
          omega

end Go.Proofs.YtnogbaapcjjngaaGreatDoor

namespace Go.Proofs.YtnogbaapcjjngaaGreatDoor
open Go.RowKit

/-- How l2Nums ends. -/
def NumsO (w w' : World) (ws : List ByteArray) (e : Ending) : Prop :=
  ∃ (g cap : Nat) (xs : List Value), e = .returned (.slice (some ⟨g, 0, none⟩) ws.length cap) ∧ OutR w' w.heap.size (.slice (some ⟨g, 0, none⟩) ws.length cap) ws.length (wd ws) (fun _ q => w.heap.size ≤ q) xs ∧ w.Since w.heap.size w'

set_option maxHeartbeats 6400000 in
set_option maxRecDepth 100000 in
theorem l2Nums_q (a : Option Addr) (wb off cap : Nat) (ws : List ByteArray) (w : World) (hc : ∀ (j : Nat) (x : ByteArray), ws[j]? = some x → a = some ⟨wb, off, none⟩ ∧ w.cell? ⟨wb, off + j, none⟩ = some (.string x)) (hz : ∀ x ∈ ws, x.size ≤ 100000) (hl : ws.length ≤ 100001) :
    Calls Tryz.prog 54 #[.slice a ws.length cap] w fun e w' => NumsO w w' ws e := by
  obtain ⟨i0, hi, hz0, hz1, hz2⟩ := infoRat
  have HC : Hid (∀ i, i < ws.length → a = some ⟨wb, off, none⟩ ∧ w.cell? ⟨wb, off + i, none⟩ = some (.string (wd ws i))) := hide (fun i hi => hc i _ (wd_get hi))
  have HZ : Hid (∀ i, i < ws.length → (wd ws i).size ≤ 100000) := hide (fun i hi => hz _ (wd_mem hi))
  have sA : w.Since w.heap.size (w.alloc (.cells #[] 61)) := (World.Since.refl _ _).alloc (Nat.le_refl _) _
  have oA : (w.alloc (.cells #[] 61)).ownsRow w.heap.size 61 3 (.slice (some ⟨w.heap.size, 0, none⟩) 0 0) 0 [] := World.ownsRow_made w #[] 0 (Nat.le_refl _) (Nat.zero_le _) rfl
  clear hc hz
  go_enter Tryz.func54, Tryz.ntmps54
  go_wp2_with fail
  go_loopw [3, 4] (fun u i wr => ∃ (k g cap : Nat) (xs : List Value), k ≤ ws.length ∧ i = .int .i64 (k : Int) ∧ u = .slice (some ⟨g, 0, none⟩) k cap ∧ w.Since w.heap.size wr ∧ Hid (OutR wr w.heap.size (.slice (some ⟨g, 0, none⟩) k cap) k (wd ws) (fun _ q => w.heap.size ≤ q) xs)) (fun _ i _ => ws.length - (intOf i).toNat)
  case atStart => exact ⟨0, w.heap.size, 0, [], Nat.zero_le _, rfl, rfl, sA, hide ⟨oA, fun i hi => absurd hi (by omega)⟩⟩
  case round =>
    obtain ⟨k, g, cp, xs, hk, rfl, rfl, S, O⟩ := hrel
    by_cases hlt : k < ws.length
    · have hzk : (k : Int) < (ws.length : Int) := by omega
      obtain ⟨rfl, ck0⟩ := HC.out k hlt
      have ck : wr.cell? ⟨wb, off + k, none⟩ = some (.string (wd ws k)) := (S.cell (a := ⟨wb, off + k, none⟩) (World.block_lt_of_cell? _ _ ck0)).trans ck0
      have hsz := HZ.out k hlt
      have JN := l2Num_q (wd ws k) wr hsz
      obtain ⟨x, hx⟩ : ∃ x, wd ws k = x := ⟨_, rfl⟩
      rw [hx] at ck hsz JN
      have HX := hide hx
      clear hx ck0
      go_wp2_with fail
      refine JN.mono ?_
      rintro e w1 ⟨v, rfl, RV, s1⟩
      have W1 := RV
      obtain ⟨v1, v2, g1, g2, rfl, N1, N2, -, -, -⟩ := RV
      obtain ⟨a1, q1, c1, Y1, rfl, -⟩ := N1
      obtain ⟨a2, q2, c2, Y2, rfl, -⟩ := N2
      have W1 : WordR w1 (fun q => wr.heap.size ≤ q) (.agg #[.bool (parseO (wd ws k)).1, .slice a1 q1 c1, .slice a2 q2 c2]) (wd ws k) := by rw [HX.out]; exact W1
      have z1 := s1.size
      have O1 := O.out.keep s1
      have lg := O.out.own.lt g rfl
      obtain ⟨nb, hnb⟩ : ∃ b, (parseO x).1 = b := ⟨_, rfl⟩
      have HNB : Hid ((parseO (wd ws k)).1 = nb) := hide (by rw [HX.out]; exact hnb)
      rw [hnb]
      clear hnb
      have hB := S.size
      go_wp2_with (at_builtin; refine wpList_append_own_at _ rfl _ _ 30 rfl w.heap.size 61 i0 _ 3 56 Tryz.underlying30 hi hz0 hz1 hz2 rfl (by decide) _ _ _ rfl (O1.own.alloc _) ⟨w1.heap.size, 0, none⟩ 1 1 [.bool nb, .slice a1 q1 c1, .slice a2 q2 c2] rfl rfl (newR _ _ _ _ _) (oneR _ _ _ _ _ _ _) (by unfold maxLen; omega) (by omega) (by simp; omega) ?_)
      intro v' w2 hown' hgrow hnn hat
      replace hgrow : (w1.alloc (.cells #[.bool nb, .slice a1 q1 c1, .slice a2 q2 c2] 61)).grownBy w2 (Value.slice (some ⟨g, 0, none⟩) k cp).ownBlock := hgrow
      obtain ⟨g', capn, rfl, hg1, hg2⟩ := hown'.form (by omega)
      have sW := (World.Since.refl w1.heap.size w1).alloc (Nat.le_refl _) (.cells #[.bool nb, .slice a1 q1 c1, .slice a2 q2 c2] 61)
      have zW : (w1.alloc (.cells #[.bool nb, .slice a1 q1 c1, .slice a2 q2 c2] 61)).heap.size = w1.heap.size + 1 := by simp
      have z2 := hgrow.size
      have S2 : w.Since w.heap.size w2 := ((S.trans (sinceMono s1 S.size)).trans (sinceMono sW (by omega))).grown hgrow (by omega) (fun q hq => (O1.own.lt q hq).1)
      have O2 := O1.snoc sW (by omega) hgrow (by rw [HNB.out]; exact hown') (by rw [zW]; exact hat) (RatW.imp W1 (fun q hq hp => ⟨by omega, fun e => by simp [Value.ownBlock] at e; omega⟩))
      have HO2 := hide O2
      clear hnn hat hown' hgrow O2 O1 W1 JN
      go_wp2
      go_roundw
      case rel => exact ⟨k + 1, g', capn, _, by omega, by go_num, rfl, S2, HO2⟩
      case measure => simp [intOf]; omega
    · have e : k = ws.length := by omega
      subst e
      have hzk : ¬ ((ws.length : Int) < (ws.length : Int)) := by omega
      go_wp2
      go_ret
      exact ⟨g, cp, xs, rfl, O.out, S⟩

end Go.Proofs.YtnogbaapcjjngaaGreatDoor
