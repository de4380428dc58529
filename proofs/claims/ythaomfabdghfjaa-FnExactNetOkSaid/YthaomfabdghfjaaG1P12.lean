import Derived.Test.YthaomfabdghfjaaG1P11
import Derived.Deep.RegionWith
namespace Go.Proofs.Ythaomfabdghfjaa
open Go.RowKit

/-- A region that draws its order, by one relation that every operation keeps. -/
theorem wpAny_inv {P : Program} {md : Region.Mode} {ops : Array Oper} {Q : Exit → Act → World → Prop} (I : Nat → Array Bool → Act → World → Prop)
    (hs : ∀ fuel l a w, I (fuel + 1) l a w → ∀ i ∈ Region.ready md ops l, ∃ o, ops[i]? = some o ∧ ∀ K' : Act → World → Prop, (∀ a w, I fuel (l.setIfInBounds i true) a w → K' a w) → if Region.wanted o (yielded ops a.tmps) = true then Oper.wp P o a w K' Q else K' (a.put o.dst undef) w)
    (h0 : ∀ l a w, I 0 l a w → Region.ready md ops l = [])
    (he : ∀ fuel l a w, I fuel l a w → Region.ready md ops l = [] → Q .normal a w) :
    ∀ fuel l a w, I fuel l a w → wpAny P md ops Q fuel l a w
  | 0, l, a, w, h => ⟨h0 l a w h, he 0 l a w h (h0 l a w h)⟩
  | fuel + 1, l, a, w, h => ⟨he _ l a w h, fun i hi => by
      obtain ⟨o, ho, hk⟩ := hs fuel l a w h i hi
      exact wpOp_step ho fun K' hK => hk K' fun a w hI => hK a w (wpAny_inv I hs h0 he fuel _ a w hI)⟩

theorem since_mono {B B' : Nat} {w w' : World} (s : w.Since B w') (h : B' ≤ B) : w.Since B' w' := ⟨s.os, s.tape, s.output, s.size, fun k hk => s.block k (by omega)⟩

/-- The block that a value names. -/
def bk : Value → Option Nat
  | .pointer (some a) => some a.block
  | .slice (some a) _ _ => some a.block
  | _ => none

/-- Named blocks lie from lo on, below the world's end. -/
def Bd (lo : Nat) (w : World) (v : Value) : Prop := ∀ g, bk v = some g → lo ≤ g ∧ g < w.heap.size
/-- Two values name no block in common. -/
def Ap (u v : Value) : Prop := ∀ g, bk u = some g → bk v = some g → False

theorem Bd.undef (lo : Nat) (w : World) : Bd lo w undef := fun g h => by cases h
theorem Bd.grow {lo : Nat} {w w' : World} {v : Value} (h : Bd lo w v) (hs : w.heap.size ≤ w'.heap.size) : Bd lo w' v := fun g e => ⟨(h g e).1, Nat.lt_of_lt_of_le (h g e).2 hs⟩
theorem Ap.symm {u v : Value} (h : Ap u v) : Ap v u := fun g a b => h g b a
theorem Ap.undef (v : Value) : Ap undef v := fun g h => by cases h
/-- A value that names new blocks alone stands apart from every elder one. -/
theorem Ap.fresh {lo : Nat} {w w' : World} {u v : Value} (h : Bd lo w u) (hv : Bd w.heap.size w' v) : Ap u v := fun g a b => by have := (h g a).2; have := (hv g b).1; omega

/-- A natural in memory of one's own. -/
def Ow (w : World) (v : Value) (m : Nat) (X : Nat → Nat) : Prop :=
  (v = .slice none 0 0 ∧ m = 0) ∨ ∃ g cp, v = .slice (some ⟨g, 0, none⟩) m cp ∧ g < w.heap.size ∧ m ≤ cp ∧ Limbs w (some ⟨g, 0, none⟩) g 0 m X ∧ (∀ x, w.frozen? ⟨g, x, none⟩ = false) ∧ Shape w g 73 cp ∧ cp ≤ maxLen

theorem Ow.since {w w' : World} {v : Value} {m : Nat} {X : Nat → Nat} (h : Ow w v m X) (s : w.Since w.heap.size w') : Ow w' v m X := by
  rcases h with h | ⟨g, cp, e, hg, hc, L, F, H1, H2⟩
  · exact Or.inl h
  · exact Or.inr ⟨g, cp, e, Nat.lt_of_lt_of_le hg s.size, hc, L.keep s, fun x => by rw [s.frozen (a := ⟨g, x, none⟩) hg]; exact F x, H1.since s hg, H2⟩

theorem Ow.set {w : World} {v : Value} {m : Nat} {X : Nat → Nat} (h : Ow w v m X) {c : Nat} {t : Value} (ht : t = .pointer (some ⟨c, 0, none⟩)) (ha : Ap t v) (u : Value) : Ow (w.setCell ⟨c, 0, none⟩ u) v m X := by
  subst ht
  rcases h with h | ⟨g, cp, rfl, hg, hc, L, F, H1, H2⟩
  · exact Or.inl h
  · have : c ≠ g := fun e => ha g (by rw [e]; rfl) rfl
    exact Or.inr ⟨g, cp, rfl, by simpa using hg, hc, L.setOther this _, fun x => by simp [F x], H1.setCell _ _ _, H2⟩

theorem own_ow {w : World} {base : Nat} {v : Value} {m : Nat} {X : Nat → Nat} (h : w.ownsRow base 73 1 v m (ll X m)) : Ow w v m X ∧ Bd base w v := by
  have hc := @World.ownsRow.cells _ _ _ _ _ _ _ h
  rcases h.2 with ⟨rfl, rfl⟩ | ⟨g, cap, cur, rfl, hb, hg, hm, hml, hsz, _⟩
  · exact ⟨Or.inl ⟨rfl, rfl⟩, fun g e => by cases e⟩
  · have hlt := (Array.getElem?_eq_some_iff.1 hg).1
    refine ⟨Or.inr ⟨g, cap, rfl, hlt, hm, fun j hj => ⟨rfl, ?_⟩, fun o => by simp [World.frozen?, hg], ⟨cur, hg, by simpa using hsz⟩, hml⟩, fun g' e => ?_⟩
    · have := hc (g := g) rfl j _ (ll_get X m j hj)
      rw [Addr.add_lit] at this; exact this
    · cases e; exact ⟨hb, hlt⟩

/-- What a box holds: laid, empty or filled. -/
def Bx (w : World) (t : Value) (u : Value) : Prop := ∃ c, t = .pointer (some ⟨c, 0, none⟩) ∧ w.cell? ⟨c, 0, none⟩ = some u ∧ w.frozen? ⟨c, 0, none⟩ = false ∧ c < w.heap.size

theorem Bx.since {w w' : World} {t u : Value} (h : Bx w t u) (s : w.Since w.heap.size w') : Bx w' t u := by
  obtain ⟨c, e, h1, h2, h3⟩ := h
  exact ⟨c, e, by rw [s.cell (a := ⟨c, 0, none⟩) h3]; exact h1, by rw [s.frozen (a := ⟨c, 0, none⟩) h3]; exact h2, Nat.lt_of_lt_of_le h3 s.size⟩

theorem Bx.other {w : World} {t u t' : Value} (h : Bx w t u) {c : Nat} (e : t' = .pointer (some ⟨c, 0, none⟩)) (ha : Ap t' t) (x : Value) : Bx (w.setCell ⟨c, 0, none⟩ x) t u := by
  obtain ⟨d, rfl, h1, h2, h3⟩ := h
  subst e
  have : c ≠ d := fun e => ha d (by rw [e]; rfl) rfl
  exact ⟨d, rfl, by rw [cellO (by exact this)]; exact h1, by simp [h2], by simpa using h3⟩

theorem Bx.fill {w : World} {t u : Value} {c : Nat} (h : Bx w t u) (e : t = .pointer (some ⟨c, 0, none⟩)) (x : Value) : Bx (w.setCell ⟨c, 0, none⟩ x) t x := by
  obtain ⟨d, rfl, h1, h2, h3⟩ := h
  cases e
  exact ⟨_, rfl, World.cell?_setCell_same _ _ _ h1, by simp [h2], by simpa using h3⟩

theorem Bx.new (w : World) (u : Value) (ty : TypeId) : Bx (w.alloc (.cells #[u] ty)) (.pointer (some ⟨w.heap.size, 0, none⟩)) u := ⟨_, rfl, by simp [go_sem], by simp [go_sem], by simp⟩

/-- The statement 'n, m := ownCopy(a), ownCopy(b)', in whatever order. -/
structure J (wA : World) (sa sb : Value) (n m : Nat) (X Y : Nat → Nat) (l0 l1 l2 l3 l4 l5 l6 l7 : Bool) (t5 t6 t20 t21 t22 t23 : Value) (w : World) : Prop where
  S : wA.Since wA.heap.size w
  B5 : Bd wA.heap.size w t5
  B6 : Bd wA.heap.size w t6
  B21 : Bd wA.heap.size w t21
  B23 : Bd wA.heap.size w t23
  A56 : Ap t5 t6
  A51 : Ap t5 t21
  A53 : Ap t5 t23
  A61 : Ap t6 t21
  A63 : Ap t6 t23
  A13 : Ap t21 t23
  h0 : l0 = true → t20 = sa
  h2 : l2 = true → t22 = sb
  h1 : l1 = true → Ow w t21 n X
  h3 : l3 = true → Ow w t23 m Y
  h4 : l4 = true → Bx w t5 (if l6 = true then t21 else .slice none 0 0)
  h5 : l5 = true → Bx w t6 (if l7 = true then t23 else .slice none 0 0)

section
variable {wA : World} {sa sb : Value} {n m : Nat} {X Y : Nat → Nat} {l0 l1 l2 l3 l4 l5 l6 l7 : Bool} {t5 t6 t20 t21 t22 t23 : Value} {w w' : World}

theorem J.grow (h : J wA sa sb n m X Y l0 l1 l2 l3 l4 l5 l6 l7 t5 t6 t20 t21 t22 t23 w) (s : w.Since w.heap.size w') : J wA sa sb n m X Y l0 l1 l2 l3 l4 l5 l6 l7 t5 t6 t20 t21 t22 t23 w' :=
  ⟨h.S.trans (since_mono s h.S.size), h.B5.grow s.size, h.B6.grow s.size, h.B21.grow s.size, h.B23.grow s.size, h.A56, h.A51, h.A53, h.A61, h.A63, h.A13, h.h0, h.h2, fun e => (h.h1 e).since s, fun e => (h.h3 e).since s, fun e => (h.h4 e).since s, fun e => (h.h5 e).since s⟩

theorem J.start (wA : World) (sa sb : Value) (n m : Nat) (X Y : Nat → Nat) (u20 u22 : Value) : J wA sa sb n m X Y false false false false false false false false undef undef u20 undef u22 undef wA :=
  ⟨.refl _ _, .undef _ _, .undef _ _, .undef _ _, .undef _ _, .undef _, .undef _, .undef _, .undef _, .undef _, .undef _, fun h => (by cases h), fun h => (by cases h), fun h => (by cases h), fun h => (by cases h), fun h => (by cases h), fun h => (by cases h)⟩

theorem J.op0 (h : J wA sa sb n m X Y l0 l1 l2 l3 l4 l5 l6 l7 t5 t6 t20 t21 t22 t23 w) : J wA sa sb n m X Y true l1 l2 l3 l4 l5 l6 l7 t5 t6 sa t21 t22 t23 w := { h with h0 := fun _ => rfl }
theorem J.op2 (h : J wA sa sb n m X Y l0 l1 l2 l3 l4 l5 l6 l7 t5 t6 t20 t21 t22 t23 w) : J wA sa sb n m X Y l0 l1 true l3 l4 l5 l6 l7 t5 t6 t20 t21 sb t23 w := { h with h2 := fun _ => rfl }

theorem J.op1 (h : J wA sa sb n m X Y l0 l1 l2 l3 l4 l5 false l7 t5 t6 t20 t21 t22 t23 w) (s : w.Since w.heap.size w') {v : Value} (o : Ow w' v n X) (b : Bd w.heap.size w' v) : J wA sa sb n m X Y l0 true l2 l3 l4 l5 false l7 t5 t6 t20 v t22 t23 w' :=
  have g := h.grow s
  have b' : Bd wA.heap.size w' v := fun x e => ⟨Nat.le_trans h.S.size (b x e).1, (b x e).2⟩
  { g with B21 := b', A51 := .fresh h.B5 b, A61 := .fresh h.B6 b, A13 := (Ap.fresh h.B23 b).symm, h1 := fun _ => o }

theorem J.op3 (h : J wA sa sb n m X Y l0 l1 l2 l3 l4 l5 l6 false t5 t6 t20 t21 t22 t23 w) (s : w.Since w.heap.size w') {v : Value} (o : Ow w' v m Y) (b : Bd w.heap.size w' v) : J wA sa sb n m X Y l0 l1 l2 true l4 l5 l6 false t5 t6 t20 t21 t22 v w' :=
  have g := h.grow s
  have b' : Bd wA.heap.size w' v := fun x e => ⟨Nat.le_trans h.S.size (b x e).1, (b x e).2⟩
  { g with B23 := b', A53 := .fresh h.B5 b, A63 := .fresh h.B6 b, A13 := .fresh h.B21 b, h3 := fun _ => o }

theorem bd_new (w : World) (u : Value) (ty : TypeId) : Bd w.heap.size (w.alloc (.cells #[u] ty)) (.pointer (some ⟨w.heap.size, 0, none⟩)) := fun g e => by cases e; simp

theorem J.op4 (h : J wA sa sb n m X Y l0 l1 l2 l3 l4 l5 false l7 t5 t6 t20 t21 t22 t23 w) (ty : TypeId) : J wA sa sb n m X Y l0 l1 l2 l3 true l5 false l7 (.pointer (some ⟨w.heap.size, 0, none⟩)) t6 t20 t21 t22 t23 (w.alloc (.cells #[.slice none 0 0] ty)) :=
  have g := h.grow ((World.Since.refl _ _).alloc (Nat.le_refl _) (.cells #[.slice none 0 0] ty))
  have b := bd_new w (.slice none 0 0) ty
  { g with B5 := fun x e => ⟨Nat.le_trans h.S.size (b x e).1, (b x e).2⟩, A56 := (Ap.fresh h.B6 b).symm, A51 := (Ap.fresh h.B21 b).symm, A53 := (Ap.fresh h.B23 b).symm, h4 := fun _ => Bx.new _ _ _ }

theorem J.op5 (h : J wA sa sb n m X Y l0 l1 l2 l3 l4 l5 l6 false t5 t6 t20 t21 t22 t23 w) (ty : TypeId) : J wA sa sb n m X Y l0 l1 l2 l3 l4 true l6 false t5 (.pointer (some ⟨w.heap.size, 0, none⟩)) t20 t21 t22 t23 (w.alloc (.cells #[.slice none 0 0] ty)) :=
  have g := h.grow ((World.Since.refl _ _).alloc (Nat.le_refl _) (.cells #[.slice none 0 0] ty))
  have b := bd_new w (.slice none 0 0) ty
  { g with B6 := fun x e => ⟨Nat.le_trans h.S.size (b x e).1, (b x e).2⟩, A56 := Ap.fresh h.B5 b, A61 := (Ap.fresh h.B21 b).symm, A63 := (Ap.fresh h.B23 b).symm, h5 := fun _ => Bx.new _ _ _ }

theorem bd_set {lo c : Nat} {u x : Value} (h : Bd lo w u) : Bd lo (w.setCell ⟨c, 0, none⟩ x) u := h.grow (by simp)

theorem J.op6 (h : J wA sa sb n m X Y l0 l1 l2 l3 true l5 l6 l7 t5 t6 t20 t21 t22 t23 w) {c : Nat} (e : t5 = .pointer (some ⟨c, 0, none⟩)) : J wA sa sb n m X Y l0 l1 l2 l3 true l5 true l7 t5 t6 t20 t21 t22 t23 (w.setCell ⟨c, 0, none⟩ t21) :=
  ⟨h.S.setCell (h.B5 c (by rw [e]; rfl)).1 _, bd_set h.B5, bd_set h.B6, bd_set h.B21, bd_set h.B23, h.A56, h.A51, h.A53, h.A61, h.A63, h.A13, h.h0, h.h2, fun k => (h.h1 k).set e h.A51 _, fun k => (h.h3 k).set e h.A53 _, fun _ => (h.h4 rfl).fill e _, fun k => (h.h5 k).other e h.A56 _⟩

theorem J.op7 (h : J wA sa sb n m X Y l0 l1 l2 l3 l4 true l6 l7 t5 t6 t20 t21 t22 t23 w) {c : Nat} (e : t6 = .pointer (some ⟨c, 0, none⟩)) : J wA sa sb n m X Y l0 l1 l2 l3 l4 true l6 true t5 t6 t20 t21 t22 t23 (w.setCell ⟨c, 0, none⟩ t23) :=
  ⟨h.S.setCell (h.B6 c (by rw [e]; rfl)).1 _, bd_set h.B5, bd_set h.B6, bd_set h.B21, bd_set h.B23, h.A56, h.A51, h.A53, h.A61, h.A63, h.A13, h.h0, h.h2, fun k => (h.h1 k).set e h.A61 _, fun k => (h.h3 k).set e h.A63 _, fun k => (h.h4 k).other e h.A56.symm _, fun _ => (h.h5 rfl).fill e _⟩

theorem ow_parts {lo : Nat} {v : Value} (h : Ow w v m X) (b : Bd lo w v) (far : Nat) (hf : lo ≤ far) (_hw : w.heap.size ≤ far) : ∃ a g cp, v = .slice a m cp ∧ m ≤ cp ∧ (a = none → cp = 0) ∧ Limbs w a g 0 m X ∧ (0 < m → ∀ x, w.frozen? ⟨g, x, none⟩ = false) ∧ lo ≤ g ∧ (g = far ∨ bk v = some g) ∧ FullV w v g := by
  rcases h with ⟨rfl, rfl⟩ | ⟨g, cp, rfl, hg, hc, L, F, H⟩
  · exact ⟨none, far, 0, rfl, Nat.le_refl _, fun _ => rfl, fun j hj => absurd hj (by omega), fun h => absurd h (by omega), hf, Or.inl rfl, fun a _ _ h ha => by cases h; exact absurd rfl ha⟩
  · exact ⟨_, g, cp, rfl, hc, fun h => (by cases h), L, fun _ => F, (b g rfl).1, Or.inr rfl, fun _ _ _ h _ => by cases h; exact H⟩

/-- What the statement leaves. -/
theorem J.gd (h : J wA sa sb n m X Y true true true true true true true true t5 t6 t20 t21 t22 t23 w) (lX : ∀ j, j < n → X j < 4294967296) (lY : ∀ j, j < m → Y j < 4294967296) (pX : 0 < n → X (n - 1) ≠ 0) (pY : 0 < m → Y (m - 1) ≠ 0) :
    ∃ c d gn gm an am cn cm, t5 = .pointer (some ⟨c, 0, none⟩) ∧ t6 = .pointer (some ⟨d, 0, none⟩) ∧ Gd wA.heap.size wA w c d gn gm an am n m cn cm X Y := by
  obtain ⟨c, e5, c1, c2, c3⟩ := h.h4 rfl
  obtain ⟨d, e6, d1, d2, d3⟩ := h.h5 rfl
  have hs := h.S.size
  obtain ⟨an, gn, cn, e21, q1, q2, q3, q4, q5, q6, q7⟩ := ow_parts (h.h1 rfl) h.B21 w.heap.size hs (Nat.le_refl _)
  obtain ⟨am, gm, cm, e23, r1, r2, r3, r4, r5, r6, r7⟩ := ow_parts (h.h3 rfl) h.B23 (w.heap.size + 1) (by omega) (by omega)
  have kc : bk t5 = some c := by rw [e5]; rfl
  have kd : bk t6 = some d := by rw [e6]; rfl
  have bn : gn < w.heap.size ∨ gn = w.heap.size := q6.elim Or.inr fun e => Or.inl (h.B21 _ e).2
  have bm : gm < w.heap.size ∨ gm = w.heap.size + 1 := r6.elim Or.inr fun e => Or.inl (h.B23 _ e).2
  refine ⟨c, d, gn, gm, an, am, cn, cm, e5, e6, h.S, by rw [c1, if_pos rfl, e21], by rw [d1, if_pos rfl, e23], c2, d2, q3, r3, q4, r4, q1, r1, q2, r2, lX, lY, pX, pY, (h.B5 c kc).1, (h.B6 d kd).1, q5, r5, ?_, ?_, ?_, ?_, ?_, ?_, by rw [← e21]; exact q7, by rw [← e23]; exact r7⟩
  · exact fun e => h.A56 c kc (by rw [kd, e])
  · rcases q6 with e | e
    · omega
    · rcases r6 with e' | e'
      · have := (h.B21 _ e).2; omega
      · exact fun k => h.A13 gn e (by rw [e', k])
  · rcases q6 with e | e
    · omega
    · exact fun k => h.A51 c kc (by rw [e, k])
  · rcases q6 with e | e
    · omega
    · exact fun k => h.A61 d kd (by rw [e, k])
  · rcases r6 with e | e
    · omega
    · exact fun k => h.A53 c kc (by rw [e, k])
  · rcases r6 with e | e
    · omega
    · exact fun k => h.A63 d kd (by rw [e, k])
end

end Go.Proofs.Ythaomfabdghfjaa

namespace Go.Proofs.Ythaomfabdghfjaa
open Go.RowKit

/-- What comes up. -/
def rdy (l0 l1 l2 l3 l4 l5 l6 l7 : Bool) : Nat → Bool
  | 0 => !l0
  | 1 => l0 && !l1 && !l6 && !l3
  | 2 => !l2
  | 3 => l1 && l2 && !l3 && !l7
  | 4 => !l4 && !l6
  | 5 => !l5 && !l7
  | 6 => l4 && l1 && l3 && l5 && !l6
  | 7 => l6 && l5 && l3 && !l7
  | _ => false

def left8 (l0 l1 l2 l3 l4 l5 l6 l7 : Bool) : Nat := (!l0).toNat + (!l1).toNat + (!l2).toNat + (!l3).toNat + (!l4).toNat + (!l5).toNat + (!l6).toNat + (!l7).toNat
/-- The reached ones. -/
def okl (l1 l3 l4 l5 l6 l7 : Bool) : Bool := (!l6 || (l1 && l3 && l4 && l5)) && (!l7 || l6) && (!l3 || l1)

set_option maxHeartbeats 6400000 in
set_option maxRecDepth 100000 in
theorem gcdOf_big (a b : Option Addr) (ba oa n ca bb ob m cb : Nat) (X Y : Nat → Nat) (w : World) (_hw : 0 ≤ w.heap.size) (hn : n ≤ 1048576) (hm : m ≤ 1048576) (hnc : n ≤ ca) (hmc : m ≤ cb) (hac : a = none → ca = 0) (hbc : b = none → cb = 0)
    (hX : Limbs w a ba oa n X) (hY : Limbs w b bb ob m Y) (hXl : ∀ j, j < n → X j < 4294967296) (hYl : ∀ j, j < m → Y j < 4294967296) (pX : 0 < n → X (n - 1) ≠ 0) (pY : 0 < m → Y (m - 1) ≠ 0) (_hT : Tab w)
    (h1 : lv X n ≠ 1) (h2 : lv Y m ≠ 1) (h3 : 2 < n ∨ 2 < m) :
    Calls Try.prog 29 #[.slice a n ca, .slice b m cb] w fun e w' => ∃ v g, e = .returned v ∧ NatAt w' v g (Nat.gcd (lv X n) (lv Y m)) 4194304 ∧ w.heap.size ≤ g ∧ w.Since w.heap.size w' := by
  have d1 : decide (lv X n = 1) = false := by simp [h1]
  have d2 : decide (lv Y m = 1) = false := by simp [h2]
  have sA : w.Since w.heap.size ((w.alloc (.cells #[.slice a n ca] 58)).alloc (.cells #[.slice b m cb] 58)) := ((World.Since.refl _ _).alloc (Nat.le_refl _) _).alloc (by simp) _
  have bx1 : ((w.alloc (.cells #[.slice a n ca] 58)).alloc (.cells #[.slice b m cb] 58)).cell? ⟨w.heap.size, 0, none⟩ = some (.slice a n ca) := by rw [World.cell?_alloc_old _ _ _ (by simp)]; simp [go_sem]
  have bx2 : ((w.alloc (.cells #[.slice a n ca] 58)).alloc (.cells #[.slice b m cb] 58)).cell? ⟨w.heap.size + 1, 0, none⟩ = some (.slice b m cb) := by simp [go_sem]
  have zA : w.heap.size + 2 ≤ ((w.alloc (.cells #[.slice a n ca] 58)).alloc (.cells #[.slice b m cb] 58)).heap.size := by simp
  have XA := hX.keep sA
  have YA := hY.keep sA
  go_enter Try.func29, Try.ntmps29
  go_wp2_with fail
  generalize (w.alloc (.cells #[.slice a n ca] 58)).alloc (.cells #[.slice b m cb] 58) = wA at *
  have I1 := isOne_any w.heap.size 0 a ba oa n ca X wA bx1 XA hXl pX
  have I2 := isOne_any (w.heap.size + 1) 0 b bb ob m cb Y wA bx2 YA hYl pY
  rw [d1] at I1
  rw [d2] at I2
  refine I1.mono ?_
  clear I1
  rintro e w1 ⟨rfl, hw1⟩
  rw [hw1]
  clear hw1
  have I2 := hide I2
  go_wp2_with fail
  refine I2.out.mono ?_
  clear I2
  rintro e w1 ⟨rfl, hw1⟩
  rw [hw1]
  clear hw1
  by_cases h4 : 2 < n
  · go_wp2_with fail
    refine (isShort_no w.heap.size 0 a n ca _ h4 bx1).mono ?_
    rintro e w1 ⟨rfl, hw1⟩
    rw [hw1]
    clear hw1 d1 d2 h1 h2 hX hY
    go_wp2
    refine wp_region_any (by kernel_rfl) ?_
    change wpAny _ _ _ _ _ _ _ (World.drew _)
    have bx1 : wA.drew.cell? ⟨w.heap.size, 0, none⟩ = some (.slice a n ca) := bx1
    have bx2 : wA.drew.cell? ⟨w.heap.size + 1, 0, none⟩ = some (.slice b m cb) := bx2
    have XA : Limbs wA.drew a ba oa n X := XA
    have YA : Limbs wA.drew b bb ob m Y := YA
    have zA : w.heap.size + 2 ≤ wA.drew.heap.size := zA
    have sA : w.Since w.heap.size wA.drew := ⟨sA.os, sA.tape, sA.output, sA.size, sA.block⟩
    generalize wA.drew = wD at *
    refine wpAny_inv (fun fuel l ac wx => ∃ l0 l1 l2 l3 l4 l5 l6 l7 t5 t6 t20 t21 t22 t23, l = #[l0, l1, l2, l3, l4, l5, l6, l7] ∧ fuel = left8 l0 l1 l2 l3 l4 l5 l6 l7 ∧ okl l1 l3 l4 l5 l6 l7 = true ∧
      ac = { tmps := #[Value.slice a n ca, Value.slice b m cb, Value.pointer (some { block := w.heap.size, off := 0 }), Value.pointer (some { block := w.heap.size + 1, off := 0 }), Value.slice none 0 0, t5, t6,
            Value.bool false, Value.bool false, Value.bool false, Value.bool false, undef, Value.bool false, Value.bool false, undef, Value.bool false, undef, undef, undef, undef, t20, t21, t22, t23, undef, undef], defers := [] } ∧
      J wD (.slice a n ca) (.slice b m cb) (tlen (nz X) n) (tlen (nz Y) m) X Y l0 l1 l2 l3 l4 l5 l6 l7 t5 t6 t20 t21 t22 t23 wx) ?_ ?_ ?_ _ _ _ _ ⟨_, _, _, _, _, _, _, _, _, _, _, _, _, _, rfl, rfl, rfl, rfl, J.start _ _ _ _ _ _ _ _ _⟩
    · rintro fuel l ac wx ⟨l0, l1, l2, l3, l4, l5, l6, l7, t5, t6, t20, t21, t22, t23, rfl, hf, hk, rfl, j⟩ i hi
      have hr : rdy l0 l1 l2 l3 l4 l5 l6 l7 i = true := by
        revert i
        refine List.all_eq_true.1 ?_
        revert hk
        clear hf j
        revert l0 l1 l2 l3 l4 l5 l6 l7
        exact of_decide_eq_true (by kernel_rfl)
      have k1 : wx.cell? ⟨w.heap.size, 0, none⟩ = some (.slice a n ca) := by rw [j.S.cell (a := ⟨w.heap.size, 0, none⟩) (by show w.heap.size < _; omega)]; exact bx1
      have k2 : wx.cell? ⟨w.heap.size + 1, 0, none⟩ = some (.slice b m cb) := by rw [j.S.cell (a := ⟨w.heap.size + 1, 0, none⟩) (by show w.heap.size + 1 < _; omega)]; exact bx2
      have kX := XA.keep j.S
      have kY := YA.keep j.S
      clear hi
      rcases i with _ | _ | _ | _ | _ | _ | _ | _ | i
      · simp [rdy] at hr
        subst hr
        refine ⟨_, rfl, fun K hK => ?_⟩
        go_simp
        refine hK _ _ ⟨true, l1, l2, l3, l4, l5, l6, l7, t5, t6, _, t21, t22, t23, rfl, ?_, hk, rfl, j.op0⟩
        simp [left8] at hf ⊢; omega
      · simp [rdy] at hr
        obtain ⟨⟨⟨rfl, rfl⟩, rfl⟩, rfl⟩ := hr
        have e := j.h0 rfl
        subst e
        refine ⟨_, rfl, fun K hK => ?_⟩
        go_simp
        refine (ownCopy_any a ba oa n ca X _ (by omega) hnc hac kX).mono ?_
        rintro e w' ⟨v, rfl, o, s⟩
        refine hK _ _ ⟨true, true, l2, false, l4, l5, false, l7, t5, t6, _, v, t22, t23, rfl, ?_, ?_, rfl, j.op1 s (own_ow o).1 (own_ow o).2⟩
        · simp [left8] at hf ⊢; omega
        · simpa [okl] using hk
      · simp [rdy] at hr
        subst hr
        refine ⟨_, rfl, fun K hK => ?_⟩
        go_simp
        refine hK _ _ ⟨l0, l1, true, l3, l4, l5, l6, l7, t5, t6, t20, t21, _, t23, rfl, ?_, hk, rfl, j.op2⟩
        simp [left8] at hf ⊢; omega
      · simp [rdy] at hr
        obtain ⟨⟨⟨rfl, rfl⟩, rfl⟩, rfl⟩ := hr
        have e := j.h2 rfl
        subst e
        refine ⟨_, rfl, fun K hK => ?_⟩
        go_simp
        refine (ownCopy_any b bb ob m cb Y _ (by omega) hmc hbc kY).mono ?_
        rintro e w' ⟨v, rfl, o, s⟩
        refine hK _ _ ⟨l0, true, true, true, l4, l5, l6, false, t5, t6, t20, t21, _, v, rfl, ?_, ?_, rfl, j.op3 s (own_ow o).1 (own_ow o).2⟩
        · simp [left8] at hf ⊢; omega
        · revert hk; cases l6 <;> cases l4 <;> cases l5 <;> decide
      · simp [rdy] at hr
        obtain ⟨rfl, rfl⟩ := hr
        refine ⟨_, rfl, fun K hK => ?_⟩
        go_simp
        refine hK _ _ ⟨l0, l1, l2, l3, true, l5, false, l7, _, t6, t20, t21, t22, t23, rfl, ?_, ?_, rfl, j.op4 58⟩
        · simp [left8] at hf ⊢; omega
        · simpa [okl] using hk
      · simp [rdy] at hr
        obtain ⟨rfl, rfl⟩ := hr
        refine ⟨_, rfl, fun K hK => ?_⟩
        go_simp
        refine hK _ _ ⟨l0, l1, l2, l3, l4, true, l6, false, t5, _, t20, t21, t22, t23, rfl, ?_, ?_, rfl, j.op5 58⟩
        · simp [left8] at hf ⊢; omega
        · revert hk; cases l6 <;> cases l4 <;> cases l1 <;> cases l3 <;> decide
      · simp [rdy] at hr
        obtain ⟨⟨⟨⟨rfl, rfl⟩, rfl⟩, rfl⟩, rfl⟩ := hr
        obtain ⟨c, e5, c1, c2, c3⟩ := j.h4 rfl
        obtain ⟨xa, xg, xc, e21, -⟩ := ow_parts (j.h1 rfl) j.B21 wx.heap.size j.S.size (Nat.le_refl _)
        subst e5 e21
        rw [if_neg (by simp)] at c1
        refine ⟨_, rfl, fun K hK => ?_⟩
        go_simp
        refine hK _ _ ⟨l0, true, l2, true, true, true, true, l7, _, t6, t20, _, t22, t23, rfl, ?_, ?_, rfl, j.op6 rfl⟩
        · simp [left8] at hf ⊢; omega
        · simp [okl]
      · simp [rdy] at hr
        obtain ⟨⟨⟨rfl, rfl⟩, rfl⟩, rfl⟩ := hr
        obtain ⟨c, e5, c1, c2, c3⟩ := j.h5 rfl
        obtain ⟨xa, xg, xc, e21, -⟩ := ow_parts (j.h3 rfl) j.B23 wx.heap.size j.S.size (Nat.le_refl _)
        subst e5 e21
        rw [if_neg (by simp)] at c1
        refine ⟨_, rfl, fun K hK => ?_⟩
        go_simp
        refine hK _ _ ⟨l0, l1, l2, true, l4, true, true, true, t5, _, t20, t21, t22, _, rfl, ?_, ?_, rfl, j.op7 rfl⟩
        · simp [left8] at hf ⊢; omega
        · simpa [okl] using hk
      · cases hr
    · rintro l ac wx ⟨l0, l1, l2, l3, l4, l5, l6, l7, t5, t6, t20, t21, t22, t23, rfl, hf, hk, rfl, j⟩
      revert hf
      clear hk j
      revert l0 l1 l2 l3 l4 l5 l6 l7
      exact of_decide_eq_true (by kernel_rfl)
    · rintro fuel l ac wx ⟨l0, l1, l2, l3, l4, l5, l6, l7, t5, t6, t20, t21, t22, t23, rfl, hf, hk, rfl, j⟩ he
      have hall : (l0 && (l1 && (l2 && (l3 && (l4 && (l5 && (l6 && l7))))))) = true := by
        revert he
        clear hf j
        revert hk
        revert l0 l1 l2 l3 l4 l5 l6 l7
        exact of_decide_eq_true (by kernel_rfl)
      simp only [Bool.and_eq_true] at hall
      obtain ⟨rfl, rfl, rfl, rfl, rfl, rfl, rfl, rfl⟩ := hall
      have htX := tlen_le (nz X) n
      have htY := tlen_le (nz Y) m
      obtain ⟨c, d, gn, gm, an, am, cn, cm, rfl, rfl, G⟩ := j.gd (fun q hq => hXl q (by omega)) (fun q hq => hYl q (by omega)) (fun h => by have := tlen_top (nz X) n h; simpa [nz] using this) (fun h => by have := tlen_top (nz Y) m h; simpa [nz] using this)
      have HL := hide (And.intro (lv_tlen X n) (lv_tlen Y m))
      have hTD : Tab wD := trivial
      clear j he hk hf hXl hYl pX pY
      go_wp2_with fail
      refine (becomeGcd_any _ c d gn gm an am _ _ cn cm X Y _ _ (by omega) (by omega) (by omega) G hTD).mono ?_
      rintro e w3 ⟨rfl, ra, rg, rk, rc, Z, z1, z2, z3, z4, z5, z6, z7, z8, z9, z10, z11⟩
      have Z7 := hide (And.intro z7 (And.intro z8 z9))
      clear z7 z8 z9
      go_wp2_with fail
      go_ret
      refine ⟨_, rg, rfl, ⟨ra, rk, rc, Z, rfl, z2, z3, z4, z5, z6, Z7.out.1, Z7.out.2.1, ?_⟩, by omega, sA.trans (sinceMono z11 (by omega))⟩
      rw [Z7.out.2.2, HL.out.1, HL.out.2]
  · go_wp2_with fail
    refine (isShort_yes w.heap.size 0 a n ca _ (by omega) bx1).mono ?_
    rintro e w1 ⟨rfl, hw1⟩
    rw [hw1]
    clear hw1
    go_wp2_with fail
    refine (isShort_no (w.heap.size + 1) 0 b m cb _ (by omega) bx2).mono ?_
    rintro e w1 ⟨rfl, hw1⟩
    rw [hw1]
    clear hw1 d1 d2 h1 h2 hX hY
    go_wp2
    refine wp_region_any (by kernel_rfl) ?_
    change wpAny _ _ _ _ _ _ _ (World.drew _)
    have bx1 : wA.drew.cell? ⟨w.heap.size, 0, none⟩ = some (.slice a n ca) := bx1
    have bx2 : wA.drew.cell? ⟨w.heap.size + 1, 0, none⟩ = some (.slice b m cb) := bx2
    have XA : Limbs wA.drew a ba oa n X := XA
    have YA : Limbs wA.drew b bb ob m Y := YA
    have zA : w.heap.size + 2 ≤ wA.drew.heap.size := zA
    have sA : w.Since w.heap.size wA.drew := ⟨sA.os, sA.tape, sA.output, sA.size, sA.block⟩
    generalize wA.drew = wD at *
    refine wpAny_inv (fun fuel l ac wx => ∃ l0 l1 l2 l3 l4 l5 l6 l7 t5 t6 t20 t21 t22 t23, l = #[l0, l1, l2, l3, l4, l5, l6, l7] ∧ fuel = left8 l0 l1 l2 l3 l4 l5 l6 l7 ∧ okl l1 l3 l4 l5 l6 l7 = true ∧
      ac = { tmps := #[Value.slice a n ca, Value.slice b m cb, Value.pointer (some { block := w.heap.size, off := 0 }), Value.pointer (some { block := w.heap.size + 1, off := 0 }), Value.slice none 0 0, t5, t6,
            Value.bool false, Value.bool false, Value.bool false, Value.bool false, undef, Value.bool true, Value.bool true, Value.bool false, Value.bool false, undef, undef, undef, undef, t20, t21, t22, t23, undef, undef], defers := [] } ∧
      J wD (.slice a n ca) (.slice b m cb) (tlen (nz X) n) (tlen (nz Y) m) X Y l0 l1 l2 l3 l4 l5 l6 l7 t5 t6 t20 t21 t22 t23 wx) ?_ ?_ ?_ _ _ _ _ ⟨_, _, _, _, _, _, _, _, _, _, _, _, _, _, rfl, rfl, rfl, rfl, J.start _ _ _ _ _ _ _ _ _⟩
    · rintro fuel l ac wx ⟨l0, l1, l2, l3, l4, l5, l6, l7, t5, t6, t20, t21, t22, t23, rfl, hf, hk, rfl, j⟩ i hi
      have hr : rdy l0 l1 l2 l3 l4 l5 l6 l7 i = true := by
        revert i
        refine List.all_eq_true.1 ?_
        revert hk
        clear hf j
        revert l0 l1 l2 l3 l4 l5 l6 l7
        exact of_decide_eq_true (by kernel_rfl)
      have k1 : wx.cell? ⟨w.heap.size, 0, none⟩ = some (.slice a n ca) := by rw [j.S.cell (a := ⟨w.heap.size, 0, none⟩) (by show w.heap.size < _; omega)]; exact bx1
      have k2 : wx.cell? ⟨w.heap.size + 1, 0, none⟩ = some (.slice b m cb) := by rw [j.S.cell (a := ⟨w.heap.size + 1, 0, none⟩) (by show w.heap.size + 1 < _; omega)]; exact bx2
      have kX := XA.keep j.S
      have kY := YA.keep j.S
      clear hi
      rcases i with _ | _ | _ | _ | _ | _ | _ | _ | i
      · simp [rdy] at hr
        subst hr
        refine ⟨_, rfl, fun K hK => ?_⟩
        go_simp
        refine hK _ _ ⟨true, l1, l2, l3, l4, l5, l6, l7, t5, t6, _, t21, t22, t23, rfl, ?_, hk, rfl, j.op0⟩
        simp [left8] at hf ⊢; omega
      · simp [rdy] at hr
        obtain ⟨⟨⟨rfl, rfl⟩, rfl⟩, rfl⟩ := hr
        have e := j.h0 rfl
        subst e
        refine ⟨_, rfl, fun K hK => ?_⟩
        go_simp
        refine (ownCopy_any a ba oa n ca X _ (by omega) hnc hac kX).mono ?_
        rintro e w' ⟨v, rfl, o, s⟩
        refine hK _ _ ⟨true, true, l2, false, l4, l5, false, l7, t5, t6, _, v, t22, t23, rfl, ?_, ?_, rfl, j.op1 s (own_ow o).1 (own_ow o).2⟩
        · simp [left8] at hf ⊢; omega
        · simpa [okl] using hk
      · simp [rdy] at hr
        subst hr
        refine ⟨_, rfl, fun K hK => ?_⟩
        go_simp
        refine hK _ _ ⟨l0, l1, true, l3, l4, l5, l6, l7, t5, t6, t20, t21, _, t23, rfl, ?_, hk, rfl, j.op2⟩
        simp [left8] at hf ⊢; omega
      · simp [rdy] at hr
        obtain ⟨⟨⟨rfl, rfl⟩, rfl⟩, rfl⟩ := hr
        have e := j.h2 rfl
        subst e
        refine ⟨_, rfl, fun K hK => ?_⟩
        go_simp
        refine (ownCopy_any b bb ob m cb Y _ (by omega) hmc hbc kY).mono ?_
        rintro e w' ⟨v, rfl, o, s⟩
        refine hK _ _ ⟨l0, true, true, true, l4, l5, l6, false, t5, t6, t20, t21, _, v, rfl, ?_, ?_, rfl, j.op3 s (own_ow o).1 (own_ow o).2⟩
        · simp [left8] at hf ⊢; omega
        · revert hk; cases l6 <;> cases l4 <;> cases l5 <;> decide
      · simp [rdy] at hr
        obtain ⟨rfl, rfl⟩ := hr
        refine ⟨_, rfl, fun K hK => ?_⟩
        go_simp
        refine hK _ _ ⟨l0, l1, l2, l3, true, l5, false, l7, _, t6, t20, t21, t22, t23, rfl, ?_, ?_, rfl, j.op4 58⟩
        · simp [left8] at hf ⊢; omega
        · simpa [okl] using hk
      · simp [rdy] at hr
        obtain ⟨rfl, rfl⟩ := hr
        refine ⟨_, rfl, fun K hK => ?_⟩
        go_simp
        refine hK _ _ ⟨l0, l1, l2, l3, l4, true, l6, false, t5, _, t20, t21, t22, t23, rfl, ?_, ?_, rfl, j.op5 58⟩
        · simp [left8] at hf ⊢; omega
        · revert hk; cases l6 <;> cases l4 <;> cases l1 <;> cases l3 <;> decide
      · simp [rdy] at hr
        obtain ⟨⟨⟨⟨rfl, rfl⟩, rfl⟩, rfl⟩, rfl⟩ := hr
        obtain ⟨c, e5, c1, c2, c3⟩ := j.h4 rfl
        obtain ⟨xa, xg, xc, e21, -⟩ := ow_parts (j.h1 rfl) j.B21 wx.heap.size j.S.size (Nat.le_refl _)
        subst e5 e21
        rw [if_neg (by simp)] at c1
        refine ⟨_, rfl, fun K hK => ?_⟩
        go_simp
        refine hK _ _ ⟨l0, true, l2, true, true, true, true, l7, _, t6, t20, _, t22, t23, rfl, ?_, ?_, rfl, j.op6 rfl⟩
        · simp [left8] at hf ⊢; omega
        · simp [okl]
      · simp [rdy] at hr
        obtain ⟨⟨⟨rfl, rfl⟩, rfl⟩, rfl⟩ := hr
        obtain ⟨c, e5, c1, c2, c3⟩ := j.h5 rfl
        obtain ⟨xa, xg, xc, e21, -⟩ := ow_parts (j.h3 rfl) j.B23 wx.heap.size j.S.size (Nat.le_refl _)
        subst e5 e21
        rw [if_neg (by simp)] at c1
        refine ⟨_, rfl, fun K hK => ?_⟩
        go_simp
        refine hK _ _ ⟨l0, l1, l2, true, l4, true, true, true, t5, _, t20, t21, t22, _, rfl, ?_, ?_, rfl, j.op7 rfl⟩
        · simp [left8] at hf ⊢; omega
        · simpa [okl] using hk
      · cases hr
    · rintro l ac wx ⟨l0, l1, l2, l3, l4, l5, l6, l7, t5, t6, t20, t21, t22, t23, rfl, hf, hk, rfl, j⟩
      revert hf
      clear hk j
      revert l0 l1 l2 l3 l4 l5 l6 l7
      exact of_decide_eq_true (by kernel_rfl)
    · rintro fuel l ac wx ⟨l0, l1, l2, l3, l4, l5, l6, l7, t5, t6, t20, t21, t22, t23, rfl, hf, hk, rfl, j⟩ he
      have hall : (l0 && (l1 && (l2 && (l3 && (l4 && (l5 && (l6 && l7))))))) = true := by
        revert he
        clear hf j
        revert hk
        revert l0 l1 l2 l3 l4 l5 l6 l7
        exact of_decide_eq_true (by kernel_rfl)
      simp only [Bool.and_eq_true] at hall
      obtain ⟨rfl, rfl, rfl, rfl, rfl, rfl, rfl, rfl⟩ := hall
      have htX := tlen_le (nz X) n
      have htY := tlen_le (nz Y) m
      obtain ⟨c, d, gn, gm, an, am, cn, cm, rfl, rfl, G⟩ := j.gd (fun q hq => hXl q (by omega)) (fun q hq => hYl q (by omega)) (fun h => by have := tlen_top (nz X) n h; simpa [nz] using this) (fun h => by have := tlen_top (nz Y) m h; simpa [nz] using this)
      have HL := hide (And.intro (lv_tlen X n) (lv_tlen Y m))
      have hTD : Tab wD := trivial
      clear j he hk hf hXl hYl pX pY
      go_wp2_with fail
      refine (becomeGcd_any _ c d gn gm an am _ _ cn cm X Y _ _ (by omega) (by omega) (by omega) G hTD).mono ?_
      rintro e w3 ⟨rfl, ra, rg, rk, rc, Z, z1, z2, z3, z4, z5, z6, z7, z8, z9, z10, z11⟩
      have Z7 := hide (And.intro z7 (And.intro z8 z9))
      clear z7 z8 z9
      go_wp2_with fail
      go_ret
      refine ⟨_, rg, rfl, ⟨ra, rk, rc, Z, rfl, z2, z3, z4, z5, z6, Z7.out.1, Z7.out.2.1, ?_⟩, by omega, sA.trans (sinceMono z11 (by omega))⟩
      rw [Z7.out.2.2, HL.out.1, HL.out.2]

end Go.Proofs.Ythaomfabdghfjaa

namespace Go.Proofs.Ythaomfabdghfjaa
open Go.RowKit

theorem natAt_one (w : World) : NatAt (w.alloc (.cells #[.int .u32 1] 73)) (.slice (some ⟨w.heap.size, 0, none⟩) 1 1) w.heap.size 1 4194304 := by
  refine ⟨_, 1, 1, fun _ => 1, rfl, by omega, by omega, fun h => (by cases h), fun j hj => ?_, fun _ o => by simp [go_sem], fun _ _ => (by show 1 < 4294967296; omega), fun _ => by decide, by simp [lv]⟩
  have e : j = 0 := by omega
  subst e
  exact ⟨rfl, by simp [go_sem]⟩

set_option maxHeartbeats 6400000 in
set_option maxRecDepth 100000 in
theorem gcdOf_any (a b : Option Addr) (ba oa n ca bb ob m cb : Nat) (X Y : Nat → Nat) (w : World) (hw : 0 ≤ w.heap.size) (hn : n ≤ 1048576) (hm : m ≤ 1048576) (hnc : n ≤ ca) (hmc : m ≤ cb) (hac : a = none → ca = 0) (hbc : b = none → cb = 0)
    (hX : Limbs w a ba oa n X) (hY : Limbs w b bb ob m Y) (hXl : ∀ j, j < n → X j < 4294967296) (hYl : ∀ j, j < m → Y j < 4294967296) (pX : 0 < n → X (n - 1) ≠ 0) (pY : 0 < m → Y (m - 1) ≠ 0) (hT : Tab w) :
    Calls Try.prog 29 #[.slice a n ca, .slice b m cb] w fun e w' => ∃ v g, e = .returned v ∧ NatAt w' v g (Nat.gcd (lv X n) (lv Y m)) 4194304 ∧ w.heap.size ≤ g ∧ w.Since w.heap.size w' := by
  by_cases hbig : lv X n ≠ 1 ∧ lv Y m ≠ 1 ∧ (2 < n ∨ 2 < m)
  · exact gcdOf_big a b ba oa n ca bb ob m cb X Y w hw hn hm hnc hmc hac hbc hX hY hXl hYl pX pY hT hbig.1 hbig.2.1 hbig.2.2
  have sA : w.Since w.heap.size ((w.alloc (.cells #[.slice a n ca] 58)).alloc (.cells #[.slice b m cb] 58)) := ((World.Since.refl _ _).alloc (Nat.le_refl _) _).alloc (by simp) _
  have bx1 : ((w.alloc (.cells #[.slice a n ca] 58)).alloc (.cells #[.slice b m cb] 58)).cell? ⟨w.heap.size, 0, none⟩ = some (.slice a n ca) := by rw [World.cell?_alloc_old _ _ _ (by simp)]; simp [go_sem]
  have bx2 : ((w.alloc (.cells #[.slice a n ca] 58)).alloc (.cells #[.slice b m cb] 58)).cell? ⟨w.heap.size + 1, 0, none⟩ = some (.slice b m cb) := by simp [go_sem]
  have zA : w.heap.size + 2 ≤ ((w.alloc (.cells #[.slice a n ca] 58)).alloc (.cells #[.slice b m cb] 58)).heap.size := by simp
  have XA := hX.keep sA
  have YA := hY.keep sA
  by_cases h1 : lv X n = 1
  · have eG : Nat.gcd (lv X n) (lv Y m) = 1 := by rw [h1]; exact Nat.gcd_one_left _
    rw [eG]
    have d1 : decide (lv X n = 1) = true := by simp [h1]
    go_enter Try.func29, Try.ntmps29
    go_wp2_with fail
    generalize (w.alloc (.cells #[.slice a n ca] 58)).alloc (.cells #[.slice b m cb] 58) = wA at *
    have I1 := isOne_any w.heap.size 0 a ba oa n ca X wA bx1 XA hXl pX
    rw [d1] at I1
    refine I1.mono ?_
    clear I1
    rintro e w1 ⟨rfl, hw1⟩
    rw [hw1]
    clear hw1 hXl hYl pX pY d1 h1 hbig eG
    go_wp2
    go_ret
    exact ⟨_, wA.heap.size, rfl, natAt_one wA, by omega, sA.alloc (by omega) _⟩
  by_cases h2 : lv Y m = 1
  · have eG : Nat.gcd (lv X n) (lv Y m) = 1 := by rw [h2]; exact Nat.gcd_one_right _
    rw [eG]
    have d1 : decide (lv X n = 1) = false := by simp [h1]
    have d2 : decide (lv Y m = 1) = true := by simp [h2]
    go_enter Try.func29, Try.ntmps29
    go_wp2_with fail
    generalize (w.alloc (.cells #[.slice a n ca] 58)).alloc (.cells #[.slice b m cb] 58) = wA at *
    have I1 := isOne_any w.heap.size 0 a ba oa n ca X wA bx1 XA hXl pX
    have I2 := isOne_any (w.heap.size + 1) 0 b bb ob m cb Y wA bx2 YA hYl pY
    rw [d1] at I1
    rw [d2] at I2
    refine I1.mono ?_
    clear I1
    rintro e w1 ⟨rfl, hw1⟩
    rw [hw1]
    clear hw1
    have I2 := hide I2
    go_wp2_with fail
    refine I2.out.mono ?_
    clear I2
    rintro e w1 ⟨rfl, hw1⟩
    rw [hw1]
    clear hw1 hXl hYl pX pY d1 d2 h1 h2 hbig eG
    go_wp2
    go_ret
    exact ⟨_, wA.heap.size, rfl, natAt_one wA, by omega, sA.alloc (by omega) _⟩
  · have h3 : n ≤ 2 := by rcases Nat.lt_or_ge 2 n with h | h; · exact absurd ⟨h1, h2, Or.inl h⟩ hbig
                          · exact h
    have h4 : m ≤ 2 := by rcases Nat.lt_or_ge 2 m with h | h; · exact absurd ⟨h1, h2, Or.inr h⟩ hbig
                          · exact h
    have d1 : decide (lv X n = 1) = false := by simp [h1]
    have d2 : decide (lv Y m = 1) = false := by simp [h2]
    have vX : lv X n < 18446744073709551616 := short_lt h3 hXl
    have vY : lv Y m < 18446744073709551616 := short_lt h4 hYl
    have vG : Nat.gcd (lv X n) (lv Y m) < 18446744073709551616 := by
      rcases Nat.eq_zero_or_pos (lv X n) with e | e
      · rw [e, Nat.gcd_zero_left]; exact vY
      · exact Nat.lt_of_le_of_lt (Nat.gcd_le_left _ e) vX
    go_enter Try.func29, Try.ntmps29
    go_wp2_with fail
    generalize (w.alloc (.cells #[.slice a n ca] 58)).alloc (.cells #[.slice b m cb] 58) = wA at *
    have I1 := isOne_any w.heap.size 0 a ba oa n ca X wA bx1 XA hXl pX
    have I2 := isOne_any (w.heap.size + 1) 0 b bb ob m cb Y wA bx2 YA hYl pY
    rw [d1] at I1
    rw [d2] at I2
    refine I1.mono ?_
    clear I1
    rintro e w1 ⟨rfl, hw1⟩
    rw [hw1]
    clear hw1
    have I2 := hide I2
    go_wp2_with fail
    refine I2.out.mono ?_
    clear I2
    rintro e w1 ⟨rfl, hw1⟩
    rw [hw1]
    clear hw1
    go_wp2_with fail
    refine (isShort_yes w.heap.size 0 a n ca _ h3 bx1).mono ?_
    rintro e w1 ⟨rfl, hw1⟩
    rw [hw1]
    clear hw1
    go_wp2_with fail
    refine (isShort_yes (w.heap.size + 1) 0 b m cb _ h4 bx2).mono ?_
    rintro e w1 ⟨rfl, hw1⟩
    rw [hw1]
    clear hw1
    go_wp2_with fail
    refine (short_any w.heap.size 0 a ba oa n ca X wA h3 bx1 XA hXl).mono ?_
    rintro e w1 ⟨rfl, hw1⟩
    rw [hw1]
    clear hw1
    go_wp2_with fail
    refine (short_any (w.heap.size + 1) 0 b bb ob m cb Y wA h4 bx2 YA hYl).mono ?_
    rintro e w1 ⟨rfl, hw1⟩
    rw [hw1]
    clear hw1
    go_wp2_with fail
    refine (shortGcd_any _ _ wA vX vY).mono ?_
    rintro e w1 ⟨rfl, s1⟩
    go_wp2_with fail
    refine (natOfShort_any _ w1 vG).mono ?_
    rintro e w2 ⟨S, rfl, r2, l2, e2, s2⟩
    go_wp2_with fail
    go_ret
    have t2 := tlen_le (nz S) 2
    have z1 := (s1.since wA.heap.size).size
    have L2 := limbs_row r2
    refine ⟨_, w1.heap.size, rfl, ⟨_, _, _, S, rfl, t2, by omega, fun h => (by cases h), L2.take t2, fun _ o => r2.frozen o, fun j _ => l2 j, fun h => by have := tlen_top (nz S) 2 h; simpa [nz] using this, by rw [lv_tlen]; exact e2⟩, by omega, ?_⟩
    exact (sA.trans (sinceMono (s1.since wA.heap.size) (by omega))).trans (sinceMono s2 (by omega))

end Go.Proofs.Ythaomfabdghfjaa
