import Derived.Test.YtnogbaapcjjngaaGreatDoorOwnP16
import Derived.Deep.RegionWith
import Derived.Test.YtnogbaapcjjngaaGreatDoorOwnP2
import Derived.Deep.RegionHeld3
import Derived.Test.YtnogbaapcjjngaaGreatDoorOwnP3
import Derived.Test.YtnogbaapcjjngaaGreatDoorOwnP10
import Derived.Test.YtnogbaapcjjngaaGreatDoorOwnP6
import Derived.Test.YtnogbaapcjjngaaGreatDoorOwnP1
namespace Go.Proofs.YtnogbaapcjjngaaGreatDoor
open Go.RowKit

/-- A region that draws its order, by one relation that every operation keeps. -/
theorem wpAny_inv {P : Program} {md : Region.Mode} {ops : Array Oper} {Q : Exit → Act → World → Prop} (I : Nat → Array Bool → Act → World → Prop)
    (hs : ∀ fuel l a w, I (fuel + 1) l a w → ∀ i ∈ Region.ready md ops l, ∃ o, ops[i]? = some o ∧ ∀ K' : Act → World → Prop, (∀ a w, I fuel (l.setIfInBounds i true) a w → K' a w) → if Region.wanted o (yielded ops a.tmps) = true then Oper.wp P o a w K' Q else K' (a.put o.dst undef) w)
    (h0 : ∀ l a w, I 0 l a w → Region.ready md ops l = [])
    (he : ∀ fuel l a w, I fuel l a w → Region.ready md ops l = [] → Q .normal a w) :
    ∀ fuel l a w, I fuel l a w → wpAny P md ops Q fuel l a w
  | 0, l, a, w, h => ⟨h0 l a w h, he 0 l a w h (h0 l a w h)⟩
  | fuel + 1, l, a, w, h => ⟨he _ l a w h, fun i hi => by
      obtain ⟨o, ho, hk⟩ := hs fuel l a w h i hi
      exact wpOp_step ho fun K' hK => hk K' fun a w hI => hK a w (wpAny_inv I hs h0 he fuel _ a w hI)⟩

theorem since_mono {B B' : Nat} {w w' : World} (s : w.Since B w') (h : B' ≤ B) : w.Since B' w' := ⟨s.os, s.tape, s.output, s.size, fun k hk => s.block k (by omega)⟩

/-- The block that a value names. -/
def bk : Value → Option Nat
  | .pointer (some a) => some a.block
  | .slice (some a) _ _ => some a.block
  | _ => none

/-- Named blocks lie from lo on, below the world's end. -/
def Bd (lo : Nat) (w : World) (v : Value) : Prop := ∀ g, bk v = some g → lo ≤ g ∧ g < w.heap.size
/-- Two values name no block in common. -/
def Ap (u v : Value) : Prop := ∀ g, bk u = some g → bk v = some g → False

theorem Bd.undef (lo : Nat) (w : World) : Bd lo w undef := fun g h => by cases h
theorem Bd.grow {lo : Nat} {w w' : World} {v : Value} (h : Bd lo w v) (hs : w.heap.size ≤ w'.heap.size) : Bd lo w' v := fun g e => ⟨(h g e).1, Nat.lt_of_lt_of_le (h g e).2 hs⟩
theorem Ap.symm {u v : Value} (h : Ap u v) : Ap v u := fun g a b => h g b a
theorem Ap.undef (v : Value) : Ap undef v := fun g h => by cases h
/-- A value that names new blocks alone stands apart from every elder one. -/
theorem Ap.fresh {lo : Nat} {w w' : World} {u v : Value} (h : Bd lo w u) (hv : Bd w.heap.size w' v) : Ap u v := fun g a b => by have := (h g a).2; have := (hv g b).1; omega

/-- A natural in memory of one's own. -/
def Ow (w : World) (v : Value) (m : Nat) (X : Nat → Nat) : Prop :=
  (v = .slice none 0 0 ∧ m = 0) ∨ ∃ g cp, v = .slice (some ⟨g, 0, none⟩) m cp ∧ g < w.heap.size ∧ m ≤ cp ∧ Limbs w (some ⟨g, 0, none⟩) g 0 m X ∧ (∀ x, w.frozen? ⟨g, x, none⟩ = false) ∧ Shape w g 159 cp ∧ cp ≤ maxLen

theorem Ow.since {w w' : World} {v : Value} {m : Nat} {X : Nat → Nat} (h : Ow w v m X) (s : w.Since w.heap.size w') : Ow w' v m X := by
  rcases h with h | ⟨g, cp, e, hg, hc, L, F, H1, H2⟩
  · exact Or.inl h
  · exact Or.inr ⟨g, cp, e, Nat.lt_of_lt_of_le hg s.size, hc, L.keep s, fun x => by rw [s.frozen (a := ⟨g, x, none⟩) hg]; exact F x, H1.since s hg, H2⟩

theorem Ow.set {w : World} {v : Value} {m : Nat} {X : Nat → Nat} (h : Ow w v m X) {c : Nat} {t : Value} (ht : t = .pointer (some ⟨c, 0, none⟩)) (ha : Ap t v) (u : Value) : Ow (w.setCell ⟨c, 0, none⟩ u) v m X := by
  subst ht
  rcases h with h | ⟨g, cp, rfl, hg, hc, L, F, H1, H2⟩
  · exact Or.inl h
  · have : c ≠ g := fun e => ha g (by rw [e]; rfl) rfl
    exact Or.inr ⟨g, cp, rfl, by simpa using hg, hc, L.setOther this _, fun x => by simp [F x], H1.setCell _ _ _, H2⟩

theorem own_ow {w : World} {base : Nat} {v : Value} {m : Nat} {X : Nat → Nat} (h : w.ownsRow base 159 1 v m (ll X m)) : Ow w v m X ∧ Bd base w v := by
  have hc := @World.ownsRow.cells _ _ _ _ _ _ _ h
  rcases h.2 with ⟨rfl, rfl⟩ | ⟨g, cap, cur, rfl, hb, hg, hm, hml, hsz, _⟩
  · exact ⟨Or.inl ⟨rfl, rfl⟩, fun g e => by cases e⟩
  · have hlt := (Array.getElem?_eq_some_iff.1 hg).1
    refine ⟨Or.inr ⟨g, cap, rfl, hlt, hm, fun j hj => ⟨rfl, ?_⟩, fun o => by simp [World.frozen?, hg], ⟨cur, hg, by simpa using hsz⟩, hml⟩, fun g' e => ?_⟩
    · have := hc (g := g) rfl j _ (ll_get X m j hj)
      rw [Addr.add_lit] at this; exact this
    · cases e; exact ⟨hb, hlt⟩

/-- What a box holds: laid, empty or filled. -/
def Bx (w : World) (t : Value) (u : Value) : Prop := ∃ c, t = .pointer (some ⟨c, 0, none⟩) ∧ w.cell? ⟨c, 0, none⟩ = some u ∧ w.frozen? ⟨c, 0, none⟩ = false ∧ c < w.heap.size

theorem Bx.since {w w' : World} {t u : Value} (h : Bx w t u) (s : w.Since w.heap.size w') : Bx w' t u := by
  obtain ⟨c, e, h1, h2, h3⟩ := h
  exact ⟨c, e, by rw [s.cell (a := ⟨c, 0, none⟩) h3]; exact h1, by rw [s.frozen (a := ⟨c, 0, none⟩) h3]; exact h2, Nat.lt_of_lt_of_le h3 s.size⟩

theorem Bx.other {w : World} {t u t' : Value} (h : Bx w t u) {c : Nat} (e : t' = .pointer (some ⟨c, 0, none⟩)) (ha : Ap t' t) (x : Value) : Bx (w.setCell ⟨c, 0, none⟩ x) t u := by
  obtain ⟨d, rfl, h1, h2, h3⟩ := h
  subst e
  have : c ≠ d := fun e => ha d (by rw [e]; rfl) rfl
  exact ⟨d, rfl, by rw [cellO (by exact this)]; exact h1, by simp [h2], by simpa using h3⟩

theorem Bx.fill {w : World} {t u : Value} {c : Nat} (h : Bx w t u) (e : t = .pointer (some ⟨c, 0, none⟩)) (x : Value) : Bx (w.setCell ⟨c, 0, none⟩ x) t x := by
  obtain ⟨d, rfl, h1, h2, h3⟩ := h
  cases e
  exact ⟨_, rfl, World.cell?_setCell_same _ _ _ h1, by simp [h2], by simpa using h3⟩

theorem Bx.new (w : World) (u : Value) (ty : TypeId) : Bx (w.alloc (.cells #[u] ty)) (.pointer (some ⟨w.heap.size, 0, none⟩)) u := ⟨_, rfl, by simp [go_sem], by simp [go_sem], by simp⟩

/-- The statement 'n, m := ownCopy(a), ownCopy(b)', in whatever order. -/
structure J (wA : World) (sa sb : Value) (n m : Nat) (X Y : Nat → Nat) (l0 l1 l2 l3 l4 l5 l6 l7 : Bool) (t5 t6 t20 t21 t22 t23 : Value) (w : World) : Prop where
  S : wA.Since wA.heap.size w
  B5 : Bd wA.heap.size w t5
  B6 : Bd wA.heap.size w t6
  B21 : Bd wA.heap.size w t21
  B23 : Bd wA.heap.size w t23
  A56 : Ap t5 t6
  A51 : Ap t5 t21
  A53 : Ap t5 t23
  A61 : Ap t6 t21
  A63 : Ap t6 t23
  A13 : Ap t21 t23
  h0 : l0 = true → t20 = sa
  h2 : l2 = true → t22 = sb
  h1 : l1 = true → Ow w t21 n X
  h3 : l3 = true → Ow w t23 m Y
  h4 : l4 = true → Bx w t5 (if l6 = true then t21 else .slice none 0 0)
  h5 : l5 = true → Bx w t6 (if l7 = true then t23 else .slice none 0 0)

section
variable {wA : World} {sa sb : Value} {n m : Nat} {X Y : Nat → Nat} {l0 l1 l2 l3 l4 l5 l6 l7 : Bool} {t5 t6 t20 t21 t22 t23 : Value} {w w' : World}

theorem J.grow (h : J wA sa sb n m X Y l0 l1 l2 l3 l4 l5 l6 l7 t5 t6 t20 t21 t22 t23 w) (s : w.Since w.heap.size w') : J wA sa sb n m X Y l0 l1 l2 l3 l4 l5 l6 l7 t5 t6 t20 t21 t22 t23 w' :=
  ⟨h.S.trans (since_mono s h.S.size), h.B5.grow s.size, h.B6.grow s.size, h.B21.grow s.size, h.B23.grow s.size, h.A56, h.A51, h.A53, h.A61, h.A63, h.A13, h.h0, h.h2, fun e => (h.h1 e).since s, fun e => (h.h3 e).since s, fun e => (h.h4 e).since s, fun e => (h.h5 e).since s⟩

theorem J.start (wA : World) (sa sb : Value) (n m : Nat) (X Y : Nat → Nat) (u20 u22 : Value) : J wA sa sb n m X Y false false false false false false false false undef undef u20 undef u22 undef wA :=
  ⟨.refl _ _, .undef _ _, .undef _ _, .undef _ _, .undef _ _, .undef _, .undef _, .undef _, .undef _, .undef _, .undef _, fun h => (by cases h), fun h => (by cases h), fun h => (by cases h), fun h => (by cases h), fun h => (by cases h), fun h => (by cases h)⟩

theorem J.op0 (h : J wA sa sb n m X Y l0 l1 l2 l3 l4 l5 l6 l7 t5 t6 t20 t21 t22 t23 w) : J wA sa sb n m X Y true l1 l2 l3 l4 l5 l6 l7 t5 t6 sa t21 t22 t23 w := { h with h0 := fun _ => rfl }
theorem J.op2 (h : J wA sa sb n m X Y l0 l1 l2 l3 l4 l5 l6 l7 t5 t6 t20 t21 t22 t23 w) : J wA sa sb n m X Y l0 l1 true l3 l4 l5 l6 l7 t5 t6 t20 t21 sb t23 w := { h with h2 := fun _ => rfl }

theorem J.op1 (h : J wA sa sb n m X Y l0 l1 l2 l3 l4 l5 false l7 t5 t6 t20 t21 t22 t23 w) (s : w.Since w.heap.size w') {v : Value} (o : Ow w' v n X) (b : Bd w.heap.size w' v) : J wA sa sb n m X Y l0 true l2 l3 l4 l5 false l7 t5 t6 t20 v t22 t23 w' :=
  have g := h.grow s
  have b' : Bd wA.heap.size w' v := fun x e => ⟨Nat.le_trans h.S.size (b x e).1, (b x e).2⟩
  { g with B21 := b', A51 := .fresh h.B5 b, A61 := .fresh h.B6 b, A13 := (Ap.fresh h.B23 b).symm, h1 := fun _ => o }

theorem J.op3 (h : J wA sa sb n m X Y l0 l1 l2 l3 l4 l5 l6 false t5 t6 t20 t21 t22 t23 w) (s : w.Since w.heap.size w') {v : Value} (o : Ow w' v m Y) (b : Bd w.heap.size w' v) : J wA sa sb n m X Y l0 l1 l2 true l4 l5 l6 false t5 t6 t20 t21 t22 v w' :=
  have g := h.grow s
  have b' : Bd wA.heap.size w' v := fun x e => ⟨Nat.le_trans h.S.size (b x e).1, (b x e).2⟩
  { g with B23 := b', A53 := .fresh h.B5 b, A63 := .fresh h.B6 b, A13 := .fresh h.B21 b, h3 := fun _ => o }

theorem bd_new (w : World) (u : Value) (ty : TypeId) : Bd w.heap.size (w.alloc (.cells #[u] ty)) (.pointer (some ⟨w.heap.size, 0, none⟩)) := fun g e => by cases e; simp

theorem J.op4 (h : J wA sa sb n m X Y l0 l1 l2 l3 l4 l5 false l7 t5 t6 t20 t21 t22 t23 w) (ty : TypeId) : J wA sa sb n m X Y l0 l1 l2 l3 true l5 false l7 (.pointer (some ⟨w.heap.size, 0, none⟩)) t6 t20 t21 t22 t23 (w.alloc (.cells #[.slice none 0 0] ty)) :=
  have g := h.grow ((World.Since.refl _ _).alloc (Nat.le_refl _) (.cells #[.slice none 0 0] ty))
  have b := bd_new w (.slice none 0 0) ty
  { g with B5 := fun x e => ⟨Nat.le_trans h.S.size (b x e).1, (b x e).2⟩, A56 := (Ap.fresh h.B6 b).symm, A51 := (Ap.fresh h.B21 b).symm, A53 := (Ap.fresh h.B23 b).symm, h4 := fun _ => Bx.new _ _ _ }

theorem J.op5 (h : J wA sa sb n m X Y l0 l1 l2 l3 l4 l5 l6 false t5 t6 t20 t21 t22 t23 w) (ty : TypeId) : J wA sa sb n m X Y l0 l1 l2 l3 l4 true l6 false t5 (.pointer (some ⟨w.heap.size, 0, none⟩)) t20 t21 t22 t23 (w.alloc (.cells #[.slice none 0 0] ty)) :=
  have g := h.grow ((World.Since.refl _ _).alloc (Nat.le_refl _) (.cells #[.slice none 0 0] ty))
  have b := bd_new w (.slice none 0 0) ty
  { g with B6 := fun x e => ⟨Nat.le_trans h.S.size (b x e).1, (b x e).2⟩, A56 := Ap.fresh h.B5 b, A61 := (Ap.fresh h.B21 b).symm, A63 := (Ap.fresh h.B23 b).symm, h5 := fun _ => Bx.new _ _ _ }

theorem bd_set {lo c : Nat} {u x : Value} (h : Bd lo w u) : Bd lo (w.setCell ⟨c, 0, none⟩ x) u := h.grow (by simp)

theorem J.op6 (h : J wA sa sb n m X Y l0 l1 l2 l3 true l5 l6 l7 t5 t6 t20 t21 t22 t23 w) {c : Nat} (e : t5 = .pointer (some ⟨c, 0, none⟩)) : J wA sa sb n m X Y l0 l1 l2 l3 true l5 true l7 t5 t6 t20 t21 t22 t23 (w.setCell ⟨c, 0, none⟩ t21) :=
  ⟨h.S.setCell (h.B5 c (by rw [e]; rfl)).1 _, bd_set h.B5, bd_set h.B6, bd_set h.B21, bd_set h.B23, h.A56, h.A51, h.A53, h.A61, h.A63, h.A13, h.h0, h.h2, fun k => (h.h1 k).set e h.A51 _, fun k => (h.h3 k).set e h.A53 _, fun _ => (h.h4 rfl).fill e _, fun k => (h.h5 k).other e h.A56 _⟩

theorem J.op7 (h : J wA sa sb n m X Y l0 l1 l2 l3 l4 true l6 l7 t5 t6 t20 t21 t22 t23 w) {c : Nat} (e : t6 = .pointer (some ⟨c, 0, none⟩)) : J wA sa sb n m X Y l0 l1 l2 l3 l4 true l6 true t5 t6 t20 t21 t22 t23 (w.setCell ⟨c, 0, none⟩ t23) :=
  ⟨h.S.setCell (h.B6 c (by rw [e]; rfl)).1 _, bd_set h.B5, bd_set h.B6, bd_set h.B21, bd_set h.B23, h.A56, h.A51, h.A53, h.A61, h.A63, h.A13, h.h0, h.h2, fun k => (h.h1 k).set e h.A61 _, fun k => (h.h3 k).set e h.A63 _, fun k => (h.h4 k).other e h.A56.symm _, fun _ => (h.h5 rfl).fill e _⟩

theorem ow_parts {lo : Nat} {v : Value} (h : Ow w v m X) (b : Bd lo w v) (far : Nat) (hf : lo ≤ far) (_hw : w.heap.size ≤ far) : ∃ a g cp, v = .slice a m cp ∧ m ≤ cp ∧ (a = none → cp = 0) ∧ Limbs w a g 0 m X ∧ (0 < m → ∀ x, w.frozen? ⟨g, x, none⟩ = false) ∧ lo ≤ g ∧ (g = far ∨ bk v = some g) ∧ FullV w v g := by
  rcases h with ⟨rfl, rfl⟩ | ⟨g, cp, rfl, hg, hc, L, F, H⟩
  · exact ⟨none, far, 0, rfl, Nat.le_refl _, fun _ => rfl, fun j hj => absurd hj (by omega), fun h => absurd h (by omega), hf, Or.inl rfl, fun a _ _ h ha => by cases h; exact absurd rfl ha⟩
  · exact ⟨_, g, cp, rfl, hc, fun h => (by cases h), L, fun _ => F, (b g rfl).1, Or.inr rfl, fun _ _ _ h _ => by cases h; exact H⟩

/-- What the statement leaves. -/
theorem J.gd (h : J wA sa sb n m X Y true true true true true true true true t5 t6 t20 t21 t22 t23 w) (lX : ∀ j, j < n → X j < 4294967296) (lY : ∀ j, j < m → Y j < 4294967296) (pX : 0 < n → X (n - 1) ≠ 0) (pY : 0 < m → Y (m - 1) ≠ 0) :
    ∃ c d gn gm an am cn cm, t5 = .pointer (some ⟨c, 0, none⟩) ∧ t6 = .pointer (some ⟨d, 0, none⟩) ∧ Gd wA.heap.size wA w c d gn gm an am n m cn cm X Y := by
  obtain ⟨c, e5, c1, c2, c3⟩ := h.h4 rfl
  obtain ⟨d, e6, d1, d2, d3⟩ := h.h5 rfl
  have hs := h.S.size
  obtain ⟨an, gn, cn, e21, q1, q2, q3, q4, q5, q6, q7⟩ := ow_parts (h.h1 rfl) h.B21 w.heap.size hs (Nat.le_refl _)
  obtain ⟨am, gm, cm, e23, r1, r2, r3, r4, r5, r6, r7⟩ := ow_parts (h.h3 rfl) h.B23 (w.heap.size + 1) (by omega) (by omega)
  have kc : bk t5 = some c := by rw [e5]; rfl
  have kd : bk t6 = some d := by rw [e6]; rfl
  have bn : gn < w.heap.size ∨ gn = w.heap.size := q6.elim Or.inr fun e => Or.inl (h.B21 _ e).2
  have bm : gm < w.heap.size ∨ gm = w.heap.size + 1 := r6.elim Or.inr fun e => Or.inl (h.B23 _ e).2
  refine ⟨c, d, gn, gm, an, am, cn, cm, e5, e6, h.S, by rw [c1, if_pos rfl, e21], by rw [d1, if_pos rfl, e23], c2, d2, q3, r3, q4, r4, q1, r1, q2, r2, lX, lY, pX, pY, (h.B5 c kc).1, (h.B6 d kd).1, q5, r5, ?_, ?_, ?_, ?_, ?_, ?_, by rw [← e21]; exact q7, by rw [← e23]; exact r7⟩
  · exact fun e => h.A56 c kc (by rw [kd, e])
  · rcases q6 with e | e
    · omega
    · rcases r6 with e' | e'
      · have := (h.B21 _ e).2; omega
      · exact fun k => h.A13 gn e (by rw [e', k])
  · rcases q6 with e | e
    · omega
    · exact fun k => h.A51 c kc (by rw [e, k])
  · rcases q6 with e | e
    · omega
    · exact fun k => h.A61 d kd (by rw [e, k])
  · rcases r6 with e | e
    · omega
    · exact fun k => h.A53 c kc (by rw [e, k])
  · rcases r6 with e | e
    · omega
    · exact fun k => h.A63 d kd (by rw [e, k])
end

end Go.Proofs.YtnogbaapcjjngaaGreatDoor

namespace Go.Proofs.YtnogbaapcjjngaaGreatDoor
open Go.RowKit

/-- What comes up. -/
def rdy (l0 l1 l2 l3 l4 l5 l6 l7 : Bool) : Nat → Bool
  | 0 => !l0
  | 1 => l0 && !l1 && !l6 && !l3
  | 2 => !l2
  | 3 => l1 && l2 && !l3 && !l7
  | 4 => !l4 && !l6
  | 5 => !l5 && !l7
  | 6 => l4 && l1 && l3 && l5 && !l6
  | 7 => l6 && l5 && l3 && !l7
  | _ => false

def left8 (l0 l1 l2 l3 l4 l5 l6 l7 : Bool) : Nat := (!l0).toNat + (!l1).toNat + (!l2).toNat + (!l3).toNat + (!l4).toNat + (!l5).toNat + (!l6).toNat + (!l7).toNat
/-- The reached ones. -/
def okl (l1 l3 l4 l5 l6 l7 : Bool) : Bool := (!l6 || (l1 && l3 && l4 && l5)) && (!l7 || l6) && (!l3 || l1)

set_option maxHeartbeats 6400000 in
set_option maxRecDepth 100000 in
theorem gcdOf_big (a b : Option Addr) (ba oa n ca bb ob m cb : Nat) (X Y : Nat → Nat) (w : World) (_hw : 0 ≤ w.heap.size) (hn : n ≤ 16777216) (hm : m ≤ 16777216) (hnc : n ≤ ca) (hmc : m ≤ cb) (hac : a = none → ca = 0) (hbc : b = none → cb = 0)
    (hX : Limbs w a ba oa n X) (hY : Limbs w b bb ob m Y) (hXl : ∀ j, j < n → X j < 4294967296) (hYl : ∀ j, j < m → Y j < 4294967296) (pX : 0 < n → X (n - 1) ≠ 0) (pY : 0 < m → Y (m - 1) ≠ 0) (_hT : Tab w)
    (h1 : lv X n ≠ 1) (h2 : lv Y m ≠ 1) (h3 : 2 < n ∨ 2 < m) :
    Calls Tryz.prog 141 #[.slice a n ca, .slice b m cb] w fun e w' => ∃ v g, e = .returned v ∧ NatAt w' v g (Nat.gcd (lv X n) (lv Y m)) 67108864 ∧ w.heap.size ≤ g ∧ w.Since w.heap.size w' := by
  have d1 : decide (lv X n = 1) = false := by simp [h1]
  have d2 : decide (lv Y m = 1) = false := by simp [h2]
  have sA : w.Since w.heap.size ((w.alloc (.cells #[.slice a n ca] 165)).alloc (.cells #[.slice b m cb] 165)) := ((World.Since.refl _ _).alloc (Nat.le_refl _) _).alloc (by simp) _
  have bx1 : ((w.alloc (.cells #[.slice a n ca] 165)).alloc (.cells #[.slice b m cb] 165)).cell? ⟨w.heap.size, 0, none⟩ = some (.slice a n ca) := by rw [World.cell?_alloc_old _ _ _ (by simp)]; simp [go_sem]
  have bx2 : ((w.alloc (.cells #[.slice a n ca] 165)).alloc (.cells #[.slice b m cb] 165)).cell? ⟨w.heap.size + 1, 0, none⟩ = some (.slice b m cb) := by simp [go_sem]
  have zA : w.heap.size + 2 ≤ ((w.alloc (.cells #[.slice a n ca] 165)).alloc (.cells #[.slice b m cb] 165)).heap.size := by simp
  have XA := hX.keep sA
  have YA := hY.keep sA
  go_enter Tryz.func141, Tryz.ntmps141
  go_wp2_with fail
  generalize (w.alloc (.cells #[.slice a n ca] 165)).alloc (.cells #[.slice b m cb] 165) = wA at *
  have I1 := isOne_any w.heap.size 0 a ba oa n ca X wA bx1 XA hXl pX
  have I2 := isOne_any (w.heap.size + 1) 0 b bb ob m cb Y wA bx2 YA hYl pY
  rw [d1] at I1
  rw [d2] at I2
  refine I1.mono ?_
  clear I1
  rintro e w1 ⟨rfl, hw1⟩
  rw [hw1]
  clear hw1
  have I2 := hide I2
  go_wp2_with fail
  refine I2.out.mono ?_
  clear I2
  rintro e w1 ⟨rfl, hw1⟩
  rw [hw1]
  clear hw1
  by_cases h4 : 2 < n
  · go_wp2_with fail
    refine (isShort_no w.heap.size 0 a n ca _ h4 bx1).mono ?_
    rintro e w1 ⟨rfl, hw1⟩
    rw [hw1]
    clear hw1 d1 d2 h1 h2 hX hY
    go_wp2
    refine wp_region_any (by kernel_rfl) ?_
    change wpAny _ _ _ _ _ _ _ (World.drew _)
    have bx1 : wA.drew.cell? ⟨w.heap.size, 0, none⟩ = some (.slice a n ca) := bx1
    have bx2 : wA.drew.cell? ⟨w.heap.size + 1, 0, none⟩ = some (.slice b m cb) := bx2
    have XA : Limbs wA.drew a ba oa n X := XA
    have YA : Limbs wA.drew b bb ob m Y := YA
    have zA : w.heap.size + 2 ≤ wA.drew.heap.size := zA
    have sA : w.Since w.heap.size wA.drew := ⟨sA.os, sA.tape, sA.output, sA.size, sA.block⟩
    generalize wA.drew = wD at *
    refine wpAny_inv (fun fuel l ac wx => ∃ l0 l1 l2 l3 l4 l5 l6 l7 t5 t6 t20 t21 t22 t23, l = #[l0, l1, l2, l3, l4, l5, l6, l7] ∧ fuel = left8 l0 l1 l2 l3 l4 l5 l6 l7 ∧ okl l1 l3 l4 l5 l6 l7 = true ∧
      ac = { tmps := #[Value.slice a n ca, Value.slice b m cb, Value.pointer (some { block := w.heap.size, off := 0 }), Value.pointer (some { block := w.heap.size + 1, off := 0 }), Value.slice none 0 0, t5, t6,
            Value.bool false, Value.bool false, Value.bool false, Value.bool false, undef, Value.bool false, Value.bool false, undef, Value.bool false, undef, undef, undef, undef, t20, t21, t22, t23, undef, undef], defers := [] } ∧
      J wD (.slice a n ca) (.slice b m cb) (tlen (nz X) n) (tlen (nz Y) m) X Y l0 l1 l2 l3 l4 l5 l6 l7 t5 t6 t20 t21 t22 t23 wx) ?_ ?_ ?_ _ _ _ _ ⟨_, _, _, _, _, _, _, _, _, _, _, _, _, _, rfl, rfl, rfl, rfl, J.start _ _ _ _ _ _ _ _ _⟩
    · rintro fuel l ac wx ⟨l0, l1, l2, l3, l4, l5, l6, l7, t5, t6, t20, t21, t22, t23, rfl, hf, hk, rfl, j⟩ i hi
      have hr : rdy l0 l1 l2 l3 l4 l5 l6 l7 i = true := by
        revert i
        refine List.all_eq_true.1 ?_
        revert hk
        clear hf j
        revert l0 l1 l2 l3 l4 l5 l6 l7
        exact of_decide_eq_true (by kernel_rfl)
      have k1 : wx.cell? ⟨w.heap.size, 0, none⟩ = some (.slice a n ca) := by rw [j.S.cell (a := ⟨w.heap.size, 0, none⟩) (by show w.heap.size < _; omega)]; exact bx1
      have k2 : wx.cell? ⟨w.heap.size + 1, 0, none⟩ = some (.slice b m cb) := by rw [j.S.cell (a := ⟨w.heap.size + 1, 0, none⟩) (by show w.heap.size + 1 < _; omega)]; exact bx2
      have kX := XA.keep j.S
      have kY := YA.keep j.S
      clear hi
      rcases i with _ | _ | _ | _ | _ | _ | _ | _ | i
      · simp [rdy] at hr
        subst hr
        refine ⟨_, rfl, fun K hK => ?_⟩
        go_simp
        refine hK _ _ ⟨true, l1, l2, l3, l4, l5, l6, l7, t5, t6, _, t21, t22, t23, rfl, ?_, hk, rfl, j.op0⟩
        simp [left8] at hf ⊢; omega
      · simp [rdy] at hr
        obtain ⟨⟨⟨rfl, rfl⟩, rfl⟩, rfl⟩ := hr
        have e := j.h0 rfl
        subst e
        refine ⟨_, rfl, fun K hK => ?_⟩
        go_simp
        refine (ownCopy_any a ba oa n ca X _ (by omega) hnc hac kX).mono ?_
        rintro e w' ⟨v, rfl, o, s⟩
        refine hK _ _ ⟨true, true, l2, false, l4, l5, false, l7, t5, t6, _, v, t22, t23, rfl, ?_, ?_, rfl, j.op1 s (own_ow o).1 (own_ow o).2⟩
        · simp [left8] at hf ⊢; omega
        · simpa [okl] using hk
      · simp [rdy] at hr
        subst hr
        refine ⟨_, rfl, fun K hK => ?_⟩
        go_simp
        refine hK _ _ ⟨l0, l1, true, l3, l4, l5, l6, l7, t5, t6, t20, t21, _, t23, rfl, ?_, hk, rfl, j.op2⟩
        simp [left8] at hf ⊢; omega
      · simp [rdy] at hr
        obtain ⟨⟨⟨rfl, rfl⟩, rfl⟩, rfl⟩ := hr
        have e := j.h2 rfl
        subst e
        refine ⟨_, rfl, fun K hK => ?_⟩
        go_simp
        refine (ownCopy_any b bb ob m cb Y _ (by omega) hmc hbc kY).mono ?_
        rintro e w' ⟨v, rfl, o, s⟩
        refine hK _ _ ⟨l0, true, true, true, l4, l5, l6, false, t5, t6, t20, t21, _, v, rfl, ?_, ?_, rfl, j.op3 s (own_ow o).1 (own_ow o).2⟩
        · simp [left8] at hf ⊢; omega
        · revert hk; cases l6 <;> cases l4 <;> cases l5 <;> decide
      · simp [rdy] at hr
        obtain ⟨rfl, rfl⟩ := hr
        refine ⟨_, rfl, fun K hK => ?_⟩
        go_simp
        refine hK _ _ ⟨l0, l1, l2, l3, true, l5, false, l7, _, t6, t20, t21, t22, t23, rfl, ?_, ?_, rfl, j.op4 165⟩
        · simp [left8] at hf ⊢; omega
        · simpa [okl] using hk
      · simp [rdy] at hr
        obtain ⟨rfl, rfl⟩ := hr
        refine ⟨_, rfl, fun K hK => ?_⟩
        go_simp
        refine hK _ _ ⟨l0, l1, l2, l3, l4, true, l6, false, t5, _, t20, t21, t22, t23, rfl, ?_, ?_, rfl, j.op5 165⟩
        · simp [left8] at hf ⊢; omega
        · revert hk; cases l6 <;> cases l4 <;> cases l1 <;> cases l3 <;> decide
      · simp [rdy] at hr
        obtain ⟨⟨⟨⟨rfl, rfl⟩, rfl⟩, rfl⟩, rfl⟩ := hr
        obtain ⟨c, e5, c1, c2, c3⟩ := j.h4 rfl
        obtain ⟨xa, xg, xc, e21, -⟩ := ow_parts (j.h1 rfl) j.B21 wx.heap.size j.S.size (Nat.le_refl _)
        subst e5 e21
        rw [if_neg (by simp)] at c1
        refine ⟨_, rfl, fun K hK => ?_⟩
        go_simp
        refine hK _ _ ⟨l0, true, l2, true, true, true, true, l7, _, t6, t20, _, t22, t23, rfl, ?_, ?_, rfl, j.op6 rfl⟩
        · simp [left8] at hf ⊢; omega
        · simp [okl]
      · simp [rdy] at hr
        obtain ⟨⟨⟨rfl, rfl⟩, rfl⟩, rfl⟩ := hr
        obtain ⟨c, e5, c1, c2, c3⟩ := j.h5 rfl
        obtain ⟨xa, xg, xc, e21, -⟩ := ow_parts (j.h3 rfl) j.B23 wx.heap.size j.S.size (Nat.le_refl _)
        subst e5 e21
        rw [if_neg (by simp)] at c1
        refine ⟨_, rfl, fun K hK => ?_⟩
        go_simp
        refine hK _ _ ⟨l0, l1, l2, true, l4, true, true, true, t5, _, t20, t21, t22, _, rfl, ?_, ?_, rfl, j.op7 rfl⟩
        · simp [left8] at hf ⊢; omega
        · simpa [okl] using hk
      · cases hr
    · rintro l ac wx ⟨l0, l1, l2, l3, l4, l5, l6, l7, t5, t6, t20, t21, t22, t23, rfl, hf, hk, rfl, j⟩
      revert hf
      clear hk j
      revert l0 l1 l2 l3 l4 l5 l6 l7
      exact of_decide_eq_true (by kernel_rfl)
    · rintro fuel l ac wx ⟨l0, l1, l2, l3, l4, l5, l6, l7, t5, t6, t20, t21, t22, t23, rfl, hf, hk, rfl, j⟩ he
      have hall : (l0 && (l1 && (l2 && (l3 && (l4 && (l5 && (l6 && l7))))))) = true := by
        revert he
        clear hf j
        revert hk
        revert l0 l1 l2 l3 l4 l5 l6 l7
        exact of_decide_eq_true (by kernel_rfl)
      simp only [Bool.and_eq_true] at hall
      obtain ⟨rfl, rfl, rfl, rfl, rfl, rfl, rfl, rfl⟩ := hall
      have htX := tlen_le (nz X) n
      have htY := tlen_le (nz Y) m
      obtain ⟨c, d, gn, gm, an, am, cn, cm, rfl, rfl, G⟩ := j.gd (fun q hq => hXl q (by omega)) (fun q hq => hYl q (by omega)) (fun h => by have := tlen_top (nz X) n h; simpa [nz] using this) (fun h => by have := tlen_top (nz Y) m h; simpa [nz] using this)
      have HL := hide (And.intro (lv_tlen X n) (lv_tlen Y m))
      have hTD : Tab wD := trivial
      clear j he hk hf hXl hYl pX pY
      go_wp2_with fail
      refine (becomeGcd_any _ c d gn gm an am _ _ cn cm X Y _ _ (by omega) (by omega) (by omega) G hTD).mono ?_
      rintro e w3 ⟨rfl, ra, rg, rk, rc, Z, z1, z2, z3, z4, z5, z6, z7, z8, z9, z10, z11⟩
      have Z7 := hide (And.intro z7 (And.intro z8 z9))
      clear z7 z8 z9
      go_wp2_with fail
      go_ret
      refine ⟨_, rg, rfl, ⟨ra, rk, rc, Z, rfl, z2, z3, z4, z5, z6, Z7.out.1, Z7.out.2.1, ?_⟩, by omega, sA.trans (sinceMono z11 (by omega))⟩
      rw [Z7.out.2.2, HL.out.1, HL.out.2]
  · go_wp2_with fail
    refine (isShort_yes w.heap.size 0 a n ca _ (by omega) bx1).mono ?_
    rintro e w1 ⟨rfl, hw1⟩
    rw [hw1]
    clear hw1
    go_wp2_with fail
    refine (isShort_no (w.heap.size + 1) 0 b m cb _ (by omega) bx2).mono ?_
    rintro e w1 ⟨rfl, hw1⟩
    rw [hw1]
    clear hw1 d1 d2 h1 h2 hX hY
    go_wp2
    refine wp_region_any (by kernel_rfl) ?_
    change wpAny _ _ _ _ _ _ _ (World.drew _)
    have bx1 : wA.drew.cell? ⟨w.heap.size, 0, none⟩ = some (.slice a n ca) := bx1
    have bx2 : wA.drew.cell? ⟨w.heap.size + 1, 0, none⟩ = some (.slice b m cb) := bx2
    have XA : Limbs wA.drew a ba oa n X := XA
    have YA : Limbs wA.drew b bb ob m Y := YA
    have zA : w.heap.size + 2 ≤ wA.drew.heap.size := zA
    have sA : w.Since w.heap.size wA.drew := ⟨sA.os, sA.tape, sA.output, sA.size, sA.block⟩
    generalize wA.drew = wD at *
    refine wpAny_inv (fun fuel l ac wx => ∃ l0 l1 l2 l3 l4 l5 l6 l7 t5 t6 t20 t21 t22 t23, l = #[l0, l1, l2, l3, l4, l5, l6, l7] ∧ fuel = left8 l0 l1 l2 l3 l4 l5 l6 l7 ∧ okl l1 l3 l4 l5 l6 l7 = true ∧
      ac = { tmps := #[Value.slice a n ca, Value.slice b m cb, Value.pointer (some { block := w.heap.size, off := 0 }), Value.pointer (some { block := w.heap.size + 1, off := 0 }), Value.slice none 0 0, t5, t6,
            Value.bool false, Value.bool false, Value.bool false, Value.bool false, undef, Value.bool true, Value.bool true, Value.bool false, Value.bool false, undef, undef, undef, undef, t20, t21, t22, t23, undef, undef], defers := [] } ∧
      J wD (.slice a n ca) (.slice b m cb) (tlen (nz X) n) (tlen (nz Y) m) X Y l0 l1 l2 l3 l4 l5 l6 l7 t5 t6 t20 t21 t22 t23 wx) ?_ ?_ ?_ _ _ _ _ ⟨_, _, _, _, _, _, _, _, _, _, _, _, _, _, rfl, rfl, rfl, rfl, J.start _ _ _ _ _ _ _ _ _⟩
    · rintro fuel l ac wx ⟨l0, l1, l2, l3, l4, l5, l6, l7, t5, t6, t20, t21, t22, t23, rfl, hf, hk, rfl, j⟩ i hi
      have hr : rdy l0 l1 l2 l3 l4 l5 l6 l7 i = true := by
        revert i
        refine List.all_eq_true.1 ?_
        revert hk
        clear hf j
        revert l0 l1 l2 l3 l4 l5 l6 l7
        exact of_decide_eq_true (by kernel_rfl)
      have k1 : wx.cell? ⟨w.heap.size, 0, none⟩ = some (.slice a n ca) := by rw [j.S.cell (a := ⟨w.heap.size, 0, none⟩) (by show w.heap.size < _; omega)]; exact bx1
      have k2 : wx.cell? ⟨w.heap.size + 1, 0, none⟩ = some (.slice b m cb) := by rw [j.S.cell (a := ⟨w.heap.size + 1, 0, none⟩) (by show w.heap.size + 1 < _; omega)]; exact bx2
      have kX := XA.keep j.S
      have kY := YA.keep j.S
      clear hi
      rcases i with _ | _ | _ | _ | _ | _ | _ | _ | i
      · simp [rdy] at hr
        subst hr
        refine ⟨_, rfl, fun K hK => ?_⟩
        go_simp
        refine hK _ _ ⟨true, l1, l2, l3, l4, l5, l6, l7, t5, t6, _, t21, t22, t23, rfl, ?_, hk, rfl, j.op0⟩
        simp [left8] at hf ⊢; omega
      · simp [rdy] at hr
        obtain ⟨⟨⟨rfl, rfl⟩, rfl⟩, rfl⟩ := hr
        have e := j.h0 rfl
        subst e
        refine ⟨_, rfl, fun K hK => ?_⟩
        go_simp
        refine (ownCopy_any a ba oa n ca X _ (by omega) hnc hac kX).mono ?_
        rintro e w' ⟨v, rfl, o, s⟩
        refine hK _ _ ⟨true, true, l2, false, l4, l5, false, l7, t5, t6, _, v, t22, t23, rfl, ?_, ?_, rfl, j.op1 s (own_ow o).1 (own_ow o).2⟩
        · simp [left8] at hf ⊢; omega
        · simpa [okl] using hk
      · simp [rdy] at hr
        subst hr
        refine ⟨_, rfl, fun K hK => ?_⟩
        go_simp
        refine hK _ _ ⟨l0, l1, true, l3, l4, l5, l6, l7, t5, t6, t20, t21, _, t23, rfl, ?_, hk, rfl, j.op2⟩
        simp [left8] at hf ⊢; omega
      · simp [rdy] at hr
        obtain ⟨⟨⟨rfl, rfl⟩, rfl⟩, rfl⟩ := hr
        have e := j.h2 rfl
        subst e
        refine ⟨_, rfl, fun K hK => ?_⟩
        go_simp
        refine (ownCopy_any b bb ob m cb Y _ (by omega) hmc hbc kY).mono ?_
        rintro e w' ⟨v, rfl, o, s⟩
        refine hK _ _ ⟨l0, true, true, true, l4, l5, l6, false, t5, t6, t20, t21, _, v, rfl, ?_, ?_, rfl, j.op3 s (own_ow o).1 (own_ow o).2⟩
        · simp [left8] at hf ⊢; omega
        · revert hk; cases l6 <;> cases l4 <;> cases l5 <;> decide
      · simp [rdy] at hr
        obtain ⟨rfl, rfl⟩ := hr
        refine ⟨_, rfl, fun K hK => ?_⟩
        go_simp
        refine hK _ _ ⟨l0, l1, l2, l3, true, l5, false, l7, _, t6, t20, t21, t22, t23, rfl, ?_, ?_, rfl, j.op4 165⟩
        · simp [left8] at hf ⊢; omega
        · simpa [okl] using hk
      · simp [rdy] at hr
        obtain ⟨rfl, rfl⟩ := hr
        refine ⟨_, rfl, fun K hK => ?_⟩
        go_simp
        refine hK _ _ ⟨l0, l1, l2, l3, l4, true, l6, false, t5, _, t20, t21, t22, t23, rfl, ?_, ?_, rfl, j.op5 165⟩
        · simp [left8] at hf ⊢; omega
        · revert hk; cases l6 <;> cases l4 <;> cases l1 <;> cases l3 <;> decide
      · simp [rdy] at hr
        obtain ⟨⟨⟨⟨rfl, rfl⟩, rfl⟩, rfl⟩, rfl⟩ := hr
        obtain ⟨c, e5, c1, c2, c3⟩ := j.h4 rfl
        obtain ⟨xa, xg, xc, e21, -⟩ := ow_parts (j.h1 rfl) j.B21 wx.heap.size j.S.size (Nat.le_refl _)
        subst e5 e21
        rw [if_neg (by simp)] at c1
        refine ⟨_, rfl, fun K hK => ?_⟩
        go_simp
        refine hK _ _ ⟨l0, true, l2, true, true, true, true, l7, _, t6, t20, _, t22, t23, rfl, ?_, ?_, rfl, j.op6 rfl⟩
        · simp [left8] at hf ⊢; omega
        · simp [okl]
      · simp [rdy] at hr
        obtain ⟨⟨⟨rfl, rfl⟩, rfl⟩, rfl⟩ := hr
        obtain ⟨c, e5, c1, c2, c3⟩ := j.h5 rfl
        obtain ⟨xa, xg, xc, e21, -⟩ := ow_parts (j.h3 rfl) j.B23 wx.heap.size j.S.size (Nat.le_refl _)
        subst e5 e21
        rw [if_neg (by simp)] at c1
        refine ⟨_, rfl, fun K hK => ?_⟩
        go_simp
        refine hK _ _ ⟨l0, l1, l2, true, l4, true, true, true, t5, _, t20, t21, t22, _, rfl, ?_, ?_, rfl, j.op7 rfl⟩
        · simp [left8] at hf ⊢; omega
        · simpa [okl] using hk
      · cases hr
    · rintro l ac wx ⟨l0, l1, l2, l3, l4, l5, l6, l7, t5, t6, t20, t21, t22, t23, rfl, hf, hk, rfl, j⟩
      revert hf
      clear hk j
      revert l0 l1 l2 l3 l4 l5 l6 l7
      exact of_decide_eq_true (by kernel_rfl)
    · rintro fuel l ac wx ⟨l0, l1, l2, l3, l4, l5, l6, l7, t5, t6, t20, t21, t22, t23, rfl, hf, hk, rfl, j⟩ he
      have hall : (l0 && (l1 && (l2 && (l3 && (l4 && (l5 && (l6 && l7))))))) = true := by
        revert he
        clear hf j
        revert hk
        revert l0 l1 l2 l3 l4 l5 l6 l7
        exact of_decide_eq_true (by kernel_rfl)
      simp only [Bool.and_eq_true] at hall
      obtain ⟨rfl, rfl, rfl, rfl, rfl, rfl, rfl, rfl⟩ := hall
      have htX := tlen_le (nz X) n
      have htY := tlen_le (nz Y) m
      obtain ⟨c, d, gn, gm, an, am, cn, cm, rfl, rfl, G⟩ := j.gd (fun q hq => hXl q (by omega)) (fun q hq => hYl q (by omega)) (fun h => by have := tlen_top (nz X) n h; simpa [nz] using this) (fun h => by have := tlen_top (nz Y) m h; simpa [nz] using this)
      have HL := hide (And.intro (lv_tlen X n) (lv_tlen Y m))
      have hTD : Tab wD := trivial
      clear j he hk hf hXl hYl pX pY
      go_wp2_with fail
      refine (becomeGcd_any _ c d gn gm an am _ _ cn cm X Y _ _ (by omega) (by omega) (by omega) G hTD).mono ?_
      rintro e w3 ⟨rfl, ra, rg, rk, rc, Z, z1, z2, z3, z4, z5, z6, z7, z8, z9, z10, z11⟩
      have Z7 := hide (And.intro z7 (And.intro z8 z9))
      clear z7 z8 z9
      go_wp2_with fail
      go_ret
      refine ⟨_, rg, rfl, ⟨ra, rk, rc, Z, rfl, z2, z3, z4, z5, z6, Z7.out.1, Z7.out.2.1, ?_⟩, by omega, sA.trans (sinceMono z11 (by omega))⟩
      rw [Z7.out.2.2, HL.out.1, HL.out.2]

end Go.Proofs.YtnogbaapcjjngaaGreatDoor

namespace Go.Proofs.YtnogbaapcjjngaaGreatDoor
open Go.RowKit

theorem natAt_one (w : World) : NatAt (w.alloc (.cells #[.int .u32 1] 159)) (.slice (some ⟨w.heap.size, 0, none⟩) 1 1) w.heap.size 1 67108864 := by
  refine ⟨_, 1, 1, fun _ => 1, rfl, by omega, by omega, fun h => (by cases h), fun j hj => ?_, fun _ o => by simp [go_sem], fun _ _ => (by show 1 < 4294967296; omega), fun _ => by decide, by simp [lv]⟩
  have e : j = 0 := by omega
  subst e
  exact ⟨rfl, by simp [go_sem]⟩

set_option maxHeartbeats 6400000 in
set_option maxRecDepth 100000 in
theorem gcdOf_any (a b : Option Addr) (ba oa n ca bb ob m cb : Nat) (X Y : Nat → Nat) (w : World) (hw : 0 ≤ w.heap.size) (hn : n ≤ 16777216) (hm : m ≤ 16777216) (hnc : n ≤ ca) (hmc : m ≤ cb) (hac : a = none → ca = 0) (hbc : b = none → cb = 0)
    (hX : Limbs w a ba oa n X) (hY : Limbs w b bb ob m Y) (hXl : ∀ j, j < n → X j < 4294967296) (hYl : ∀ j, j < m → Y j < 4294967296) (pX : 0 < n → X (n - 1) ≠ 0) (pY : 0 < m → Y (m - 1) ≠ 0) (hT : Tab w) :
    Calls Tryz.prog 141 #[.slice a n ca, .slice b m cb] w fun e w' => ∃ v g, e = .returned v ∧ NatAt w' v g (Nat.gcd (lv X n) (lv Y m)) 67108864 ∧ w.heap.size ≤ g ∧ w.Since w.heap.size w' := by
  by_cases hbig : lv X n ≠ 1 ∧ lv Y m ≠ 1 ∧ (2 < n ∨ 2 < m)
  · exact gcdOf_big a b ba oa n ca bb ob m cb X Y w hw hn hm hnc hmc hac hbc hX hY hXl hYl pX pY hT hbig.1 hbig.2.1 hbig.2.2
  have sA : w.Since w.heap.size ((w.alloc (.cells #[.slice a n ca] 165)).alloc (.cells #[.slice b m cb] 165)) := ((World.Since.refl _ _).alloc (Nat.le_refl _) _).alloc (by simp) _
  have bx1 : ((w.alloc (.cells #[.slice a n ca] 165)).alloc (.cells #[.slice b m cb] 165)).cell? ⟨w.heap.size, 0, none⟩ = some (.slice a n ca) := by rw [World.cell?_alloc_old _ _ _ (by simp)]; simp [go_sem]
  have bx2 : ((w.alloc (.cells #[.slice a n ca] 165)).alloc (.cells #[.slice b m cb] 165)).cell? ⟨w.heap.size + 1, 0, none⟩ = some (.slice b m cb) := by simp [go_sem]
  have zA : w.heap.size + 2 ≤ ((w.alloc (.cells #[.slice a n ca] 165)).alloc (.cells #[.slice b m cb] 165)).heap.size := by simp
  have XA := hX.keep sA
  have YA := hY.keep sA
  by_cases h1 : lv X n = 1
  · have eG : Nat.gcd (lv X n) (lv Y m) = 1 := by rw [h1]; exact Nat.gcd_one_left _
    rw [eG]
    have d1 : decide (lv X n = 1) = true := by simp [h1]
    go_enter Tryz.func141, Tryz.ntmps141
    go_wp2_with fail
    generalize (w.alloc (.cells #[.slice a n ca] 165)).alloc (.cells #[.slice b m cb] 165) = wA at *
    have I1 := isOne_any w.heap.size 0 a ba oa n ca X wA bx1 XA hXl pX
    rw [d1] at I1
    refine I1.mono ?_
    clear I1
    rintro e w1 ⟨rfl, hw1⟩
    rw [hw1]
    clear hw1 hXl hYl pX pY d1 h1 hbig eG
    go_wp2
    go_ret
    exact ⟨_, wA.heap.size, rfl, natAt_one wA, by omega, sA.alloc (by omega) _⟩
  by_cases h2 : lv Y m = 1
  · have eG : Nat.gcd (lv X n) (lv Y m) = 1 := by rw [h2]; exact Nat.gcd_one_right _
    rw [eG]
    have d1 : decide (lv X n = 1) = false := by simp [h1]
    have d2 : decide (lv Y m = 1) = true := by simp [h2]
    go_enter Tryz.func141, Tryz.ntmps141
    go_wp2_with fail
    generalize (w.alloc (.cells #[.slice a n ca] 165)).alloc (.cells #[.slice b m cb] 165) = wA at *
    have I1 := isOne_any w.heap.size 0 a ba oa n ca X wA bx1 XA hXl pX
    have I2 := isOne_any (w.heap.size + 1) 0 b bb ob m cb Y wA bx2 YA hYl pY
    rw [d1] at I1
    rw [d2] at I2
    refine I1.mono ?_
    clear I1
    rintro e w1 ⟨rfl, hw1⟩
    rw [hw1]
    clear hw1
    have I2 := hide I2
    go_wp2_with fail
    refine I2.out.mono ?_
    clear I2
    rintro e w1 ⟨rfl, hw1⟩
    rw [hw1]
    clear hw1 hXl hYl pX pY d1 d2 h1 h2 hbig eG
    go_wp2
    go_ret
    exact ⟨_, wA.heap.size, rfl, natAt_one wA, by omega, sA.alloc (by omega) _⟩
  · have h3 : n ≤ 2 := by rcases Nat.lt_or_ge 2 n with h | h; · exact absurd ⟨h1, h2, Or.inl h⟩ hbig
                          · exact h
    have h4 : m ≤ 2 := by rcases Nat.lt_or_ge 2 m with h | h; · exact absurd ⟨h1, h2, Or.inr h⟩ hbig
                          · exact h
    have d1 : decide (lv X n = 1) = false := by simp [h1]
    have d2 : decide (lv Y m = 1) = false := by simp [h2]
    have vX : lv X n < 18446744073709551616 := short_lt h3 hXl
    have vY : lv Y m < 18446744073709551616 := short_lt h4 hYl
    have vG : Nat.gcd (lv X n) (lv Y m) < 18446744073709551616 := by
      rcases Nat.eq_zero_or_pos (lv X n) with e | e
      · rw [e, Nat.gcd_zero_left]; exact vY
      · exact Nat.lt_of_le_of_lt (Nat.gcd_le_left _ e) vX
    go_enter Tryz.func141, Tryz.ntmps141
    go_wp2_with fail
    generalize (w.alloc (.cells #[.slice a n ca] 165)).alloc (.cells #[.slice b m cb] 165) = wA at *
    have I1 := isOne_any w.heap.size 0 a ba oa n ca X wA bx1 XA hXl pX
    have I2 := isOne_any (w.heap.size + 1) 0 b bb ob m cb Y wA bx2 YA hYl pY
    rw [d1] at I1
    rw [d2] at I2
    refine I1.mono ?_
    clear I1
    rintro e w1 ⟨rfl, hw1⟩
    rw [hw1]
    clear hw1
    have I2 := hide I2
    go_wp2_with fail
    refine I2.out.mono ?_
    clear I2
    rintro e w1 ⟨rfl, hw1⟩
    rw [hw1]
    clear hw1
    go_wp2_with fail
    refine (isShort_yes w.heap.size 0 a n ca _ h3 bx1).mono ?_
    rintro e w1 ⟨rfl, hw1⟩
    rw [hw1]
    clear hw1
    go_wp2_with fail
    refine (isShort_yes (w.heap.size + 1) 0 b m cb _ h4 bx2).mono ?_
    rintro e w1 ⟨rfl, hw1⟩
    rw [hw1]
    clear hw1
    go_wp2_with fail
    refine (short_any w.heap.size 0 a ba oa n ca X wA h3 bx1 XA hXl).mono ?_
    rintro e w1 ⟨rfl, hw1⟩
    rw [hw1]
    clear hw1
    go_wp2_with fail
    refine (short_any (w.heap.size + 1) 0 b bb ob m cb Y wA h4 bx2 YA hYl).mono ?_
    rintro e w1 ⟨rfl, hw1⟩
    rw [hw1]
    clear hw1
    go_wp2_with fail
    refine (shortGcd_any _ _ wA vX vY).mono ?_
    rintro e w1 ⟨rfl, s1⟩
    go_wp2_with fail
    refine (natOfShort_any _ w1 vG).mono ?_
    rintro e w2 ⟨S, rfl, r2, l2, e2, s2⟩
    go_wp2_with fail
    go_ret
    have t2 := tlen_le (nz S) 2
    have z1 := (s1.since wA.heap.size).size
    have L2 := limbs_row r2
    refine ⟨_, w1.heap.size, rfl, ⟨_, _, _, S, rfl, t2, by omega, fun h => (by cases h), L2.take t2, fun _ o => r2.frozen o, fun j _ => l2 j, fun h => by have := tlen_top (nz S) 2 h; simpa [nz] using this, by rw [lv_tlen]; exact e2⟩, by omega, ?_⟩
    exact (sA.trans (sinceMono (s1.since wA.heap.size) (by omega))).trans (sinceMono s2 (by omega))

end Go.Proofs.YtnogbaapcjjngaaGreatDoor

namespace Go.Proofs.YtnogbaapcjjngaaGreatDoor
open Go.RowKit

end Go.Proofs.YtnogbaapcjjngaaGreatDoor

namespace Go.Proofs.YtnogbaapcjjngaaGreatDoor
open Go.RowKit

end Go.Proofs.YtnogbaapcjjngaaGreatDoor

namespace Go.Proofs.YtnogbaapcjjngaaGreatDoor
open Go.RowKit

/-- The bits of a machine number. -/
def nb (v j : Nat) : Bool := v / 2 ^ j % 2 == 1

theorem bv_nb (v k : Nat) : bv (nb v) k = v % 2 ^ k := by
  induction k with
  | zero => simp [bv, Nat.mod_one]
  | succ k ih =>
    have h : bv (nb v) (k + 1) = bv (nb v) k + (nb v k).toNat * 2 ^ k := rfl
    rw [h, ih]
    unfold nb
    rw [toNat_beq, Nat.pow_succ, Nat.mod_mul, Nat.mul_comm (2 ^ k)]

set_option maxHeartbeats 1600000 in
set_option maxRecDepth 100000 in
theorem l1BitsOf_any (v : Nat) (w : World) (hv : v < 18446744073709551616) :
    Calls Tryz.prog 105 #[.int .u64 v] w fun e w' => ∃ x t B, e = .returned x ∧ t ≤ 64 ∧ Tr w' x t B ∧ bv B t = v ∧ w.Since w.heap.size w' := by
  obtain ⟨i0, hi, hz0, hz1, hz2⟩ := info_parts Tryz.info4
  go_enter Tryz.func105, Tryz.ntmps105
  go_wp2
  go_loopw [0, 3] (fun p o wr => ∃ k q : Nat, k ≤ 64 ∧ p = .int .u64 q ∧ q < 18446744073709551616 ∧ Hid (q = v / 2 ^ k) ∧ Hid (0 < k → 0 < v / 2 ^ (k - 1)) ∧ wr.ownsRow w.heap.size 4 1 o k (bl (nb v) k) ∧ w.Since w.heap.size wr) (fun p _ _ => (intOf p).toNat)
  case atStart => exact ⟨0, v, by omega, rfl, hv, hide (by simp), hide (fun h => absurd h (by omega)), World.ownsRow_made w #[] 0 (Nat.le_refl _) (by decide) rfl, (World.Since.refl _ _).alloc (Nat.le_refl _) _⟩
  case round =>
    obtain ⟨k, q, hk, rfl, hq, HQ, HP, hown, hs⟩ := hrel
    by_cases h0 : q = 0
    · subst h0
      obtain ⟨a', g, cap', rfl, hmc, hg, hB⟩ := own_bits hown
      go_wp2
      go_ret
      have hlt : v < 2 ^ k := by
        have := HQ.out
        have h2 : 0 < 2 ^ k := Nat.pow_pos (by omega)
        rcases Nat.lt_or_ge v (2 ^ k) with h | h
        · exact h
        · have := Nat.div_pos h h2; omega
      refine ⟨_, k, nb v, rfl, hk, ⟨a', g, 0, cap', rfl, hmc, hB, fun h => ?_⟩, (bv_nb v k).trans (Nat.mod_eq_of_lt hlt), hs⟩
      have h1 := HP.out h
      obtain ⟨j, rfl⟩ : ∃ j, k = j + 1 := ⟨k - 1, by omega⟩
      have h2 : v / 2 ^ j < 2 := by rw [Nat.div_lt_iff_lt_mul (Nat.pow_pos (by omega))]; rw [Nat.pow_succ] at hlt; omega
      simp only [Nat.add_sub_cancel] at h1 ⊢
      unfold nb
      rw [show v / 2 ^ j = 1 by omega]
      rfl
    · have hk2 : k < 64 := by
        rcases Nat.lt_or_ge k 64 with h | h
        · exact h
        · have e : k = 64 := by omega
          subst e
          have := HQ.out
          rw [Nat.div_eq_of_lt hv] at this
          omega
      have hne : 0 < q := by omega
      have hbit : ((q : Int) % 2 == 1) = nb v k := by
        rw [Bool.eq_iff_iff]
        simp only [nb, beq_iff_eq, ← HQ.out]
        omega
      have HB := hide hbit
      clear hbit h0
      go_wp2_with (at_builtin; refine wpList_append_own _ rfl _ _ 134 rfl w.heap.size 4 i0 (.bool false) 1 1 Tryz.underlying134 hi hz0 hz1 hz2 rfl (by decide) _ _ _ rfl (hown.alloc _) ⟨wr.heap.size, 0, none⟩ 1 1 [.bool ((q : Int) % 2 == 1)] rfl rfl (new_cell _ _ _) (one_one _ rfl) (by unfold maxLen; omega) (by omega) (by have := hs.size; simp; omega) ?_)
      intro v' w1 hown' hgrow _
      have hs1 : w.Since w.heap.size w1 := (hs.alloc hs.size _).grown hgrow (by have := hs.size; simp; omega) (fun k hk => (hown.lt k hk).1)
      rw [HB.out, ← bl_succ] at hown'
      clear hgrow hown hs
      go_wp2
      go_roundw
      case rel => exact ⟨k + 1, q / 2, by omega, by go_num, by omega, hide (by rw [HQ.out, Nat.div_div_eq_div_mul, Nat.pow_succ]), hide (fun _ => by rw [Nat.add_sub_cancel, ← HQ.out]; exact hne), hown', hs1⟩
      case measure => simp [intOf]; omega

end Go.Proofs.YtnogbaapcjjngaaGreatDoor

namespace Go.Proofs.YtnogbaapcjjngaaGreatDoor
open Go.RowKit

theorem box3 (w : World) (x y z : Value) (t : TypeId) : (w.alloc (.cells #[x, y, z] t)).cell? ⟨w.heap.size, 0, none⟩ = some x ∧ (w.alloc (.cells #[x, y, z] t)).cell? ⟨w.heap.size, 1, none⟩ = some y ∧ (w.alloc (.cells #[x, y, z] t)).cell? ⟨w.heap.size, 2, none⟩ = some z := by
  simp [go_sem]

end Go.Proofs.YtnogbaapcjjngaaGreatDoor

namespace Go.Proofs.YtnogbaapcjjngaaGreatDoor
open Go.RowKit

/-- A Rat in an answer: its two lists lie in blocks of their own. -/
def RatV (w : World) (v : Value) (neg : Bool) (N D B M : Nat) : Prop :=
  ∃ v1 v2 g h, v = .agg #[.bool neg, v1, v2] ∧ NatAt w v1 g N M ∧ NatAt w v2 h D M ∧ B ≤ g ∧ B ≤ h ∧ g ≠ h

theorem natAt_nil (w : World) (g M : Nat) : NatAt w (.slice none 0 0) g 0 M :=
  ⟨none, 0, 0, fun _ => 0, rfl, Nat.le_refl _, Nat.zero_le _, fun _ => rfl, fun j hj => absurd hj (by omega), fun h => absurd h (by omega), fun j hj => absurd hj (by omega), fun h => absurd h (by omega), rfl⟩

theorem natAt_empty (w : World) (a : Addr) (cap g M : Nat) : NatAt w (.slice (some a) 0 cap) g 0 M :=
  ⟨some a, 0, cap, fun _ => 0, rfl, Nat.zero_le _, Nat.zero_le _, fun h => (by cases h), fun j hj => absurd hj (by omega), fun h => absurd h (by omega), fun j hj => absurd hj (by omega), fun h => absurd h (by omega), rfl⟩

theorem NatAt.keep {w w' : World} {v : Value} {g N M : Nat} (h : NatAt w v g N M) (s : w.Since w.heap.size w') : NatAt w' v g N M := by
  obtain ⟨a, m, cap, Y, h1, h2, h3, h4, h5, h6, h7, h8, h9⟩ := h
  exact ⟨a, m, cap, Y, h1, h2, h3, h4, h5.keep s, fun h0 o => by rw [s.frozen (a := ⟨g, o, none⟩) (h5.lt h0)]; exact h6 h0 o, h7, h8, h9⟩

theorem NatAt.marked {w w' : World} {v : Value} {g N M c : Nat} (h : NatAt w v g N M) (s : Marked w w' c) (hne : g ≠ c) : NatAt w' v g N M := by
  obtain ⟨a, m, cap, Y, h1, h2, h3, h4, h5, h6, h7, h8, h9⟩ := h
  exact ⟨a, m, cap, Y, h1, h2, h3, h4, h5.marked s (fun _ => hne), fun h0 o => by rw [s.frozenO (a := ⟨g, o, none⟩) hne]; exact h6 h0 o, h7, h8, h9⟩

theorem NatAt.more {w : World} {v : Value} {g N M M' : Nat} (h : NatAt w v g N M) (hM : M ≤ M') : NatAt w v g N M' := by
  obtain ⟨a, m, cap, Y, h1, h2, h3, h4⟩ := h
  exact ⟨a, m, cap, Y, h1, h2, Nat.le_trans h3 hM, h4⟩

set_option maxHeartbeats 800000 in
set_option maxRecDepth 100000 in
theorem zeroRat_any (w : World) : Calls Tryz.prog 124 #[] w fun e w' => ∃ v, e = .returned v ∧ RatV w' v false 0 1 w.heap.size 67108864 ∧ w.Since w.heap.size w' := by
  have sA : w.Since w.heap.size ((w.alloc (.cells #[.bool false, .slice none 0 0, .slice (some ⟨w.heap.size + 1, 0, none⟩) 1 1] 61)).alloc (.cells #[.int .u32 1] 159)) := ((World.Since.refl _ _).alloc (Nat.le_refl _) _).alloc (by simp) _
  have bA : Box3 ((w.alloc (.cells #[.bool false, .slice none 0 0, .slice (some ⟨w.heap.size + 1, 0, none⟩) 1 1] 61)).alloc (.cells #[.int .u32 1] 159)) w.heap.size (.bool false) (.slice none 0 0) (.slice (some ⟨w.heap.size + 1, 0, none⟩) 1 1) :=
    (Box3.new w _ _ _ _).keep ((World.Since.refl _ _).alloc (Nat.le_refl _) _)
  have n1 := natAt_one (w.alloc (.cells #[.bool false, .slice none 0 0, .slice (some ⟨w.heap.size + 1, 0, none⟩) 1 1] 61))
  rw [show (w.alloc (.cells #[.bool false, .slice none 0 0, .slice (some ⟨w.heap.size + 1, 0, none⟩) 1 1] 61)).heap.size = w.heap.size + 1 by simp] at n1
  go_enter Tryz.func124, Tryz.ntmps124
  go_wp2
  refine bodyPost_ret (results_box3 rfl _ _ _ _ _ _ rfl bA) rfl ?_
  exact ⟨_, rfl, ⟨_, _, w.heap.size + 2, w.heap.size + 1, rfl, natAt_nil _ _ _, n1, by omega, by omega, by omega⟩, sA⟩

set_option maxHeartbeats 800000 in
set_option maxRecDepth 100000 in
theorem l1Zero_any (w : World) : Calls Tryz.prog 104 #[] w fun e w' => ∃ v, e = .returned v ∧ RatV w' v false 0 1 w.heap.size 67108864 ∧ w.Since w.heap.size w' := by
  have sA : w.Since w.heap.size (((w.alloc (.cells #[.bool false, .slice (some ⟨w.heap.size + 1, 0, none⟩) 0 0, .slice (some ⟨w.heap.size + 1 + 1, 0, none⟩) 1 1] 61)).alloc (.cells #[] 159)).alloc (.cells #[.int .u32 1] 159)) :=
    (((World.Since.refl _ _).alloc (Nat.le_refl _) _).alloc (by simp) _).alloc (by simp; omega) _
  have bA : Box3 (((w.alloc (.cells #[.bool false, .slice (some ⟨w.heap.size + 1, 0, none⟩) 0 0, .slice (some ⟨w.heap.size + 1 + 1, 0, none⟩) 1 1] 61)).alloc (.cells #[] 159)).alloc (.cells #[.int .u32 1] 159)) w.heap.size (.bool false) (.slice (some ⟨w.heap.size + 1, 0, none⟩) 0 0) (.slice (some ⟨w.heap.size + 1 + 1, 0, none⟩) 1 1) :=
    ((Box3.new w _ _ _ _).keep ((World.Since.refl _ _).alloc (Nat.le_refl _) _)).keep ((World.Since.refl _ _).alloc (Nat.le_refl _) _)
  have n1 := natAt_one ((w.alloc (.cells #[.bool false, .slice (some ⟨w.heap.size + 1, 0, none⟩) 0 0, .slice (some ⟨w.heap.size + 1 + 1, 0, none⟩) 1 1] 61)).alloc (.cells #[] 159))
  rw [show ((w.alloc (.cells #[.bool false, .slice (some ⟨w.heap.size + 1, 0, none⟩) 0 0, .slice (some ⟨w.heap.size + 1 + 1, 0, none⟩) 1 1] 61)).alloc (.cells #[] 159)).heap.size = w.heap.size + 1 + 1 by simp] at n1
  go_enter Tryz.func104, Tryz.ntmps104
  go_wp2
  refine bodyPost_ret (results_box3 rfl _ _ _ _ _ _ rfl bA) rfl ?_
  exact ⟨_, rfl, ⟨_, _, w.heap.size + 1, w.heap.size + 1 + 1, rfl, natAt_empty _ _ _ _ _, n1, by omega, by omega, by omega⟩, sA⟩

end Go.Proofs.YtnogbaapcjjngaaGreatDoor

namespace Go.Proofs.YtnogbaapcjjngaaGreatDoor
open Go.RowKit

/-- Old memory but for one block stands. -/
structure Oth (c : Nat) (w w' : World) : Prop where
  os : w'.os = w.os
  tape : w'.tape = w.tape
  output : w'.output = w.output
  size : w.heap.size ≤ w'.heap.size
  block : ∀ k, k < w.heap.size → k ≠ c → w'.heap[k]? = w.heap[k]?

section
variable {c d n g N M off : Nat} {w w' w1 w2 : World} {a : Option Addr} {X : Nat → Nat} {v x y z : Value}
theorem Oth.ofSince (c : Nat) (h : w.Since w.heap.size w') : Oth c w w' := ⟨h.os, h.tape, h.output, h.size, fun k hk _ => h.block k hk⟩
end

theorem Box3.drew {w : World} {c : Nat} {x y z : Value} (h : Box3 w c x y z) : Box3 w.drew c x y z := ⟨h.c0, h.c1, h.c2, h.f⟩
theorem Limbs.drew {w : World} {a : Option Addr} {b off n : Nat} {X : Nat → Nat} (h : Limbs w a b off n X) : Limbs w.drew a b off n X := h
theorem NatAt.drew {w : World} {v : Value} {g N M : Nat} (h : NatAt w v g N M) : NatAt w.drew v g N M := h
theorem since_drew {w w' : World} {B : Nat} (h : w.Since B w') : w.Since B w'.drew := ⟨h.os, h.tape, h.output, h.size, h.block⟩

theorem Box4.drew {w : World} {c : Nat} {x y z u : Value} (h : Box4 w c x y z u) : Box4 w.drew c x y z u := ⟨h.c0, h.c1, h.c2, h.c3, h.f⟩

end Go.Proofs.YtnogbaapcjjngaaGreatDoor

namespace Go.Proofs.YtnogbaapcjjngaaGreatDoor
open Go.RowKit

/-- What writing into one cell of a box and into one row leaves. -/
structure At1 (c o : Nat) (r : Option Nat) (w w' : World) : Prop where
  os : w'.os = w.os
  tape : w'.tape = w.tape
  output : w'.output = w.output
  size : w.heap.size ≤ w'.heap.size
  block : ∀ k, k < w.heap.size → k ≠ c → some k ≠ r → w'.heap[k]? = w.heap[k]?
  cell : ∀ x, x ≠ o → w'.cell? ⟨c, x, none⟩ = w.cell? ⟨c, x, none⟩
  frozen : ∀ x, w'.frozen? ⟨c, x, none⟩ = w.frozen? ⟨c, x, none⟩

section
variable {c o : Nat} {r : Option Nat} {w w' w'' : World}
theorem At1.refl (c o : Nat) (r : Option Nat) (w : World) : At1 c o r w w := ⟨rfl, rfl, rfl, Nat.le_refl _, fun _ _ _ _ => rfl, fun _ _ => rfl, fun _ => rfl⟩
theorem At1.alloc (h : At1 c o r w w') (hc : c < w.heap.size) (b : Obj) : At1 c o r w (w'.alloc b) := by
  have s : w'.Since w'.heap.size (w'.alloc b) := (World.Since.refl _ _).alloc (Nat.le_refl _) _
  have hl := h.size
  exact ⟨h.os, h.tape, h.output, Nat.le_trans h.size s.size, fun k h1 h2 h3 => (s.block k (by omega)).trans (h.block k h1 h2 h3), fun x hx => (s.cell (a := ⟨c, x, none⟩) (by show c < _; omega)).trans (h.cell x hx), fun x => (s.frozen (a := ⟨c, x, none⟩) (by show c < _; omega)).trans (h.frozen x)⟩
theorem At1.grown {row : Option Nat} (h : At1 c o r w w') (g : w'.grownBy w'' row) (hc : c < w.heap.size) (hr : row = r ∨ ∀ k, row = some k → w.heap.size ≤ k) (hrc : some c ≠ row) : At1 c o r w w'' := by
  have hl := h.size
  refine ⟨g.os.trans h.os, g.tape.trans h.tape, g.output.trans h.output, Nat.le_trans h.size g.size, fun k h1 h2 h3 => (g.block k (by omega) ?_).trans (h.block k h1 h2 h3), fun x hx => (World.cell?_of_block (w := w') (a := ⟨c, x, none⟩) (g.block c (by omega) hrc)).trans (h.cell x hx), fun x => (World.frozen?_of_block (w := w') (a := ⟨c, x, none⟩) (g.block c (by omega) hrc)).trans (h.frozen x)⟩
  rcases hr with rfl | hr
  · exact h3
  · intro e; have := hr k e.symm; omega
theorem At1.setRow (h : At1 c o r w w') (g i : Nat) (v : Value) (hr : some g = r ∨ w.heap.size ≤ g) (hc : g ≠ c) : At1 c o r w (w'.setCell ⟨g, i, none⟩ v) := by
  have M := (Marked.refl w' g).setCell i v
  refine ⟨M.os.trans h.os, M.tape.trans h.tape, M.output.trans h.output, by rw [M.size]; exact h.size, fun k h1 h2 h3 => (M.other k ?_).trans (h.block k h1 h2 h3), fun x hx => (M.cell (a := ⟨c, x, none⟩) (Ne.symm hc)).trans (h.cell x hx), fun x => (M.frozenO (a := ⟨c, x, none⟩) (Ne.symm hc)).trans (h.frozen x)⟩
  rcases hr with rfl | hr
  · intro e; exact h3 (by rw [e])
  · omega
theorem At1.setC (h : At1 c o r w w') (v : Value) : At1 c o r w (w'.setCell ⟨c, o, none⟩ v) := by
  have M := (Marked.refl w' c).setCell o v
  refine ⟨M.os.trans h.os, M.tape.trans h.tape, M.output.trans h.output, by rw [M.size]; exact h.size, fun k h1 h2 h3 => (M.other k h2).trans (h.block k h1 h2 h3), fun x hx => ?_, fun x => (M.frozen x).trans (h.frozen x)⟩
  rw [← h.cell x hx]
  exact World.cell?_setCell_other _ _ _ _ (by simp)
end

end Go.Proofs.YtnogbaapcjjngaaGreatDoor

namespace Go.Proofs.YtnogbaapcjjngaaGreatDoor
open Go.RowKit

end Go.Proofs.YtnogbaapcjjngaaGreatDoor

namespace Go.Proofs.YtnogbaapcjjngaaGreatDoor
open Go.RowKit

end Go.Proofs.YtnogbaapcjjngaaGreatDoor

namespace Go.Proofs.YtnogbaapcjjngaaGreatDoor
open Go.RowKit

end Go.Proofs.YtnogbaapcjjngaaGreatDoor

namespace Go.Proofs.YtnogbaapcjjngaaGreatDoor
open Go.RowKit

end Go.Proofs.YtnogbaapcjjngaaGreatDoor

namespace Go.Proofs.YtnogbaapcjjngaaGreatDoor
open Go.RowKit

end Go.Proofs.YtnogbaapcjjngaaGreatDoor

namespace Go.Proofs.YtnogbaapcjjngaaGreatDoor
open Go.RowKit

set_option maxHeartbeats 800000 in
set_option maxRecDepth 100000 in
/-- eqRat at two Rats of the same fields. -/
theorem eqRat_true (neg : Bool) (a a' b b' : Option Addr) (ba oa ba' oa' n ca ca' bb ob bb' ob' m cb cb' : Nat) (X Y : Nat → Nat) (w : World) (hn : n ≤ 67108864) (hm : m ≤ 67108864)
    (hX : Limbs w a ba oa n X) (hX' : Limbs w a' ba' oa' n X) (hY : Limbs w b bb ob m Y) (hY' : Limbs w b' bb' ob' m Y) :
    Calls Tryz.prog 74 #[.agg #[.bool neg, .slice a n ca, .slice b m cb], .agg #[.bool neg, .slice a' n ca', .slice b' m cb']] w fun e w' => e = .returned (.bool true) ∧ w.Since w.heap.size w' := by
  have sA : w.Since w.heap.size ((w.alloc (.cells #[.bool neg, .slice a n ca, .slice b m cb] 61)).alloc (.cells #[.bool neg, .slice a' n ca', .slice b' m cb'] 61)) := ((World.Since.refl _ _).alloc (Nat.le_refl _) _).alloc (by simp) _
  have bA : Box3 ((w.alloc (.cells #[.bool neg, .slice a n ca, .slice b m cb] 61)).alloc (.cells #[.bool neg, .slice a' n ca', .slice b' m cb'] 61)) w.heap.size (.bool neg) (.slice a n ca) (.slice b m cb) := (Box3.new w _ _ _ _).keep ((World.Since.refl _ _).alloc (Nat.le_refl _) _)
  have cA : Box3 ((w.alloc (.cells #[.bool neg, .slice a n ca, .slice b m cb] 61)).alloc (.cells #[.bool neg, .slice a' n ca', .slice b' m cb'] 61)) (w.heap.size + 1) (.bool neg) (.slice a' n ca') (.slice b' m cb') := by
    have := Box3.new (w.alloc (.cells #[.bool neg, .slice a n ca, .slice b m cb] 61)) (.bool neg) (.slice a' n ca') (.slice b' m cb') 61
    simpa using this
  go_enter Tryz.func74, Tryz.ntmps74
  go_wp2_with fail
  generalize ((w.alloc (.cells #[.bool neg, .slice a n ca, .slice b m cb] 61)).alloc (.cells #[.bool neg, .slice a' n ca', .slice b' m cb'] 61)) = wA at *
  refine (eq_true a a' ba oa ba' oa' n ca ca' X wA hn (hX.keep sA) (hX'.keep sA)).mono ?_
  rintro e w1 ⟨rfl, s1⟩
  have S1 := s1.since wA.heap.size
  have k1 := (bA.keep S1).c2
  have k2 := (cA.keep S1).c2
  go_wp2_with fail
  refine (eq_true b b' bb ob bb' ob' m cb cb' Y w1 hm ((hY.keep sA).keep S1) ((hY'.keep sA).keep S1)).mono ?_
  rintro e w2 ⟨rfl, s2⟩
  go_wp2
  go_ret
  exact ⟨rfl, (sA.trans (sinceMono S1 sA.size)).trans (s2.since _)⟩

end Go.Proofs.YtnogbaapcjjngaaGreatDoor

namespace Go.Proofs.YtnogbaapcjjngaaGreatDoor
open Go.RowKit

/-- What a Rat holds. -/
structure RatD where
  neg : Bool
  n : Nat
  X : Nat → Nat
  m : Nat
  Y : Nat → Nat

def RatD.nul : RatD := ⟨false, 0, fun _ => 0, 0, fun _ => 0⟩

/-- Two slices that hold a Rat's lists, in blocks from lo on. -/
structure RatL (w : World) (lo : Nat) (r : RatD) (a b : Option Addr) (ca cb : Nat) : Prop where
  nc : r.n ≤ ca
  mc : r.m ≤ cb
  ac : a = none → ca = 0
  bc : b = none → cb = 0
  LX : ∃ ba oa, (0 < r.n → lo ≤ ba) ∧ Limbs w a ba oa r.n r.X
  LY : ∃ bb ob, (0 < r.m → lo ≤ bb) ∧ Limbs w b bb ob r.m r.Y
  lX : ∀ j, j < r.n → r.X j < 4294967296
  lY : ∀ j, j < r.m → r.Y j < 4294967296
  n63 : r.n ≤ 9223372036854775807
  m63 : r.m ≤ 9223372036854775807

section
variable {w w' : World} {lo lo' b off n c : Nat} {r : RatD} {a a1 a2 : Option Addr} {k1 k2 : Nat} {R : Nat → RatD}

theorem RatL.keep (h : RatL w lo r a1 a2 k1 k2) (s : w.Since w.heap.size w') : RatL w' lo r a1 a2 k1 k2 := by
  obtain ⟨ba, oa, l1, LX⟩ := h.LX
  obtain ⟨bb, ob, l2, LY⟩ := h.LY
  exact ⟨h.nc, h.mc, h.ac, h.bc, ⟨ba, oa, l1, LX.keep s⟩, ⟨bb, ob, l2, LY.keep s⟩, h.lX, h.lY, h.n63, h.m63⟩

/-- A Rat that lies in memory. -/
structure RatM (w : World) (lo b off : Nat) (r : RatD) (a1 a2 : Option Addr) (k1 k2 : Nat) : Prop where
  c0 : w.cell? ⟨b, off, none⟩ = some (.bool r.neg)
  c1 : w.cell? ⟨b, off + 1, none⟩ = some (.slice a1 r.n k1)
  c2 : w.cell? ⟨b, off + 2, none⟩ = some (.slice a2 r.m k2)
  L : RatL w lo r a1 a2 k1 k2

theorem RatM.lt (h : RatM w lo b off r a1 a2 k1 k2) : b < w.heap.size := World.block_lt_of_cell? _ _ h.c0
theorem RatM.keep (h : RatM w lo b off r a1 a2 k1 k2) (s : w.Since w.heap.size w') : RatM w' lo b off r a1 a2 k1 k2 :=
  ⟨(s.cell (a := ⟨b, off, none⟩) h.lt).trans h.c0, (s.cell (a := ⟨b, off + 1, none⟩) h.lt).trans h.c1, (s.cell (a := ⟨b, off + 2, none⟩) h.lt).trans h.c2, h.L.keep s⟩
/-- A slice of Rats. -/
def Rats (w : World) (lo : Nat) (a : Option Addr) (b off n : Nat) (R : Nat → RatD) : Prop :=
  ∀ i, i < n → a = some ⟨b, off, none⟩ ∧ ∃ a1 a2 k1 k2, RatM w lo b (off + i * 3) (R i) a1 a2 k1 k2

theorem Rats.keep (h : Rats w lo a b off n R) (s : w.Since w.heap.size w') : Rats w' lo a b off n R := fun i hi => by
  obtain ⟨h1, a1, a2, k1, k2, h2⟩ := h i hi
  exact ⟨h1, a1, a2, k1, k2, h2.keep s⟩
end

/-- How much a list of Rats counts. -/
def szR (R : Nat → RatD) : Nat → Nat
  | 0 => 0
  | n + 1 => szR R n + ((R n).n + (R n).m)

theorem szR_succ (R : Nat → RatD) (n : Nat) : szR R (n + 1) = szR R n + ((R n).n + (R n).m) := rfl

theorem szR_mono {R : Nat → RatD} {k n : Nat} (h : k ≤ n) : szR R k ≤ szR R n := by
  induction n with
  | zero => simp at h; subst h; exact Nat.le_refl _
  | succ n ih =>
    rcases Nat.lt_or_ge n k with h1 | h1
    · have : k = n + 1 := by omega
      subst this; exact Nat.le_refl _
    · have := ih h1
      rw [szR_succ]
      omega

theorem szR_at {R : Nat → RatD} {k n : Nat} (h : k < n) : (R k).n + (R k).m ≤ szR R n := by
  have := szR_mono (R := R) (show k + 1 ≤ n from h)
  rw [szR_succ] at this
  omega

/-- What an affine map holds. -/
structure AffD where
  rows : Int
  cols : Int
  nw : Nat
  W : Nat → RatD
  nb : Nat
  B : Nat → RatD

def AffD.nul : AffD := ⟨0, 0, 0, fun _ => RatD.nul, 0, fun _ => RatD.nul⟩

section
variable {w w' : World} {lo lo' b off n c : Nat} {d : AffD} {a a1 a2 : Option Addr} {k1 k2 : Nat} {A : Nat → AffD}

end

end Go.Proofs.YtnogbaapcjjngaaGreatDoor

namespace Go.Proofs.YtnogbaapcjjngaaGreatDoor
open Go.RowKit

end Go.Proofs.YtnogbaapcjjngaaGreatDoor

namespace Go.Proofs.YtnogbaapcjjngaaGreatDoor
open Go.RowKit

end Go.Proofs.YtnogbaapcjjngaaGreatDoor

namespace Go.Proofs.YtnogbaapcjjngaaGreatDoor
open Go.RowKit

end Go.Proofs.YtnogbaapcjjngaaGreatDoor

namespace Go.Proofs.YtnogbaapcjjngaaGreatDoor
open Go.RowKit

end Go.Proofs.YtnogbaapcjjngaaGreatDoor

namespace Go.Proofs.YtnogbaapcjjngaaGreatDoor
open Go.RowKit

end Go.Proofs.YtnogbaapcjjngaaGreatDoor

namespace Go.Proofs.YtnogbaapcjjngaaGreatDoor
open Go.RowKit

set_option maxHeartbeats 1600000 in
set_option maxRecDepth 100000 in
theorem eqRatS_true (a a' : Option Addr) (lo b off cap lo' b' off' cap' n : Nat) (R : Nat → RatD) (w : World) (hn : n ≤ 16777216) (hs : szR R n ≤ 16777216) (H : Rats w lo a b off n R) (H' : Rats w lo' a' b' off' n R) :
    Calls Tryz.prog 36 #[.slice a n cap, .slice a' n cap'] w fun e w' => e = .returned (.bool true) ∧ w.Since w.heap.size w' := by
  go_enter Tryz.func36, Tryz.ntmps36
  go_wp2
  go_loopw [5] (fun i wr => ∃ k : Nat, k ≤ n ∧ i = .int .i64 k ∧ w.Since w.heap.size wr) (fun i _ => n - (intOf i).toNat)
  case atStart => exact ⟨0, Nat.zero_le _, rfl, World.Since.refl _ _⟩
  case round =>
    obtain ⟨k, hk, rfl, s⟩ := hrel
    by_cases hlt : k < n
    · obtain ⟨rfl, a1, a2, k1, k2, M⟩ := H k hlt
      obtain ⟨rfl, a1', a2', k1', k2', M'⟩ := H' k hlt
      have sd : w.Since w.heap.size wr.drew := ⟨s.os, s.tape, s.output, s.size, s.block⟩
      have N := M.keep s
      have N' := M'.keep s
      have g0 := N.c0
      have g1 := N.c1
      have g2 := N.c2
      have g0' := N'.c0
      have g1' := N'.c1
      have g2' := N'.c2
      have hsz := szR_at (R := R) hlt
      have hz : (k : Int) < (n : Int) := by omega
      obtain ⟨ba, oa, -, LX⟩ := (M.L.keep sd).LX
      obtain ⟨bb, ob, -, LY⟩ := (M.L.keep sd).LY
      obtain ⟨ba', oa', -, LX'⟩ := (M'.L.keep sd).LX
      obtain ⟨bb', ob', -, LY'⟩ := (M'.L.keep sd).LY
      have J1 := eqRat_true (R k).neg a1 a1' a2 a2' ba oa ba' oa' (R k).n k1 k1' bb ob bb' ob' (R k).m k2 k2' (R k).X (R k).Y wr.drew (by omega) (by omega) LX LX' LY LY'
      clear LX LY LX' LY' N N'
      go_wp2_with fail
      go_region_held3 (fun w' => w'.cell? ⟨b, off + k * 3, none⟩ = some (.bool (R k).neg) ∧ w'.cell? ⟨b, off + k * 3 + 1, none⟩ = some (.slice a1 (R k).n k1) ∧ w'.cell? ⟨b, off + k * 3 + 2, none⟩ = some (.slice a2 (R k).m k2) ∧ w'.cell? ⟨b', off' + k * 3, none⟩ = some (.bool (R k).neg) ∧ w'.cell? ⟨b', off' + k * 3 + 1, none⟩ = some (.slice a1' (R k).n k1') ∧ w'.cell? ⟨b', off' + k * 3 + 2, none⟩ = some (.slice a2' (R k).m k2')) (go_keep)
        (first
          | (go_at_call 74
             with_reducible refine J1.mono ?_
             rintro e w1 ⟨rfl, s1⟩
             have S1 : w.Since w.heap.size w1 := sd.trans (sinceMono s1 sd.size)
             have i0 := (M.keep S1).c0
             have i1 := (M.keep S1).c1
             have i2 := (M.keep S1).c2
             have i0' := (M'.keep S1).c0
             have i1' := (M'.keep S1).c1
             have i2' := (M'.keep S1).c2))
      all_goals go_wp2
      all_goals go_roundw
      case rel => exact ⟨k + 1, by omega, by go_num, S1⟩
      case measure => simp [intOf]; omega
    · go_wp2
      go_ret
      exact ⟨rfl, s⟩

end Go.Proofs.YtnogbaapcjjngaaGreatDoor

namespace Go.Proofs.YtnogbaapcjjngaaGreatDoor
open Go.RowKit

/-- A plain list of limbs of N. -/
def LimbsOf (N : Nat) (p : Nat × (Nat → Nat)) : Prop := (∀ j, j < p.1 → p.2 j < 4294967296) ∧ (0 < p.1 → p.2 (p.1 - 1) ≠ 0) ∧ lv p.2 p.1 = N

def canN : Nat → Nat → Nat
  | 0, _ => 0
  | f + 1, N => if N = 0 then 0 else canN f (N / 4294967296) + 1
/-- The limbs of N. -/
def canR (N : Nat) : Nat × (Nat → Nat) := (canN N N, fun j => N / 2 ^ (32 * j) % 4294967296)
theorem canN_ok : ∀ f N, N ≤ f → N < 2 ^ (32 * canN f N) ∧ (0 < canN f N → 2 ^ (32 * (canN f N - 1)) ≤ N)
  | 0, N, h => by
    obtain rfl : N = 0 := by omega
    exact ⟨by simp [canN], fun h => by simp [canN] at h⟩
  | f + 1, N, h => by
    unfold canN
    split
    · rename_i e; subst e; exact ⟨by simp, fun h => absurd h (by omega)⟩
    · rename_i e
      obtain ⟨h1, h2⟩ := canN_ok f (N / 4294967296) (by omega)
      generalize canN f (N / 4294967296) = c at *
      have p1 : ∀ c, 2 ^ (32 * (c + 1)) = 2 ^ (32 * c) * 4294967296 := fun c => by rw [Nat.mul_add, Nat.pow_add]
      refine ⟨by rw [p1]; exact (Nat.div_lt_iff_lt_mul (by omega)).1 h1, fun _ => ?_⟩
      rw [Nat.add_sub_cancel]
      rcases Nat.eq_zero_or_pos c with rfl | hc
      · simp; omega
      · obtain ⟨b, rfl⟩ : ∃ b, c = b + 1 := ⟨c - 1, by omega⟩
        have := h2 hc
        rw [Nat.add_sub_cancel] at this
        rw [p1]; exact (Nat.le_div_iff_mul_le (by omega)).1 this
theorem lv_can (N : Nat) : ∀ n, lv (fun j => N / 2 ^ (32 * j) % 4294967296) n = N % 2 ^ (32 * n)
  | 0 => by simp [lv, Nat.mod_one]
  | n + 1 => by
    have p1 : 2 ^ (32 * (n + 1)) = 2 ^ (32 * n) * 4294967296 := by rw [Nat.mul_add, Nat.pow_add]
    rw [lv, lv_can N n, p1, Nat.mod_mul, Nat.mul_comm (2 ^ (32 * n))]
theorem canR_ok (N : Nat) : LimbsOf N (canR N) := by
  obtain ⟨h1, h2⟩ := canN_ok N N (Nat.le_refl _)
  refine ⟨fun j _ => Nat.mod_lt _ (by omega), fun h => ?_, (lv_can N _).trans (Nat.mod_eq_of_lt h1)⟩
  have h3 := h2 h
  show N / 2 ^ (32 * (canN N N - 1)) % 4294967296 ≠ 0
  have h : 0 < canN N N := h
  generalize canN N N = c at *
  obtain ⟨b, rfl⟩ : ∃ b, c = b + 1 := ⟨c - 1, by omega⟩
  rw [Nat.add_sub_cancel] at *
  rw [show 2 ^ (32 * (b + 1)) = 2 ^ (32 * b) * 4294967296 by rw [Nat.mul_add, Nat.pow_add]] at h1
  have h4 : N / 2 ^ (32 * b) < 4294967296 := (Nat.div_lt_iff_lt_mul (Nat.pow_pos (by omega))).2 (by rw [Nat.mul_comm]; exact h1)
  have h5 := Nat.div_pos h3 (Nat.pow_pos (by omega))
  rw [Nat.mod_eq_of_lt h4]; omega

theorem canR_of {N : Nat} {p : Nat × (Nat → Nat)} (h : LimbsOf N p) : (canR N).1 = p.1 ∧ (∀ j, j < p.1 → (canR N).2 j = p.2 j) ∧ LimbsOf N (canR N) := by
  have hc := canR_ok N
  obtain ⟨e1, e2⟩ := lv_inj hc.1 h.1 hc.2.1 h.2.1 (hc.2.2.trans h.2.2.symm)
  exact ⟨e1, fun j hj => e2 j (by omega), hc⟩

theorem NatAt.can {w : World} {v : Value} {g N M : Nat} (h : NatAt w v g N M) : ∃ a cap, v = .slice a (canR N).1 cap ∧ (canR N).1 ≤ cap ∧ (canR N).1 ≤ M ∧ (a = none → cap = 0) ∧ Limbs w a g 0 (canR N).1 (canR N).2 ∧ (∀ j, j < (canR N).1 → (canR N).2 j < 4294967296) := by
  obtain ⟨a, m, cap, Y, rfl, h1, h2, h3, h4, h5, h6, h7, h8⟩ := h
  obtain ⟨e1, e2, hc⟩ := canR_of (N := N) (p := (m, Y)) ⟨h6, h7, h8⟩
  have e1 : (canR N).1 = m := e1
  have e2 : ∀ j, j < m → (canR N).2 j = Y j := e2
  refine ⟨a, cap, by rw [e1], by omega, by omega, h3, fun j hj => ?_, hc.1⟩
  rw [e2 j (by omega)]
  exact h4 j (by omega)

/-- A rational of plain limbs. -/
def ratC (neg : Bool) (N D : Nat) : RatD := ⟨neg, (canR N).1, (canR N).2, (canR D).1, (canR D).2⟩

end Go.Proofs.YtnogbaapcjjngaaGreatDoor

namespace Go.Proofs.YtnogbaapcjjngaaGreatDoor
open Go.RowKit

/-- What holds when i limbs have been multiplied. -/
def MulA (X V : Nat → Nat) (F E i c : Nat) : Prop := lv V i + c * 2 ^ (32 * i) = lv X i * F + E ∧ c < 4294967296 ∧ (∀ k, i ≤ k → V k = X k) ∧ ∀ k, k < i → V k < 4294967296

theorem mulA_step {X V : Nat → Nat} {F E i c s c' x : Nat} (h : MulA X V F E i c) (hx : V i = x) (hs : s < 4294967296) (hc : c' < 4294967296) (e : s + c' * 4294967296 = x * F + c) : MulA X (upd V i s) F E (i + 1) c' := by
  obtain ⟨h1, h2, h3, h4⟩ := h
  have hx0 : X i = x := by rw [← hx]; exact (h3 i (Nat.le_refl _)).symm
  refine ⟨?_, hc, fun k hk => by rw [upd_other _ _ _ _ (by omega)]; exact h3 k (by omega), fun k hk => ?_⟩
  · simp only [lv, upd_same, lv_upd V i s i (Nat.le_refl _), hx0]
    rw [pow32]
    generalize 2 ^ (32 * i) = P at *
    have e2 : s * P + c' * (4294967296 * P) = x * P * F + c * P := by
      rw [← Nat.mul_assoc, ← Nat.add_mul, e, Nat.add_mul, Nat.mul_assoc x F P, Nat.mul_comm F P, ← Nat.mul_assoc]
    rw [Nat.add_mul (lv X i)]
    omega
  · by_cases e2 : k = i
    · subst e2; rw [upd_same]; exact hs
    · rw [upd_other _ _ _ _ e2]; exact h4 k (by omega)

set_option maxHeartbeats 3200000 in
set_option maxRecDepth 100000 in
/-- (*nat).multiplyAdd in a row of its own. -/
theorem multiplyAdd_any (c o base n : Nat) (v0 : Value) (E : Nat) (X : Nat → Nat) (w : World) (hn : n ≤ 67108864) (hE : E < 4294967296) (hc0 : w.cell? ⟨c, o, none⟩ = some v0) (hf0 : w.frozen? ⟨c, o, none⟩ = false)
    (hown : w.ownsRow base 159 1 v0 n (ll X n)) (hne : v0.ownBlock ≠ some c) (hcl : c < w.heap.size) (hbase : base ≤ w.heap.size) (hXl : ∀ j, j < n → X j < 4294967296) :
    Calls Tryz.prog 161 #[.pointer (some ⟨c, o, none⟩), .int .u32 1000000000, .int .u32 E] w fun e w' => e = .returned (.tuple #[]) ∧ ∃ v k V, w'.cell? ⟨c, o, none⟩ = some v ∧ w'.ownsRow base 159 1 v k (ll V k) ∧ (v = .slice none 0 0 → v0 = .slice none 0 0) ∧ v.ownBlock ≠ some c ∧
      At1 c o v0.ownBlock w w' ∧ (∀ j, j < k → V j < 4294967296) ∧ lv V k = lv X n * 1000000000 + E ∧ k ≤ n + 1 ∧ (k = n ∨ V (k - 1) ≠ 0) := by
  obtain ⟨i0, hi, hz0, hz1, hz2⟩ := info_parts Tryz.info159
  have HXl := hide hXl
  clear hXl
  obtain ⟨a, cap, rfl, hkc, hac, hag⟩ := own_slice hown
  go_enter Tryz.func161, Tryz.ntmps161
  have HV0 : Hid (MulA X X 1000000000 E 0 E) := hide ⟨by simp [lv], hE, fun _ _ => rfl, fun j hj => absurd hj (by omega)⟩
  go_wp2
  go_loopw [6, 16] (fun q t wr => ∃ (i cb : Nat) (V : Nat → Nat), i ≤ n ∧ t = .int .i64 i ∧ q = .int .u64 cb ∧ cb < 4294967296 ∧ wr.cell? ⟨c, o, none⟩ = some (.slice a n cap) ∧ wr.ownsRow base 159 1 (.slice a n cap) n (ll V n) ∧ At1 c o (Value.slice a n cap).ownBlock w wr ∧ Hid (MulA X V 1000000000 E i cb)) (fun _ t _ => n - (intOf t).toNat)
  case atStart => exact ⟨0, E, X, Nat.zero_le _, rfl, rfl, hE, hc0, hown, At1.refl _ _ _ _, HV0⟩
  case round =>
    obtain ⟨i, cb, V, hik, rfl, rfl, hcb1, q2, ho2, hs2, HR⟩ := hrel
    clear hown hc0 HV0
    by_cases hlt : i < n
    · obtain ⟨g, rfl⟩ := hag i hlt
      obtain ⟨g', cap', e, -, hbg, hgl, LV, FV⟩ := own_limbs_some ho2 (by simp)
      cases e
      have g1 : wr.cell? ⟨g, i, none⟩ = some (.int .u32 (V i)) := by simpa using (LV i hlt).2
      have g2 : wr.frozen? ⟨g, i, none⟩ = false := FV i
      have hxl : V i < 4294967296 := by
        rw [HR.out.2.2.1 i (Nat.le_refl _)]
        exact HXl.out i hlt
      have STEP := hide (fun (s c' : Nat) => mulA_step (s := s) (c' := c') HR.out rfl)
      obtain ⟨x, ex⟩ : ∃ y, y = V i := ⟨_, rfl⟩
      rw [← ex] at g1 hxl STEP
      clear ex LV FV
      have hin : (i : Int) < (n : Int) := by omega
      have hcg : g ≠ c := fun e => hne (by rw [e]; rfl)
      have q3 : ∀ u, (wr.setCell ⟨g, i, none⟩ u).cell? ⟨c, o, none⟩ = some (.slice (some ⟨g, 0, none⟩) n cap) := fun u => by rw [((Marked.refl wr g).setCell i u).cell (a := ⟨c, o, none⟩) (Ne.symm hcg)]; exact q2
      go_wp2
      go_roundw
      case rel => go_light; exact ⟨i + 1, (x * 1000000000 + cb) / 4294967296, _, by omega, by go_num, congrArg (Value.int .u64) (by omega), by omega, q3 _, own_setI ho2 i ((x * 1000000000 + cb) % 4294967296) hlt _ (by omega), hs2.setRow g i _ (Or.inl rfl) hcg, STEP.out _ _ (by omega) (by omega) (by omega)⟩
      case measure => simp [intOf]; omega
    · have e : i = n := by omega
      subst e
      have HE := hide HR.out.1
      have HV1 := hide HR.out.2.2.2
      rcases Nat.eq_zero_or_pos cb with hc2 | hc2
      · subst hc2
        go_wp2
        go_end0
        exact ⟨rfl, _, i, V, q2, ho2, fun h => h, hne, hs2, HV1.out, by have := HE.out; omega, by omega, Or.inl rfl⟩
      · have hC : some c ≠ (Value.slice a i cap).ownBlock := fun e => hne e.symm
        have hsz2 := hs2.size
        have hcf : ((cb : Int) == 0) = false := by simp; omega
        go_wp2_with (at_builtin; refine wpList_append_own_at _ rfl _ _ 165 rfl base 159 i0 (.int .u32 0) 1 4 Tryz.underlying165 hi hz0 hz1 hz2 rfl (by decide) _ _ _ rfl (ho2.alloc _) ⟨wr.heap.size, 0, none⟩ 1 1 [.int .u32 cb] rfl rfl (new_cell _ _ _) (one_one _ rfl) (by unfold maxLen; omega) (by omega) (by simp; omega) ?_)
        intro v' w1 hown' hgrow hnn hat
        rw [show ll V i ++ [.int .u32 (cb : Int)] = ll (upd V i cb) (i + 1) from by rw [ll_succ, upd_same, ll_congr (fun j hj => upd_other _ _ _ _ (show j ≠ i by omega))]] at hown'
        have sW := (World.Since.refl wr.heap.size wr).alloc (Nat.le_refl _) (.cells #[.int .u32 (cb : Int)] 159)
        have hs1 : At1 c o (Value.slice a i cap).ownBlock w w1 := (hs2.alloc hcl _).grown hgrow hcl (Or.inl rfl) hC
        have q1 : w1.cell? ⟨c, o, none⟩ = some (.slice a i cap) := hgrow.cell ((sW.cell (a := ⟨c, o, none⟩) (show c < wr.heap.size by omega)).trans q2) hC
        have f1 : w1.frozen? ⟨c, o, none⟩ = false := by rw [hs1.frozen]; exact hf0
        have hCv : v'.ownBlock ≠ some c := fun e => by
          rcases hat with h | h
          · exact hne (h.symm.trans e)
          · rw [e] at h; simp at h; omega
        obtain ⟨a1, cap1, rfl, hkc1, hac1, hag1⟩ := own_slice hown'
        clear hgrow hnn hat sW ho2 hs2 q2 hC HR
        go_wp2
        go_end0
        refine ⟨rfl, _, i + 1, upd V i cb, World.cell?_setCell_same _ _ _ q1, ownsRow_setCell_other hown' hCv _, fun h => by simp at h, hCv, hs1.setC _, fun j hj => ?_, ?_, by omega, Or.inr (by rw [show i + 1 - 1 = i by omega, upd_same]; omega)⟩
        · by_cases e2 : j = i
          · subst e2; rw [upd_same]; omega
          · rw [upd_other _ _ _ _ e2]; exact HV1.out j (by omega)
        · have := HE.out
          simp only [lv, upd_same, lv_upd V i cb i (Nat.le_refl _)]
          exact this

end Go.Proofs.YtnogbaapcjjngaaGreatDoor

namespace Go.Proofs.YtnogbaapcjjngaaGreatDoor
open Go.RowKit

end Go.Proofs.YtnogbaapcjjngaaGreatDoor

namespace Go.Proofs.YtnogbaapcjjngaaGreatDoor
open Go.RowKit

end Go.Proofs.YtnogbaapcjjngaaGreatDoor

namespace Go.Proofs.YtnogbaapcjjngaaGreatDoor
open Go.RowKit

end Go.Proofs.YtnogbaapcjjngaaGreatDoor

namespace Go.Proofs.YtnogbaapcjjngaaGreatDoor
open Go.RowKit

/-- A struct of six cells in a block of its own. -/
structure Box6 (w : World) (c : Nat) (x y z u v t : Value) : Prop where
  c0 : w.cell? ⟨c, 0, none⟩ = some x
  c1 : w.cell? ⟨c, 1, none⟩ = some y
  c2 : w.cell? ⟨c, 2, none⟩ = some z
  c3 : w.cell? ⟨c, 3, none⟩ = some u
  c4 : w.cell? ⟨c, 4, none⟩ = some v
  c5 : w.cell? ⟨c, 5, none⟩ = some t
  f : ∀ k, w.frozen? ⟨c, k, none⟩ = false

section
variable {w w' : World} {c d B : Nat} {x y z u v t : Value}
theorem Box6.lt (h : Box6 w c x y z u v t) : c < w.heap.size := World.block_lt_of_cell? _ _ h.c0
theorem Box6.new (w : World) (x y z u v t : Value) (T : TypeId) : Box6 (w.alloc (.cells #[x, y, z, u, v, t] T)) w.heap.size x y z u v t := ⟨by simp [go_sem], by simp [go_sem], by simp [go_sem], by simp [go_sem], by simp [go_sem], by simp [go_sem], fun k => by simp [go_sem]⟩
theorem Box6.since (h : Box6 w c x y z u v t) (s : w.Since B w') (hc : c < B) : Box6 w' c x y z u v t :=
  ⟨(s.cell (a := ⟨c, 0, none⟩) hc).trans h.c0, (s.cell (a := ⟨c, 1, none⟩) hc).trans h.c1, (s.cell (a := ⟨c, 2, none⟩) hc).trans h.c2, (s.cell (a := ⟨c, 3, none⟩) hc).trans h.c3, (s.cell (a := ⟨c, 4, none⟩) hc).trans h.c4, (s.cell (a := ⟨c, 5, none⟩) hc).trans h.c5, fun k => (s.frozen (a := ⟨c, k, none⟩) hc).trans (h.f k)⟩
theorem Box6.keep (h : Box6 w c x y z u v t) (s : w.Since w.heap.size w') : Box6 w' c x y z u v t := h.since s h.lt
theorem Box6.set0 (h : Box6 w c x y z u v t) (q : Value) : Box6 (w.setCell ⟨c, 0, none⟩ q) c q y z u v t :=
  ⟨World.cell?_setCell_same _ _ _ h.c0, (World.cell?_setCell_other _ _ _ _ (by simp)).trans h.c1, (World.cell?_setCell_other _ _ _ _ (by simp)).trans h.c2, (World.cell?_setCell_other _ _ _ _ (by simp)).trans h.c3, (World.cell?_setCell_other _ _ _ _ (by simp)).trans h.c4, (World.cell?_setCell_other _ _ _ _ (by simp)).trans h.c5, fun k => by rw [((Marked.refl w c).setCell 0 q).frozen]; exact h.f k⟩
theorem Box6.set1 (h : Box6 w c x y z u v t) (q : Value) : Box6 (w.setCell ⟨c, 1, none⟩ q) c x q z u v t :=
  ⟨(World.cell?_setCell_other _ _ _ _ (by simp)).trans h.c0, World.cell?_setCell_same _ _ _ h.c1, (World.cell?_setCell_other _ _ _ _ (by simp)).trans h.c2, (World.cell?_setCell_other _ _ _ _ (by simp)).trans h.c3, (World.cell?_setCell_other _ _ _ _ (by simp)).trans h.c4, (World.cell?_setCell_other _ _ _ _ (by simp)).trans h.c5, fun k => by rw [((Marked.refl w c).setCell 1 q).frozen]; exact h.f k⟩
theorem Box6.set2 (h : Box6 w c x y z u v t) (q : Value) : Box6 (w.setCell ⟨c, 2, none⟩ q) c x y q u v t :=
  ⟨(World.cell?_setCell_other _ _ _ _ (by simp)).trans h.c0, (World.cell?_setCell_other _ _ _ _ (by simp)).trans h.c1, World.cell?_setCell_same _ _ _ h.c2, (World.cell?_setCell_other _ _ _ _ (by simp)).trans h.c3, (World.cell?_setCell_other _ _ _ _ (by simp)).trans h.c4, (World.cell?_setCell_other _ _ _ _ (by simp)).trans h.c5, fun k => by rw [((Marked.refl w c).setCell 2 q).frozen]; exact h.f k⟩
theorem Box6.set3 (h : Box6 w c x y z u v t) (q : Value) : Box6 (w.setCell ⟨c, 3, none⟩ q) c x y z q v t :=
  ⟨(World.cell?_setCell_other _ _ _ _ (by simp)).trans h.c0, (World.cell?_setCell_other _ _ _ _ (by simp)).trans h.c1, (World.cell?_setCell_other _ _ _ _ (by simp)).trans h.c2, World.cell?_setCell_same _ _ _ h.c3, (World.cell?_setCell_other _ _ _ _ (by simp)).trans h.c4, (World.cell?_setCell_other _ _ _ _ (by simp)).trans h.c5, fun k => by rw [((Marked.refl w c).setCell 3 q).frozen]; exact h.f k⟩
theorem Box6.set4 (h : Box6 w c x y z u v t) (q : Value) : Box6 (w.setCell ⟨c, 4, none⟩ q) c x y z u q t :=
  ⟨(World.cell?_setCell_other _ _ _ _ (by simp)).trans h.c0, (World.cell?_setCell_other _ _ _ _ (by simp)).trans h.c1, (World.cell?_setCell_other _ _ _ _ (by simp)).trans h.c2, (World.cell?_setCell_other _ _ _ _ (by simp)).trans h.c3, World.cell?_setCell_same _ _ _ h.c4, (World.cell?_setCell_other _ _ _ _ (by simp)).trans h.c5, fun k => by rw [((Marked.refl w c).setCell 4 q).frozen]; exact h.f k⟩
theorem Box6.set5 (h : Box6 w c x y z u v t) (q : Value) : Box6 (w.setCell ⟨c, 5, none⟩ q) c x y z u v q :=
  ⟨(World.cell?_setCell_other _ _ _ _ (by simp)).trans h.c0, (World.cell?_setCell_other _ _ _ _ (by simp)).trans h.c1, (World.cell?_setCell_other _ _ _ _ (by simp)).trans h.c2, (World.cell?_setCell_other _ _ _ _ (by simp)).trans h.c3, (World.cell?_setCell_other _ _ _ _ (by simp)).trans h.c4, World.cell?_setCell_same _ _ _ h.c5, fun k => by rw [((Marked.refl w c).setCell 5 q).frozen]; exact h.f k⟩
end

/-- A struct answer of six cells that lies in a box. -/
theorem results_box6T {fn : Func} {p : Tmp} {T : TypeId} {d : TypeDesc} (h : fn.results = #[.cell p T]) (hu : Tryz.prog.underlying T = some d) (hd : d.isRow = true) (hi : (Tryz.prog.info? T).map (·.size) = some 6) (tmps : Array Value) (w : World) (c : Nat) (x y z u v t : Value)
    (hp : tmps.getD p undef = .pointer (some ⟨c, 0, none⟩)) (B : Box6 w c x y z u v t) : (results fn tmps).run Tryz.prog w = .ok (.agg #[x, y, z, u, v, t]) w := by
  have hp' : tmps[p]?.getD undef = .pointer (some ⟨c, 0, none⟩) := by simpa using hp
  have hl := run_loadVar_mid (P := Tryz.prog) w c 0 T [x, y, z, u, v, t] d (fun j q hv => by
    rcases j with _ | _ | _ | _ | _ | _ | j
    · simp at hv; subst hv; exact B.c0
    · simp at hv; subst hv; exact B.c1
    · simp at hv; subst hv; exact B.c2
    · simp at hv; subst hv; exact B.c3
    · simp at hv; subst hv; exact B.c4
    · simp at hv; subst hv; exact B.c5
    · simp at hv) hu hd hi
  simp [results, h, hp', asAddr, hl]

/-- What a node holds. -/
structure NodeD where
  op : Int
  a : Int
  b : Int
  k : Int
  s : Int
  nv : Nat
  V : Nat → RatD

def NodeD.nul : NodeD := ⟨0, 0, 0, 0, 0, 0, fun _ => RatD.nul⟩

def NodeD.size (d : NodeD) : Nat := d.nv + szR d.V d.nv

def I64 (z : Int) : Prop := -9223372036854775808 ≤ z ∧ z ≤ 9223372036854775807

/-- A slice that holds a node's numbers, in blocks from lo on. -/
structure NodL (w : World) (lo : Nat) (d : NodeD) (a : Option Addr) (ca : Nat) : Prop where
  nc : d.nv ≤ ca
  LV : ∃ ba oa, (0 < d.nv → lo ≤ ba) ∧ Rats w lo a ba oa d.nv d.V
  iop : I64 d.op
  ia : I64 d.a
  ib : I64 d.b
  ik : I64 d.k
  is : I64 d.s
  n63 : d.nv ≤ 9223372036854775807

section
variable {w w' : World} {lo lo' b off n c : Nat} {d : NodeD} {a a1 : Option Addr} {k1 : Nat} {A : Nat → NodeD}

theorem NodL.keep (h : NodL w lo d a1 k1) (s : w.Since w.heap.size w') : NodL w' lo d a1 k1 := by
  obtain ⟨ba, oa, l1, LV⟩ := h.LV
  exact ⟨h.nc, ⟨ba, oa, l1, LV.keep s⟩, h.iop, h.ia, h.ib, h.ik, h.is, h.n63⟩
/-- A node that lies in memory. -/
structure NodM (w : World) (lo b off : Nat) (d : NodeD) (a1 : Option Addr) (k1 : Nat) : Prop where
  c0 : w.cell? ⟨b, off, none⟩ = some (.int .i64 d.op)
  c1 : w.cell? ⟨b, off + 1, none⟩ = some (.int .i64 d.a)
  c2 : w.cell? ⟨b, off + 2, none⟩ = some (.int .i64 d.b)
  c3 : w.cell? ⟨b, off + 3, none⟩ = some (.int .i64 d.k)
  c4 : w.cell? ⟨b, off + 4, none⟩ = some (.int .i64 d.s)
  c5 : w.cell? ⟨b, off + 5, none⟩ = some (.slice a1 d.nv k1)
  L : NodL w lo d a1 k1

theorem NodM.lt (h : NodM w lo b off d a1 k1) : b < w.heap.size := World.block_lt_of_cell? _ _ h.c0
theorem NodM.keep (h : NodM w lo b off d a1 k1) (s : w.Since w.heap.size w') : NodM w' lo b off d a1 k1 :=
  ⟨(s.cell (a := ⟨b, off, none⟩) h.lt).trans h.c0, (s.cell (a := ⟨b, off + 1, none⟩) h.lt).trans h.c1, (s.cell (a := ⟨b, off + 2, none⟩) h.lt).trans h.c2, (s.cell (a := ⟨b, off + 3, none⟩) h.lt).trans h.c3, (s.cell (a := ⟨b, off + 4, none⟩) h.lt).trans h.c4, (s.cell (a := ⟨b, off + 5, none⟩) h.lt).trans h.c5, h.L.keep s⟩
/-- A slice of nodes. -/
def Nods (w : World) (lo : Nat) (a : Option Addr) (b off n : Nat) (A : Nat → NodeD) : Prop :=
  ∀ i, i < n → a = some ⟨b, off, none⟩ ∧ ∃ a1 k1, NodM w lo b (off + i * 6) (A i) a1 k1

theorem Nods.keep (h : Nods w lo a b off n A) (s : w.Since w.heap.size w') : Nods w' lo a b off n A := fun i hi => by
  obtain ⟨h1, a1, k1, h2⟩ := h i hi
  exact ⟨h1, a1, k1, h2.keep s⟩
end

/-- How much a list of nodes counts. -/
def szN (A : Nat → NodeD) : Nat → Nat
  | 0 => 0
  | n + 1 => szN A n + (A n).size

theorem szN_succ (A : Nat → NodeD) (n : Nat) : szN A (n + 1) = szN A n + (A n).size := rfl

theorem szN_mono {A : Nat → NodeD} {k n : Nat} (h : k ≤ n) : szN A k ≤ szN A n := by
  induction n with
  | zero => simp at h; subst h; exact Nat.le_refl _
  | succ n ih =>
    rcases Nat.lt_or_ge n k with h1 | h1
    · have : k = n + 1 := by omega
      subst this; exact Nat.le_refl _
    · have := ih h1
      rw [szN_succ]
      omega

theorem szN_at {A : Nat → NodeD} {k n : Nat} (h : k < n) : (A k).size ≤ szN A n := by
  have := szN_mono (A := A) (show k + 1 ≤ n from h)
  rw [szN_succ] at this
  omega

/-- What a graph holds. -/
structure GraphD where
  inn : Int
  rounds : Int
  nl : Nat
  Lo : Nat → RatD
  nh : Nat
  Hi : Nat → RatD
  nn : Nat
  N : Nat → NodeD
  out : Int

def GraphD.size (g : GraphD) : Nat := (g.nl + szR g.Lo g.nl) + (g.nh + szR g.Hi g.nh) + (g.nn + szN g.N g.nn)

/-- Three slices that hold a graph's lists, in blocks from lo on. -/
structure GraL (w : World) (lo : Nat) (g : GraphD) (aL aH aN : Option Addr) (kL kH kN : Nat) : Prop where
  lc : g.nl ≤ kL
  hc : g.nh ≤ kH
  nc : g.nn ≤ kN
  LL : ∃ b o, (0 < g.nl → lo ≤ b) ∧ Rats w lo aL b o g.nl g.Lo
  LH : ∃ b o, (0 < g.nh → lo ≤ b) ∧ Rats w lo aH b o g.nh g.Hi
  LN : ∃ b o, (0 < g.nn → lo ≤ b) ∧ Nods w lo aN b o g.nn g.N
  ii : I64 g.inn
  ir : I64 g.rounds
  io : I64 g.out
  l63 : g.nl ≤ 9223372036854775807
  h63 : g.nh ≤ 9223372036854775807
  n63 : g.nn ≤ 9223372036854775807

section
variable {w w' : World} {lo lo' c : Nat} {g : GraphD} {aL aH aN : Option Addr} {kL kH kN : Nat}
theorem GraL.keep (h : GraL w lo g aL aH aN kL kH kN) (s : w.Since w.heap.size w') : GraL w' lo g aL aH aN kL kH kN := by
  obtain ⟨b1, o1, l1, L1⟩ := h.LL
  obtain ⟨b2, o2, l2, L2⟩ := h.LH
  obtain ⟨b3, o3, l3, L3⟩ := h.LN
  exact ⟨h.lc, h.hc, h.nc, ⟨b1, o1, l1, L1.keep s⟩, ⟨b2, o2, l2, L2.keep s⟩, ⟨b3, o3, l3, L3.keep s⟩, h.ii, h.ir, h.io, h.l63, h.h63, h.n63⟩
end

end Go.Proofs.YtnogbaapcjjngaaGreatDoor

namespace Go.Proofs.YtnogbaapcjjngaaGreatDoor
open Go.RowKit

set_option maxHeartbeats 1600000 in
set_option maxRecDepth 100000 in
theorem eqNode_true (d : NodeD) (a1 a1' : Option Addr) (lo k1 lo' k1' : Nat) (w : World) (hd : d.size ≤ 16777216) (H : NodL w lo d a1 k1) (H' : NodL w lo' d a1' k1') :
    Calls Tryz.prog 75 #[.agg #[.int .i64 d.op, .int .i64 d.a, .int .i64 d.b, .int .i64 d.k, .int .i64 d.s, .slice a1 d.nv k1], .agg #[.int .i64 d.op, .int .i64 d.a, .int .i64 d.b, .int .i64 d.k, .int .i64 d.s, .slice a1' d.nv k1']] w fun e w' => e = .returned (.bool true) ∧ w.Since w.heap.size w' := by
  have ts := hd
  unfold NodeD.size at ts
  obtain ⟨wA, eA⟩ : ∃ wA : World, wA = (w.alloc (.cells #[.int .i64 d.op, .int .i64 d.a, .int .i64 d.b, .int .i64 d.k, .int .i64 d.s, .slice a1 d.nv k1] 64)).alloc (.cells #[.int .i64 d.op, .int .i64 d.a, .int .i64 d.b, .int .i64 d.k, .int .i64 d.s, .slice a1' d.nv k1'] 64) := ⟨_, rfl⟩
  have sA : w.Since w.heap.size wA := by rw [eA]; exact ((World.Since.refl _ _).alloc (Nat.le_refl _) _).alloc (by simp) _
  obtain ⟨b1, o1, -, W1⟩ := (H.keep sA).LV
  obtain ⟨b2, o2, -, W2⟩ := (H'.keep sA).LV
  have J1 := eqRatS_true a1 a1' lo b1 o1 k1 lo' b2 o2 k1' d.nv d.V wA (by omega) (by omega) W1 W2
  have EA := hide eA
  clear eA
  go_enter Tryz.func75, Tryz.ntmps75
  go_wp2_with fail
  rw [← EA.out]
  refine J1.mono ?_
  rintro e w1 ⟨rfl, s1⟩
  clear J1 EA
  go_wp2
  go_ret
  exact ⟨rfl, sA.trans (sinceMono s1 sA.size)⟩

set_option maxHeartbeats 3200000 in
set_option maxRecDepth 100000 in
theorem eqNodeS_true (a a' : Option Addr) (lo b off cap lo' b' off' cap' n : Nat) (A : Nat → NodeD) (w : World) (hn : n ≤ 16777216) (hs : szN A n ≤ 16777216) (H : Nods w lo a b off n A) (H' : Nods w lo' a' b' off' n A) :
    Calls Tryz.prog 37 #[.slice a n cap, .slice a' n cap'] w fun e w' => e = .returned (.bool true) ∧ w.Since w.heap.size w' := by
  go_enter Tryz.func37, Tryz.ntmps37
  go_wp2
  go_loopw [5] (fun i wr => ∃ k : Nat, k ≤ n ∧ i = .int .i64 k ∧ w.Since w.heap.size wr) (fun i _ => n - (intOf i).toNat)
  case atStart => exact ⟨0, Nat.zero_le _, rfl, World.Since.refl _ _⟩
  case round =>
    obtain ⟨k, hk, rfl, s⟩ := hrel
    by_cases hlt : k < n
    · obtain ⟨rfl, a1, k1, M⟩ := H k hlt
      obtain ⟨rfl, a1', k1', M'⟩ := H' k hlt
      have sd : w.Since w.heap.size wr.drew := ⟨s.os, s.tape, s.output, s.size, s.block⟩
      have N := M.keep s
      have N' := M'.keep s
      have g0 := N.c0
      have g0' := N'.c0
      have g1 := N.c1
      have g1' := N'.c1
      have g2 := N.c2
      have g2' := N'.c2
      have g3 := N.c3
      have g3' := N'.c3
      have g4 := N.c4
      have g4' := N'.c4
      have g5 := N.c5
      have g5' := N'.c5
      have hsz := szN_at (A := A) hlt
      have hz : (k : Int) < (n : Int) := by omega
      have J1 := eqNode_true (A k) a1 a1' lo k1 lo' k1' wr.drew (by omega) (M.L.keep sd) (M'.L.keep sd)
      clear N N'
      go_wp2_with fail
      go_region_held3 (fun w' => w'.cell? ⟨b, off + k * 6, none⟩ = some (.int .i64 (A k).op) ∧ w'.cell? ⟨b, off + k * 6 + 1, none⟩ = some (.int .i64 (A k).a) ∧ w'.cell? ⟨b, off + k * 6 + 2, none⟩ = some (.int .i64 (A k).b) ∧ w'.cell? ⟨b, off + k * 6 + 3, none⟩ = some (.int .i64 (A k).k) ∧ w'.cell? ⟨b, off + k * 6 + 4, none⟩ = some (.int .i64 (A k).s) ∧ w'.cell? ⟨b, off + k * 6 + 5, none⟩ = some (.slice a1 (A k).nv k1) ∧
          w'.cell? ⟨b', off' + k * 6, none⟩ = some (.int .i64 (A k).op) ∧ w'.cell? ⟨b', off' + k * 6 + 1, none⟩ = some (.int .i64 (A k).a) ∧ w'.cell? ⟨b', off' + k * 6 + 2, none⟩ = some (.int .i64 (A k).b) ∧ w'.cell? ⟨b', off' + k * 6 + 3, none⟩ = some (.int .i64 (A k).k) ∧ w'.cell? ⟨b', off' + k * 6 + 4, none⟩ = some (.int .i64 (A k).s) ∧ w'.cell? ⟨b', off' + k * 6 + 5, none⟩ = some (.slice a1' (A k).nv k1')) (go_keep)
        (first
          | (go_at_call 75
             with_reducible refine J1.mono ?_
             rintro e w1 ⟨rfl, s1⟩
             have S1 : w.Since w.heap.size w1 := sd.trans (sinceMono s1 sd.size)
             have i0 := (M.keep S1).c0
             have i0' := (M'.keep S1).c0
             have i1 := (M.keep S1).c1
             have i1' := (M'.keep S1).c1
             have i2 := (M.keep S1).c2
             have i2' := (M'.keep S1).c2
             have i3 := (M.keep S1).c3
             have i3' := (M'.keep S1).c3
             have i4 := (M.keep S1).c4
             have i4' := (M'.keep S1).c4
             have i5 := (M.keep S1).c5
             have i5' := (M'.keep S1).c5))
      all_goals go_wp2
      all_goals go_roundw
      case rel => exact ⟨k + 1, by omega, by go_num, S1⟩
      case measure => simp [intOf]; omega
    · go_wp2
      go_ret
      exact ⟨rfl, s⟩

set_option maxHeartbeats 1600000 in
set_option maxRecDepth 100000 in
theorem eqGraph_true (g : GraphD) (aL aH aN aL' aH' aN' : Option Addr) (lo kL kH kN lo' kL' kH' kN' : Nat) (w : World) (hd : g.size ≤ 16777216) (H : GraL w lo g aL aH aN kL kH kN) (H' : GraL w lo' g aL' aH' aN' kL' kH' kN') :
    Calls Tryz.prog 13 #[.agg #[.int .i64 g.inn, .int .i64 g.rounds, .slice aL g.nl kL, .slice aH g.nh kH, .slice aN g.nn kN, .int .i64 g.out], .agg #[.int .i64 g.inn, .int .i64 g.rounds, .slice aL' g.nl kL', .slice aH' g.nh kH', .slice aN' g.nn kN', .int .i64 g.out]] w fun e w' => e = .returned (.bool true) ∧ w.Since w.heap.size w' := by
  have ts := hd
  unfold GraphD.size at ts
  obtain ⟨wA, eA⟩ : ∃ wA : World, wA = (w.alloc (.cells #[.int .i64 g.inn, .int .i64 g.rounds, .slice aL g.nl kL, .slice aH g.nh kH, .slice aN g.nn kN, .int .i64 g.out] 33)).alloc (.cells #[.int .i64 g.inn, .int .i64 g.rounds, .slice aL' g.nl kL', .slice aH' g.nh kH', .slice aN' g.nn kN', .int .i64 g.out] 33) := ⟨_, rfl⟩
  have sA : w.Since w.heap.size wA := by rw [eA]; exact ((World.Since.refl _ _).alloc (Nat.le_refl _) _).alloc (by simp) _
  have bA : Box6 wA w.heap.size (.int .i64 g.inn) (.int .i64 g.rounds) (.slice aL g.nl kL) (.slice aH g.nh kH) (.slice aN g.nn kN) (.int .i64 g.out) := by rw [eA]; exact (Box6.new w _ _ _ _ _ _ _).keep ((World.Since.refl _ _).alloc (Nat.le_refl _) _)
  have cA : Box6 wA (w.heap.size + 1) (.int .i64 g.inn) (.int .i64 g.rounds) (.slice aL' g.nl kL') (.slice aH' g.nh kH') (.slice aN' g.nn kN') (.int .i64 g.out) := by
    rw [eA]
    have := Box6.new (w.alloc (.cells #[.int .i64 g.inn, .int .i64 g.rounds, .slice aL g.nl kL, .slice aH g.nh kH, .slice aN g.nn kN, .int .i64 g.out] 33)) (.int .i64 g.inn) (.int .i64 g.rounds) (.slice aL' g.nl kL') (.slice aH' g.nh kH') (.slice aN' g.nn kN') (.int .i64 g.out) 33
    simpa using this
  obtain ⟨b1, o1, -, W1⟩ := (H.keep sA).LL
  obtain ⟨b2, o2, -, W2⟩ := (H'.keep sA).LL
  obtain ⟨b3, o3, -, B1⟩ := (H.keep sA).LH
  obtain ⟨b4, o4, -, B2⟩ := (H'.keep sA).LH
  obtain ⟨b5, o5, -, N1⟩ := (H.keep sA).LN
  obtain ⟨b6, o6, -, N2⟩ := (H'.keep sA).LN
  have J1 := eqRatS_true aL aL' lo b1 o1 kL lo' b2 o2 kL' g.nl g.Lo wA (by omega) (by omega) W1 W2
  have EA := hide eA
  clear eA
  go_enter Tryz.func13, Tryz.ntmps13
  go_wp2_with fail
  rw [← EA.out]
  refine J1.mono ?_
  rintro e w1 ⟨rfl, s1⟩
  have J2 := eqRatS_true aH aH' lo b3 o3 kH lo' b4 o4 kH' g.nh g.Hi w1 (by omega) (by omega) (B1.keep s1) (B2.keep s1)
  have X1 := bA.keep s1
  have X2 := cA.keep s1
  have q1 := X1.c3
  have q2 := X2.c3
  clear J1 EA bA cA
  go_wp2_with fail
  refine J2.mono ?_
  rintro e w2 ⟨rfl, s2⟩
  have u2 := s1.trans (sinceMono s2 s1.size)
  have J3 := eqNodeS_true aN aN' lo b5 o5 kN lo' b6 o6 kN' g.nn g.N w2 (by omega) (by omega) (N1.keep u2) (N2.keep u2)
  have Y1 := X1.keep s2
  have Y2 := X2.keep s2
  have r1 := Y1.c4
  have r2 := Y2.c4
  clear J2 q1 q2 X1 X2
  go_wp2_with fail
  refine J3.mono ?_
  rintro e w3 ⟨rfl, s3⟩
  have p1 := (Y1.keep s3).c5
  have p2 := (Y2.keep s3).c5
  clear J3 r1 r2 Y1 Y2
  go_wp2
  go_ret
  exact ⟨rfl, sA.trans (sinceMono (u2.trans (sinceMono s3 u2.size)) sA.size)⟩

end Go.Proofs.YtnogbaapcjjngaaGreatDoor
