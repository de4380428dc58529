import Derived.Test.YthaomfabdghfjaaGreatOwnP11
import Derived.Deep.RegionWith
import Derived.Test.YthaomfabdghfjaaGreatOwnP2
import Derived.Deep.RegionHeld3
import Derived.Test.YthaomfabdghfjaaGreatOwnP3
set_option maxHeartbeats 6400000
set_option maxRecDepth 100000
namespace Go.Proofs.YthaomfabdghfjaaGreat
open Go.RowKit
theorem wpAny_inv {P : Program} {md : Region.Mode} {ops : Array Oper} {Q : Exit -> Act -> World -> Prop} (I : Nat -> Array Bool -> Act -> World -> Prop)
 (hs : ∀ fuel l a w, I (fuel + 1) l a w -> ∀ i ∈ Region.ready md ops l, ∃ o, ops[i]? = some o /\ ∀ K' : Act -> World -> Prop, (∀ a w, I fuel (l.setIfInBounds i true) a w -> K' a w) -> if Region.wanted o (yielded ops a.tmps) = true then Oper.wp P o a w K' Q else K' (a.put o.dst undef) w)
 (h0 : ∀ l a w, I 0 l a w -> Region.ready md ops l = [])
 (he : ∀ fuel l a w, I fuel l a w -> Region.ready md ops l = [] -> Q .normal a w) :
 ∀ fuel l a w, I fuel l a w -> wpAny P md ops Q fuel l a w
 | 0, l, a, w, h => ⟨h0 l a w h, he 0 l a w h (h0 l a w h)⟩
 | fuel + 1, l, a, w, h => ⟨he _ l a w h, fun i hi => by
    obtain ⟨o, ho, hk⟩ := hs fuel l a w h i hi; exact wpOp_step ho fun K' hK => hk K' fun a w hI => hK a w (wpAny_inv I hs h0 he fuel _ a w hI)⟩
theorem since_mono {B B' : Nat} {w w' : World} (s : w.Since B w') (h : B' <= B) : w.Since B' w' := ⟨s.os, s.tape, s.output, s.size, fun k hk => s.block k (by omega)⟩
def bk : Value -> Option Nat
 | .pointer (some a) => some a.block
 | .slice (some a) _ _ => some a.block
 | _ => none
def Bd (lo : Nat) (w : World) (v : Value) : Prop := ∀ g, bk v = some g -> lo <= g /\ g < w.heap.size
def Ap (u v : Value) : Prop := ∀ g, bk u = some g -> bk v = some g -> False
theorem Bd.undef (lo : Nat) (w : World) : Bd lo w undef := fun g h => by cases h
theorem Bd.grow {lo : Nat} {w w' : World} {v : Value} (h : Bd lo w v) (hs : w.heap.size <= w'.heap.size) : Bd lo w' v := fun g e => ⟨(h g e).1, Nat.lt_of_lt_of_le (h g e).2 hs⟩
theorem Ap.symm {u v : Value} (h : Ap u v) : Ap v u := fun g a b => h g b a
theorem Ap.undef (v : Value) : Ap undef v := fun g h => by cases h
theorem Ap.fresh {lo : Nat} {w w' : World} {u v : Value} (h : Bd lo w u) (hv : Bd w.heap.size w' v) : Ap u v := fun g a b => by have := (h g a).2; have := (hv g b).1; omega
def Ow (w : World) (v : Value) (m : Nat) (X : Nat -> Nat) : Prop :=
 (v = .slice none 0 0 /\ m = 0) ∨ ∃ g cp, v = .slice (some ⟨g, 0, none⟩) m cp /\ g < w.heap.size /\ m <= cp /\ xq2 w (some ⟨g, 0, none⟩) g 0 m X /\ (∀ x, w.frozen? ⟨g, x, none⟩ = false) /\ yj6 w g 119 cp /\ cp <= maxLen
theorem Ow.since {w w' : World} {v : Value} {m : Nat} {X : Nat -> Nat} (h : Ow w v m X) (s : w.Since w.heap.size w') : Ow w' v m X := by
 rcases h with h | ⟨g, cp, e, hg, hc, L, F, H1, H2⟩
 . exact Or.inl h
 . exact Or.inr ⟨g, cp, e, Nat.lt_of_lt_of_le hg s.size, hc, L.keep s, fun x => by rw [s.frozen (a := ⟨g, x, none⟩) hg]; exact F x, H1.since s hg, H2⟩
theorem Ow.set {w : World} {v : Value} {m : Nat} {X : Nat -> Nat} (h : Ow w v m X) {c : Nat} {t : Value} (ht : t = .pointer (some ⟨c, 0, none⟩)) (ha : Ap t v) (u : Value) : Ow (w.setCell ⟨c, 0, none⟩ u) v m X := by
 subst ht
 rcases h with h | ⟨g, cp, rfl, hg, hc, L, F, H1, H2⟩
 . exact Or.inl h
 . have : c ≠ g := fun e => ha g (by rw [e]; rfl) rfl
   exact Or.inr ⟨g, cp, rfl, by simpa using hg, hc, L.setOther this _, fun x => by simp [F x], H1.setCell _ _ _, H2⟩
theorem own_ow {w : World} {base : Nat} {v : Value} {m : Nat} {X : Nat -> Nat} (h : w.ownsRow base 119 1 v m (ll X m)) : Ow w v m X /\ Bd base w v := by
 have hc := @World.ownsRow.cells _ _ _ _ _ _ _ h
 rcases h.2 with ⟨rfl, rfl⟩ | ⟨g, cap, cur, rfl, hb, hg, hm, hml, hsz, _⟩
 . exact ⟨Or.inl ⟨rfl, rfl⟩, fun g e => by cases e⟩
 . have hlt := (Array.getElem?_eq_some_iff.1 hg).1
   refine ⟨Or.inr ⟨g, cap, rfl, hlt, hm, fun j hj => ⟨rfl, ?_⟩, fun o => by simp [World.frozen?, hg], ⟨cur, hg, by simpa using hsz⟩, hml⟩, fun g' e => ?_⟩
   . have := hc (g := g) rfl j _ (ll_get X m j hj)
     rw [Addr.add_lit] at this; exact this
   . cases e; exact ⟨hb, hlt⟩
def Bx (w : World) (t : Value) (u : Value) : Prop := ∃ c, t = .pointer (some ⟨c, 0, none⟩) /\ w.cell? ⟨c, 0, none⟩ = some u /\ w.frozen? ⟨c, 0, none⟩ = false /\ c < w.heap.size
theorem Bx.since {w w' : World} {t u : Value} (h : Bx w t u) (s : w.Since w.heap.size w') : Bx w' t u := by
 obtain ⟨c, e, h1, h2, h3⟩ := h; exact ⟨c, e, by rw [s.cell (a := ⟨c, 0, none⟩) h3]; exact h1, by rw [s.frozen (a := ⟨c, 0, none⟩) h3]; exact h2, Nat.lt_of_lt_of_le h3 s.size⟩
theorem Bx.other {w : World} {t u t' : Value} (h : Bx w t u) {c : Nat} (e : t' = .pointer (some ⟨c, 0, none⟩)) (ha : Ap t' t) (x : Value) : Bx (w.setCell ⟨c, 0, none⟩ x) t u := by
 obtain ⟨d, rfl, h1, h2, h3⟩ := h; subst e; have : c ≠ d := fun e => ha d (by rw [e]; rfl) rfl
 exact ⟨d, rfl, by rw [cellO (by exact this)]; exact h1, by simp [h2], by simpa using h3⟩
theorem Bx.fill {w : World} {t u : Value} {c : Nat} (h : Bx w t u) (e : t = .pointer (some ⟨c, 0, none⟩)) (x : Value) : Bx (w.setCell ⟨c, 0, none⟩ x) t x := by
 obtain ⟨d, rfl, h1, h2, h3⟩ := h; cases e; exact ⟨_, rfl, World.cell?_setCell_same _ _ _ h1, by simp [h2], by simpa using h3⟩
theorem Bx.new (w : World) (u : Value) (ty : TypeId) : Bx (w.alloc (.cells #[u] ty)) (.pointer (some ⟨w.heap.size, 0, none⟩)) u := ⟨_, rfl, by simp [go_sem], by simp [go_sem], by simp⟩
structure J (wA : World) (sa sb : Value) (n m : Nat) (X Y : Nat -> Nat) (l0 l1 l2 l3 l4 l5 l6 l7 : Bool) (t5 t6 t20 t21 t22 t23 : Value) (w : World) : Prop where
 S : wA.Since wA.heap.size w
 B5 : Bd wA.heap.size w t5
 B6 : Bd wA.heap.size w t6
 B21 : Bd wA.heap.size w t21
 B23 : Bd wA.heap.size w t23
 A56 : Ap t5 t6
 A51 : Ap t5 t21
 A53 : Ap t5 t23
 A61 : Ap t6 t21
 A63 : Ap t6 t23
 A13 : Ap t21 t23
 h0 : l0 = true -> t20 = sa
 h2 : l2 = true -> t22 = sb
 h1 : l1 = true -> Ow w t21 n X
 h3 : l3 = true -> Ow w t23 m Y
 h4 : l4 = true -> Bx w t5 (if l6 = true then t21 else .slice none 0 0)
 h5 : l5 = true -> Bx w t6 (if l7 = true then t23 else .slice none 0 0)
section
variable {wA : World} {sa sb : Value} {n m : Nat} {X Y : Nat -> Nat} {l0 l1 l2 l3 l4 l5 l6 l7 : Bool} {t5 t6 t20 t21 t22 t23 : Value} {w w' : World}
theorem J.grow (h : J wA sa sb n m X Y l0 l1 l2 l3 l4 l5 l6 l7 t5 t6 t20 t21 t22 t23 w) (s : w.Since w.heap.size w') : J wA sa sb n m X Y l0 l1 l2 l3 l4 l5 l6 l7 t5 t6 t20 t21 t22 t23 w' :=
 ⟨h.S.trans (since_mono s h.S.size), h.B5.grow s.size, h.B6.grow s.size, h.B21.grow s.size, h.B23.grow s.size, h.A56, h.A51, h.A53, h.A61, h.A63, h.A13, h.h0, h.h2, fun e => (h.h1 e).since s, fun e => (h.h3 e).since s, fun e => (h.h4 e).since s, fun e => (h.h5 e).since s⟩
theorem J.start (wA : World) (sa sb : Value) (n m : Nat) (X Y : Nat -> Nat) (u20 u22 : Value) : J wA sa sb n m X Y false false false false false false false false undef undef u20 undef u22 undef wA :=
 ⟨.refl _ _, .undef _ _, .undef _ _, .undef _ _, .undef _ _, .undef _, .undef _, .undef _, .undef _, .undef _, .undef _, fun h => (by cases h), fun h => (by cases h), fun h => (by cases h), fun h => (by cases h), fun h => (by cases h), fun h => (by cases h)⟩
theorem J.op0 (h : J wA sa sb n m X Y l0 l1 l2 l3 l4 l5 l6 l7 t5 t6 t20 t21 t22 t23 w) : J wA sa sb n m X Y true l1 l2 l3 l4 l5 l6 l7 t5 t6 sa t21 t22 t23 w := { h with h0 := fun _ => rfl }
theorem J.op2 (h : J wA sa sb n m X Y l0 l1 l2 l3 l4 l5 l6 l7 t5 t6 t20 t21 t22 t23 w) : J wA sa sb n m X Y l0 l1 true l3 l4 l5 l6 l7 t5 t6 t20 t21 sb t23 w := { h with h2 := fun _ => rfl }
theorem J.op1 (h : J wA sa sb n m X Y l0 l1 l2 l3 l4 l5 false l7 t5 t6 t20 t21 t22 t23 w) (s : w.Since w.heap.size w') {v : Value} (o : Ow w' v n X) (b : Bd w.heap.size w' v) : J wA sa sb n m X Y l0 true l2 l3 l4 l5 false l7 t5 t6 t20 v t22 t23 w' :=
 have g := h.grow s; have b' : Bd wA.heap.size w' v := fun x e => ⟨Nat.le_trans h.S.size (b x e).1, (b x e).2⟩
 { g with B21 := b', A51 := .fresh h.B5 b, A61 := .fresh h.B6 b, A13 := (Ap.fresh h.B23 b).symm, h1 := fun _ => o }
theorem J.op3 (h : J wA sa sb n m X Y l0 l1 l2 l3 l4 l5 l6 false t5 t6 t20 t21 t22 t23 w) (s : w.Since w.heap.size w') {v : Value} (o : Ow w' v m Y) (b : Bd w.heap.size w' v) : J wA sa sb n m X Y l0 l1 l2 true l4 l5 l6 false t5 t6 t20 t21 t22 v w' :=
 have g := h.grow s; have b' : Bd wA.heap.size w' v := fun x e => ⟨Nat.le_trans h.S.size (b x e).1, (b x e).2⟩
 { g with B23 := b', A53 := .fresh h.B5 b, A63 := .fresh h.B6 b, A13 := .fresh h.B21 b, h3 := fun _ => o }
theorem bd_new (w : World) (u : Value) (ty : TypeId) : Bd w.heap.size (w.alloc (.cells #[u] ty)) (.pointer (some ⟨w.heap.size, 0, none⟩)) := fun g e => by cases e; simp
theorem J.op4 (h : J wA sa sb n m X Y l0 l1 l2 l3 l4 l5 false l7 t5 t6 t20 t21 t22 t23 w) (ty : TypeId) : J wA sa sb n m X Y l0 l1 l2 l3 true l5 false l7 (.pointer (some ⟨w.heap.size, 0, none⟩)) t6 t20 t21 t22 t23 (w.alloc (.cells #[.slice none 0 0] ty)) :=
 have g := h.grow ((World.Since.refl _ _).alloc (Nat.le_refl _) (.cells #[.slice none 0 0] ty)); have b := bd_new w (.slice none 0 0) ty
 { g with B5 := fun x e => ⟨Nat.le_trans h.S.size (b x e).1, (b x e).2⟩, A56 := (Ap.fresh h.B6 b).symm, A51 := (Ap.fresh h.B21 b).symm, A53 := (Ap.fresh h.B23 b).symm, h4 := fun _ => Bx.new _ _ _ }
theorem J.op5 (h : J wA sa sb n m X Y l0 l1 l2 l3 l4 l5 l6 false t5 t6 t20 t21 t22 t23 w) (ty : TypeId) : J wA sa sb n m X Y l0 l1 l2 l3 l4 true l6 false t5 (.pointer (some ⟨w.heap.size, 0, none⟩)) t20 t21 t22 t23 (w.alloc (.cells #[.slice none 0 0] ty)) :=
 have g := h.grow ((World.Since.refl _ _).alloc (Nat.le_refl _) (.cells #[.slice none 0 0] ty)); have b := bd_new w (.slice none 0 0) ty
 { g with B6 := fun x e => ⟨Nat.le_trans h.S.size (b x e).1, (b x e).2⟩, A56 := Ap.fresh h.B5 b, A61 := (Ap.fresh h.B21 b).symm, A63 := (Ap.fresh h.B23 b).symm, h5 := fun _ => Bx.new _ _ _ }
theorem bd_set {lo c : Nat} {u x : Value} (h : Bd lo w u) : Bd lo (w.setCell ⟨c, 0, none⟩ x) u := h.grow (by simp)
theorem J.op6 (h : J wA sa sb n m X Y l0 l1 l2 l3 true l5 l6 l7 t5 t6 t20 t21 t22 t23 w) {c : Nat} (e : t5 = .pointer (some ⟨c, 0, none⟩)) : J wA sa sb n m X Y l0 l1 l2 l3 true l5 true l7 t5 t6 t20 t21 t22 t23 (w.setCell ⟨c, 0, none⟩ t21) :=
 ⟨h.S.setCell (h.B5 c (by rw [e]; rfl)).1 _, bd_set h.B5, bd_set h.B6, bd_set h.B21, bd_set h.B23, h.A56, h.A51, h.A53, h.A61, h.A63, h.A13, h.h0, h.h2, fun k => (h.h1 k).set e h.A51 _, fun k => (h.h3 k).set e h.A53 _, fun _ => (h.h4 rfl).fill e _, fun k => (h.h5 k).other e h.A56 _⟩
theorem J.op7 (h : J wA sa sb n m X Y l0 l1 l2 l3 l4 true l6 l7 t5 t6 t20 t21 t22 t23 w) {c : Nat} (e : t6 = .pointer (some ⟨c, 0, none⟩)) : J wA sa sb n m X Y l0 l1 l2 l3 l4 true l6 true t5 t6 t20 t21 t22 t23 (w.setCell ⟨c, 0, none⟩ t23) :=
 ⟨h.S.setCell (h.B6 c (by rw [e]; rfl)).1 _, bd_set h.B5, bd_set h.B6, bd_set h.B21, bd_set h.B23, h.A56, h.A51, h.A53, h.A61, h.A63, h.A13, h.h0, h.h2, fun k => (h.h1 k).set e h.A61 _, fun k => (h.h3 k).set e h.A63 _, fun k => (h.h4 k).other e h.A56.symm _, fun _ => (h.h5 rfl).fill e _⟩
theorem ow_parts {lo : Nat} {v : Value} (h : Ow w v m X) (b : Bd lo w v) (far : Nat) (hf : lo <= far) (_hw : w.heap.size <= far) : ∃ a g cp, v = .slice a m cp /\ m <= cp /\ (a = none -> cp = 0) /\ xq2 w a g 0 m X /\ (0 < m -> ∀ x, w.frozen? ⟨g, x, none⟩ = false) /\ lo <= g /\ (g = far ∨ bk v = some g) /\ yq1 w v g := by
 rcases h with ⟨rfl, rfl⟩ | ⟨g, cp, rfl, hg, hc, L, F, H⟩
 . exact ⟨none, far, 0, rfl, Nat.le_refl _, fun _ => rfl, fun j hj => absurd hj (by omega), fun h => absurd h (by omega), hf, Or.inl rfl, fun a _ _ h ha => by cases h; exact absurd rfl ha⟩
 . exact ⟨_, g, cp, rfl, hc, fun h => (by cases h), L, fun _ => F, (b g rfl).1, Or.inr rfl, fun _ _ _ h _ => by cases h; exact H⟩
theorem J.gd (h : J wA sa sb n m X Y true true true true true true true true t5 t6 t20 t21 t22 t23 w) (lX : ∀ j, j < n -> X j < 4294967296) (lY : ∀ j, j < m -> Y j < 4294967296) (pX : 0 < n -> X (n - 1) ≠ 0) (pY : 0 < m -> Y (m - 1) ≠ 0) :
 ∃ c d gn gm an am cn cm, t5 = .pointer (some ⟨c, 0, none⟩) /\ t6 = .pointer (some ⟨d, 0, none⟩) /\ Gd wA.heap.size wA w c d gn gm an am n m cn cm X Y := by
 obtain ⟨c, e5, c1, c2, c3⟩ := h.h4 rfl; obtain ⟨d, e6, d1, d2, d3⟩ := h.h5 rfl; have hs := h.S.size; obtain ⟨an, gn, cn, e21, q1, q2, q3, q4, q5, q6, q7⟩ := ow_parts (h.h1 rfl) h.B21 w.heap.size hs (Nat.le_refl _); obtain ⟨am, gm, cm, e23, r1, r2, r3, r4, r5, r6, r7⟩ := ow_parts (h.h3 rfl) h.B23 (w.heap.size + 1) (by omega) (by omega); have kc : bk t5 = some c := by rw [e5]; rfl
 have kd : bk t6 = some d := by rw [e6]; rfl
 have bn : gn < w.heap.size ∨ gn = w.heap.size := q6.elim Or.inr fun e => Or.inl (h.B21 _ e).2
 have bm : gm < w.heap.size ∨ gm = w.heap.size + 1 := r6.elim Or.inr fun e => Or.inl (h.B23 _ e).2
 refine ⟨c, d, gn, gm, an, am, cn, cm, e5, e6, h.S, by rw [c1, if_pos rfl, e21], by rw [d1, if_pos rfl, e23], c2, d2, q3, r3, q4, r4, q1, r1, q2, r2, lX, lY, pX, pY, (h.B5 c kc).1, (h.B6 d kd).1, q5, r5, ?_, ?_, ?_, ?_, ?_, ?_, by rw [<- e21]; exact q7, by rw [<- e23]; exact r7⟩
 . exact fun e => h.A56 c kc (by rw [kd, e])
 . rcases q6 with e | e
   . omega
   . rcases r6 with e' | e'
     . have := (h.B21 _ e).2; omega
     . exact fun k => h.A13 gn e (by rw [e', k])
 . rcases q6 with e | e
   . omega
   . exact fun k => h.A51 c kc (by rw [e, k])
 . rcases q6 with e | e
   . omega
   . exact fun k => h.A61 d kd (by rw [e, k])
 . rcases r6 with e | e
   . omega
   . exact fun k => h.A53 c kc (by rw [e, k])
 . rcases r6 with e | e
   . omega
   . exact fun k => h.A63 d kd (by rw [e, k])
end
def rdy (l0 l1 l2 l3 l4 l5 l6 l7 : Bool) : Nat -> Bool
 | 0 => !l0
 | 1 => l0 && !l1 && !l6 && !l3
 | 2 => !l2
 | 3 => l1 && l2 && !l3 && !l7
 | 4 => !l4 && !l6
 | 5 => !l5 && !l7
 | 6 => l4 && l1 && l3 && l5 && !l6
 | 7 => l6 && l5 && l3 && !l7
 | _ => false
def yq4 (l0 l1 l2 l3 l4 l5 l6 l7 : Bool) : Nat := (!l0).toNat + (!l1).toNat + (!l2).toNat + (!l3).toNat + (!l4).toNat + (!l5).toNat + (!l6).toNat + (!l7).toNat
def okl (l1 l3 l4 l5 l6 l7 : Bool) : Bool := (!l6 || (l1 && l3 && l4 && l5)) && (!l7 || l6) && (!l3 || l1)
theorem gcdOf_big (a b : Option Addr) (ba oa n ca bb ob m cb : Nat) (X Y : Nat -> Nat) (w : World) (_hw : 0 <= w.heap.size) (hn : n <= 16777216) (hm : m <= 16777216) (hnc : n <= ca) (hmc : m <= cb) (hac : a = none -> ca = 0) (hbc : b = none -> cb = 0)
 (hX : xq2 w a ba oa n X) (hY : xq2 w b bb ob m Y) (hXl : ∀ j, j < n -> X j < 4294967296) (hYl : ∀ j, j < m -> Y j < 4294967296) (pX : 0 < n -> X (n - 1) ≠ 0) (pY : 0 < m -> Y (m - 1) ≠ 0) (_hT : Tab w)
 (h1 : lv X n ≠ 1) (h2 : lv Y m ≠ 1) (h3 : 2 < n ∨ 2 < m) :
 Calls Tryz.prog 115 #[.slice a n ca, .slice b m cb] w fun e w' => ∃ v g, e = .returned v /\ xj8 w' v g (Nat.gcd (lv X n) (lv Y m)) 67108864 /\ w.heap.size <= g /\ w.Since w.heap.size w' := by
 have d1 : decide (lv X n = 1) = false := by simp [h1]
 have d2 : decide (lv Y m = 1) = false := by simp [h2]
 have sA : w.Since w.heap.size ((w.alloc (.cells #[.slice a n ca] 115)).alloc (.cells #[.slice b m cb] 115)) := ((World.Since.refl _ _).alloc (Nat.le_refl _) _).alloc (by simp) _; have bx1 : ((w.alloc (.cells #[.slice a n ca] 115)).alloc (.cells #[.slice b m cb] 115)).cell? ⟨w.heap.size, 0, none⟩ = some (.slice a n ca) := by rw [World.cell?_alloc_old _ _ _ (by simp)]; simp [go_sem]
 have bx2 : ((w.alloc (.cells #[.slice a n ca] 115)).alloc (.cells #[.slice b m cb] 115)).cell? ⟨w.heap.size + 1, 0, none⟩ = some (.slice b m cb) := by simp [go_sem]
 have zA : w.heap.size + 2 <= ((w.alloc (.cells #[.slice a n ca] 115)).alloc (.cells #[.slice b m cb] 115)).heap.size := by simp
 have XA := hX.keep sA; have YA := hY.keep sA; go_enter Tryz.func115, Tryz.ntmps115; go_wp2_with fail; generalize (w.alloc (.cells #[.slice a n ca] 115)).alloc (.cells #[.slice b m cb] 115) = wA at *; have I1 := xv2 w.heap.size 0 a ba oa n ca X wA bx1 XA hXl pX; have I2 := xv2 (w.heap.size + 1) 0 b bb ob m cb Y wA bx2 YA hYl pY; rw [d1] at I1; rw [d2] at I2; refine I1.mono ?_; clear I1; rintro e w1 ⟨rfl, hw1⟩; rw [hw1]; clear hw1; have I2 := hide I2; go_wp2_with fail; refine I2.out.mono ?_; clear I2; rintro e w1 ⟨rfl, hw1⟩; rw [hw1]; clear hw1
 by_cases h4 : 2 < n
 . go_wp2_with fail
   refine (yv3 w.heap.size 0 a n ca _ h4 bx1).mono ?_; rintro e w1 ⟨rfl, hw1⟩; rw [hw1]; clear hw1 d1 d2 h1 h2 hX hY; go_wp2; refine wp_region_any (by kernel_rfl) ?_
   change wpAny _ _ _ _ _ _ _ (World.drew _)
   have bx1 : wA.drew.cell? ⟨w.heap.size, 0, none⟩ = some (.slice a n ca) := bx1; have bx2 : wA.drew.cell? ⟨w.heap.size + 1, 0, none⟩ = some (.slice b m cb) := bx2; have XA : xq2 wA.drew a ba oa n X := XA; have YA : xq2 wA.drew b bb ob m Y := YA; have zA : w.heap.size + 2 <= wA.drew.heap.size := zA; have sA : w.Since w.heap.size wA.drew := ⟨sA.os, sA.tape, sA.output, sA.size, sA.block⟩; generalize wA.drew = wD at *
   refine wpAny_inv (fun fuel l ac wx => ∃ l0 l1 l2 l3 l4 l5 l6 l7 t5 t6 t20 t21 t22 t23, l = #[l0, l1, l2, l3, l4, l5, l6, l7] /\ fuel = yq4 l0 l1 l2 l3 l4 l5 l6 l7 /\ okl l1 l3 l4 l5 l6 l7 = true /\
    ac = { tmps := #[Value.slice a n ca, Value.slice b m cb, Value.pointer (some { block := w.heap.size, off := 0 }), Value.pointer (some { block := w.heap.size + 1, off := 0 }), Value.slice none 0 0, t5, t6,
     Value.bool false, Value.bool false, Value.bool false, Value.bool false, undef, Value.bool false, Value.bool false, undef, Value.bool false, undef, undef, undef, undef, t20, t21, t22, t23, undef, undef], defers := [] } /\
    J wD (.slice a n ca) (.slice b m cb) (tlen (nz X) n) (tlen (nz Y) m) X Y l0 l1 l2 l3 l4 l5 l6 l7 t5 t6 t20 t21 t22 t23 wx) ?_ ?_ ?_ _ _ _ _ ⟨_, _, _, _, _, _, _, _, _, _, _, _, _, _, rfl, rfl, rfl, rfl, J.start _ _ _ _ _ _ _ _ _⟩
   . rintro fuel l ac wx ⟨l0, l1, l2, l3, l4, l5, l6, l7, t5, t6, t20, t21, t22, t23, rfl, hf, hk, rfl, j⟩ i hi
     have hr : rdy l0 l1 l2 l3 l4 l5 l6 l7 i = true := by
      revert i
      refine List.all_eq_true.1 ?_
      revert hk
      clear hf j
      revert l0 l1 l2 l3 l4 l5 l6 l7
      exact of_decide_eq_true (by kernel_rfl)
     have k1 : wx.cell? ⟨w.heap.size, 0, none⟩ = some (.slice a n ca) := by rw [j.S.cell (a := ⟨w.heap.size, 0, none⟩) (by show w.heap.size < _; omega)]; exact bx1
     have k2 : wx.cell? ⟨w.heap.size + 1, 0, none⟩ = some (.slice b m cb) := by rw [j.S.cell (a := ⟨w.heap.size + 1, 0, none⟩) (by show w.heap.size + 1 < _; omega)]; exact bx2
     have kX := XA.keep j.S; have kY := YA.keep j.S; clear hi
     rcases i with _ | _ | _ | _ | _ | _ | _ | _ | i
     . simp [rdy] at hr
       subst hr; refine ⟨_, rfl, fun K hK => ?_⟩; go_simp; refine hK _ _ ⟨true, l1, l2, l3, l4, l5, l6, l7, t5, t6, _, t21, t22, t23, rfl, ?_, hk, rfl, j.op0⟩
       simp [yq4] at hf ⊢; omega
     . simp [rdy] at hr
       obtain ⟨⟨⟨rfl, rfl⟩, rfl⟩, rfl⟩ := hr; have e := j.h0 rfl; subst e; refine ⟨_, rfl, fun K hK => ?_⟩; go_simp; refine (yz2 a ba oa n ca X _ (by omega) hnc hac kX).mono ?_; rintro e w' ⟨v, rfl, o, s⟩; refine hK _ _ ⟨true, true, l2, false, l4, l5, false, l7, t5, t6, _, v, t22, t23, rfl, ?_, ?_, rfl, j.op1 s (own_ow o).1 (own_ow o).2⟩
       . simp [yq4] at hf ⊢; omega
       . simpa [okl] using hk
     . simp [rdy] at hr
       subst hr; refine ⟨_, rfl, fun K hK => ?_⟩; go_simp; refine hK _ _ ⟨l0, l1, true, l3, l4, l5, l6, l7, t5, t6, t20, t21, _, t23, rfl, ?_, hk, rfl, j.op2⟩
       simp [yq4] at hf ⊢; omega
     . simp [rdy] at hr
       obtain ⟨⟨⟨rfl, rfl⟩, rfl⟩, rfl⟩ := hr; have e := j.h2 rfl; subst e; refine ⟨_, rfl, fun K hK => ?_⟩; go_simp; refine (yz2 b bb ob m cb Y _ (by omega) hmc hbc kY).mono ?_; rintro e w' ⟨v, rfl, o, s⟩; refine hK _ _ ⟨l0, true, true, true, l4, l5, l6, false, t5, t6, t20, t21, _, v, rfl, ?_, ?_, rfl, j.op3 s (own_ow o).1 (own_ow o).2⟩
       . simp [yq4] at hf ⊢; omega
       . revert hk; cases l6 <;> cases l4 <;> cases l5 <;> decide
     . simp [rdy] at hr
       obtain ⟨rfl, rfl⟩ := hr; refine ⟨_, rfl, fun K hK => ?_⟩; go_simp; refine hK _ _ ⟨l0, l1, l2, l3, true, l5, false, l7, _, t6, t20, t21, t22, t23, rfl, ?_, ?_, rfl, j.op4 115⟩
       . simp [yq4] at hf ⊢; omega
       . simpa [okl] using hk
     . simp [rdy] at hr
       obtain ⟨rfl, rfl⟩ := hr; refine ⟨_, rfl, fun K hK => ?_⟩; go_simp; refine hK _ _ ⟨l0, l1, l2, l3, l4, true, l6, false, t5, _, t20, t21, t22, t23, rfl, ?_, ?_, rfl, j.op5 115⟩
       . simp [yq4] at hf ⊢; omega
       . revert hk; cases l6 <;> cases l4 <;> cases l1 <;> cases l3 <;> decide
     . simp [rdy] at hr
       obtain ⟨⟨⟨⟨rfl, rfl⟩, rfl⟩, rfl⟩, rfl⟩ := hr; obtain ⟨c, e5, c1, c2, c3⟩ := j.h4 rfl; obtain ⟨xa, xg, xc, e21, -⟩ := ow_parts (j.h1 rfl) j.B21 wx.heap.size j.S.size (Nat.le_refl _); subst e5 e21; rw [if_neg (by simp)] at c1; refine ⟨_, rfl, fun K hK => ?_⟩; go_simp; refine hK _ _ ⟨l0, true, l2, true, true, true, true, l7, _, t6, t20, _, t22, t23, rfl, ?_, ?_, rfl, j.op6 rfl⟩
       . simp [yq4] at hf ⊢; omega
       . simp [okl]
     . simp [rdy] at hr
       obtain ⟨⟨⟨rfl, rfl⟩, rfl⟩, rfl⟩ := hr; obtain ⟨c, e5, c1, c2, c3⟩ := j.h5 rfl; obtain ⟨xa, xg, xc, e21, -⟩ := ow_parts (j.h3 rfl) j.B23 wx.heap.size j.S.size (Nat.le_refl _); subst e5 e21; rw [if_neg (by simp)] at c1; refine ⟨_, rfl, fun K hK => ?_⟩; go_simp; refine hK _ _ ⟨l0, l1, l2, true, l4, true, true, true, t5, _, t20, t21, t22, _, rfl, ?_, ?_, rfl, j.op7 rfl⟩
       . simp [yq4] at hf ⊢; omega
       . simpa [okl] using hk
     . cases hr
   . rintro l ac wx ⟨l0, l1, l2, l3, l4, l5, l6, l7, t5, t6, t20, t21, t22, t23, rfl, hf, hk, rfl, j⟩
     revert hf
     clear hk j
     revert l0 l1 l2 l3 l4 l5 l6 l7
     exact of_decide_eq_true (by kernel_rfl)
   . rintro fuel l ac wx ⟨l0, l1, l2, l3, l4, l5, l6, l7, t5, t6, t20, t21, t22, t23, rfl, hf, hk, rfl, j⟩ he
     have hall : (l0 && (l1 && (l2 && (l3 && (l4 && (l5 && (l6 && l7))))))) = true := by
      revert he
      clear hf j
      revert hk
      revert l0 l1 l2 l3 l4 l5 l6 l7
      exact of_decide_eq_true (by kernel_rfl)
     simp only [Bool.and_eq_true] at hall; obtain ⟨rfl, rfl, rfl, rfl, rfl, rfl, rfl, rfl⟩ := hall; have htX := xz0 (nz X) n; have htY := xz0 (nz Y) m; obtain ⟨c, d, gn, gm, an, am, cn, cm, rfl, rfl, G⟩ := j.gd (fun q hq => hXl q (by omega)) (fun q hq => hYl q (by omega)) (fun h => by have := xz5 (nz X) n h; simpa [nz] using this) (fun h => by have := xz5 (nz Y) m h; simpa [nz] using this); have HL := hide (And.intro (xx9 X n) (xx9 Y m)); have hTD : Tab wD := trivial; clear j he hk hf hXl hYl pX pY; go_wp2_with fail; refine (becomeGcd_any _ c d gn gm an am _ _ cn cm X Y _ _ (by omega) (by omega) (by omega) G hTD).mono ?_; rintro e w3 ⟨rfl, ra, rg, rk, rc, Z, z1, z2, z3, z4, z5, z6, z7, z8, z9, z10, z11⟩; have Z7 := hide (And.intro z7 (And.intro z8 z9)); clear z7 z8 z9; go_wp2_with fail; go_ret; refine ⟨_, rg, rfl, ⟨ra, rk, rc, Z, rfl, z2, z3, z4, z5, z6, Z7.out.1, Z7.out.2.1, ?_⟩, by omega, sA.trans (sM z11 (by omega))⟩; rw [Z7.out.2.2, HL.out.1, HL.out.2]
 . go_wp2_with fail
   refine (xk1 w.heap.size 0 a n ca _ (by omega) bx1).mono ?_; rintro e w1 ⟨rfl, hw1⟩; rw [hw1]; clear hw1; go_wp2_with fail; refine (yv3 (w.heap.size + 1) 0 b m cb _ (by omega) bx2).mono ?_; rintro e w1 ⟨rfl, hw1⟩; rw [hw1]; clear hw1 d1 d2 h1 h2 hX hY; go_wp2; refine wp_region_any (by kernel_rfl) ?_
   change wpAny _ _ _ _ _ _ _ (World.drew _)
   have bx1 : wA.drew.cell? ⟨w.heap.size, 0, none⟩ = some (.slice a n ca) := bx1; have bx2 : wA.drew.cell? ⟨w.heap.size + 1, 0, none⟩ = some (.slice b m cb) := bx2; have XA : xq2 wA.drew a ba oa n X := XA; have YA : xq2 wA.drew b bb ob m Y := YA; have zA : w.heap.size + 2 <= wA.drew.heap.size := zA; have sA : w.Since w.heap.size wA.drew := ⟨sA.os, sA.tape, sA.output, sA.size, sA.block⟩; generalize wA.drew = wD at *
   refine wpAny_inv (fun fuel l ac wx => ∃ l0 l1 l2 l3 l4 l5 l6 l7 t5 t6 t20 t21 t22 t23, l = #[l0, l1, l2, l3, l4, l5, l6, l7] /\ fuel = yq4 l0 l1 l2 l3 l4 l5 l6 l7 /\ okl l1 l3 l4 l5 l6 l7 = true /\
    ac = { tmps := #[Value.slice a n ca, Value.slice b m cb, Value.pointer (some { block := w.heap.size, off := 0 }), Value.pointer (some { block := w.heap.size + 1, off := 0 }), Value.slice none 0 0, t5, t6,
     Value.bool false, Value.bool false, Value.bool false, Value.bool false, undef, Value.bool true, Value.bool true, Value.bool false, Value.bool false, undef, undef, undef, undef, t20, t21, t22, t23, undef, undef], defers := [] } /\
    J wD (.slice a n ca) (.slice b m cb) (tlen (nz X) n) (tlen (nz Y) m) X Y l0 l1 l2 l3 l4 l5 l6 l7 t5 t6 t20 t21 t22 t23 wx) ?_ ?_ ?_ _ _ _ _ ⟨_, _, _, _, _, _, _, _, _, _, _, _, _, _, rfl, rfl, rfl, rfl, J.start _ _ _ _ _ _ _ _ _⟩
   . rintro fuel l ac wx ⟨l0, l1, l2, l3, l4, l5, l6, l7, t5, t6, t20, t21, t22, t23, rfl, hf, hk, rfl, j⟩ i hi
     have hr : rdy l0 l1 l2 l3 l4 l5 l6 l7 i = true := by
      revert i
      refine List.all_eq_true.1 ?_
      revert hk
      clear hf j
      revert l0 l1 l2 l3 l4 l5 l6 l7
      exact of_decide_eq_true (by kernel_rfl)
     have k1 : wx.cell? ⟨w.heap.size, 0, none⟩ = some (.slice a n ca) := by rw [j.S.cell (a := ⟨w.heap.size, 0, none⟩) (by show w.heap.size < _; omega)]; exact bx1
     have k2 : wx.cell? ⟨w.heap.size + 1, 0, none⟩ = some (.slice b m cb) := by rw [j.S.cell (a := ⟨w.heap.size + 1, 0, none⟩) (by show w.heap.size + 1 < _; omega)]; exact bx2
     have kX := XA.keep j.S; have kY := YA.keep j.S; clear hi
     rcases i with _ | _ | _ | _ | _ | _ | _ | _ | i
     . simp [rdy] at hr
       subst hr; refine ⟨_, rfl, fun K hK => ?_⟩; go_simp; refine hK _ _ ⟨true, l1, l2, l3, l4, l5, l6, l7, t5, t6, _, t21, t22, t23, rfl, ?_, hk, rfl, j.op0⟩
       simp [yq4] at hf ⊢; omega
     . simp [rdy] at hr
       obtain ⟨⟨⟨rfl, rfl⟩, rfl⟩, rfl⟩ := hr; have e := j.h0 rfl; subst e; refine ⟨_, rfl, fun K hK => ?_⟩; go_simp; refine (yz2 a ba oa n ca X _ (by omega) hnc hac kX).mono ?_; rintro e w' ⟨v, rfl, o, s⟩; refine hK _ _ ⟨true, true, l2, false, l4, l5, false, l7, t5, t6, _, v, t22, t23, rfl, ?_, ?_, rfl, j.op1 s (own_ow o).1 (own_ow o).2⟩
       . simp [yq4] at hf ⊢; omega
       . simpa [okl] using hk
     . simp [rdy] at hr
       subst hr; refine ⟨_, rfl, fun K hK => ?_⟩; go_simp; refine hK _ _ ⟨l0, l1, true, l3, l4, l5, l6, l7, t5, t6, t20, t21, _, t23, rfl, ?_, hk, rfl, j.op2⟩
       simp [yq4] at hf ⊢; omega
     . simp [rdy] at hr
       obtain ⟨⟨⟨rfl, rfl⟩, rfl⟩, rfl⟩ := hr; have e := j.h2 rfl; subst e; refine ⟨_, rfl, fun K hK => ?_⟩; go_simp; refine (yz2 b bb ob m cb Y _ (by omega) hmc hbc kY).mono ?_; rintro e w' ⟨v, rfl, o, s⟩; refine hK _ _ ⟨l0, true, true, true, l4, l5, l6, false, t5, t6, t20, t21, _, v, rfl, ?_, ?_, rfl, j.op3 s (own_ow o).1 (own_ow o).2⟩
       . simp [yq4] at hf ⊢; omega
       . revert hk; cases l6 <;> cases l4 <;> cases l5 <;> decide
     . simp [rdy] at hr
       obtain ⟨rfl, rfl⟩ := hr; refine ⟨_, rfl, fun K hK => ?_⟩; go_simp; refine hK _ _ ⟨l0, l1, l2, l3, true, l5, false, l7, _, t6, t20, t21, t22, t23, rfl, ?_, ?_, rfl, j.op4 115⟩
       . simp [yq4] at hf ⊢; omega
       . simpa [okl] using hk
     . simp [rdy] at hr
       obtain ⟨rfl, rfl⟩ := hr; refine ⟨_, rfl, fun K hK => ?_⟩; go_simp; refine hK _ _ ⟨l0, l1, l2, l3, l4, true, l6, false, t5, _, t20, t21, t22, t23, rfl, ?_, ?_, rfl, j.op5 115⟩
       . simp [yq4] at hf ⊢; omega
       . revert hk; cases l6 <;> cases l4 <;> cases l1 <;> cases l3 <;> decide
     . simp [rdy] at hr
       obtain ⟨⟨⟨⟨rfl, rfl⟩, rfl⟩, rfl⟩, rfl⟩ := hr; obtain ⟨c, e5, c1, c2, c3⟩ := j.h4 rfl; obtain ⟨xa, xg, xc, e21, -⟩ := ow_parts (j.h1 rfl) j.B21 wx.heap.size j.S.size (Nat.le_refl _); subst e5 e21; rw [if_neg (by simp)] at c1; refine ⟨_, rfl, fun K hK => ?_⟩; go_simp; refine hK _ _ ⟨l0, true, l2, true, true, true, true, l7, _, t6, t20, _, t22, t23, rfl, ?_, ?_, rfl, j.op6 rfl⟩
       . simp [yq4] at hf ⊢; omega
       . simp [okl]
     . simp [rdy] at hr
       obtain ⟨⟨⟨rfl, rfl⟩, rfl⟩, rfl⟩ := hr; obtain ⟨c, e5, c1, c2, c3⟩ := j.h5 rfl; obtain ⟨xa, xg, xc, e21, -⟩ := ow_parts (j.h3 rfl) j.B23 wx.heap.size j.S.size (Nat.le_refl _); subst e5 e21; rw [if_neg (by simp)] at c1; refine ⟨_, rfl, fun K hK => ?_⟩; go_simp; refine hK _ _ ⟨l0, l1, l2, true, l4, true, true, true, t5, _, t20, t21, t22, _, rfl, ?_, ?_, rfl, j.op7 rfl⟩
       . simp [yq4] at hf ⊢; omega
       . simpa [okl] using hk
     . cases hr
   . rintro l ac wx ⟨l0, l1, l2, l3, l4, l5, l6, l7, t5, t6, t20, t21, t22, t23, rfl, hf, hk, rfl, j⟩
     revert hf
     clear hk j
     revert l0 l1 l2 l3 l4 l5 l6 l7
     exact of_decide_eq_true (by kernel_rfl)
   . rintro fuel l ac wx ⟨l0, l1, l2, l3, l4, l5, l6, l7, t5, t6, t20, t21, t22, t23, rfl, hf, hk, rfl, j⟩ he
     have hall : (l0 && (l1 && (l2 && (l3 && (l4 && (l5 && (l6 && l7))))))) = true := by
      revert he
      clear hf j
      revert hk
      revert l0 l1 l2 l3 l4 l5 l6 l7
      exact of_decide_eq_true (by kernel_rfl)
     simp only [Bool.and_eq_true] at hall; obtain ⟨rfl, rfl, rfl, rfl, rfl, rfl, rfl, rfl⟩ := hall; have htX := xz0 (nz X) n; have htY := xz0 (nz Y) m; obtain ⟨c, d, gn, gm, an, am, cn, cm, rfl, rfl, G⟩ := j.gd (fun q hq => hXl q (by omega)) (fun q hq => hYl q (by omega)) (fun h => by have := xz5 (nz X) n h; simpa [nz] using this) (fun h => by have := xz5 (nz Y) m h; simpa [nz] using this); have HL := hide (And.intro (xx9 X n) (xx9 Y m)); have hTD : Tab wD := trivial; clear j he hk hf hXl hYl pX pY; go_wp2_with fail; refine (becomeGcd_any _ c d gn gm an am _ _ cn cm X Y _ _ (by omega) (by omega) (by omega) G hTD).mono ?_; rintro e w3 ⟨rfl, ra, rg, rk, rc, Z, z1, z2, z3, z4, z5, z6, z7, z8, z9, z10, z11⟩; have Z7 := hide (And.intro z7 (And.intro z8 z9)); clear z7 z8 z9; go_wp2_with fail; go_ret; refine ⟨_, rg, rfl, ⟨ra, rk, rc, Z, rfl, z2, z3, z4, z5, z6, Z7.out.1, Z7.out.2.1, ?_⟩, by omega, sA.trans (sM z11 (by omega))⟩; rw [Z7.out.2.2, HL.out.1, HL.out.2]
theorem yv2 (w : World) : xj8 (w.alloc (.cells #[.int .u32 1] 119)) (.slice (some ⟨w.heap.size, 0, none⟩) 1 1) w.heap.size 1 67108864 := by
 refine ⟨_, 1, 1, fun _ => 1, rfl, by omega, by omega, fun h => (by cases h), fun j hj => ?_, fun _ o => by simp [go_sem], fun _ _ => (by show 1 < 4294967296; omega), fun _ => by decide, by simp [lv]⟩; have e : j = 0 := by omega
 subst e; exact ⟨rfl, by simp [go_sem]⟩
theorem yv4 (a b : Option Addr) (ba oa n ca bb ob m cb : Nat) (X Y : Nat -> Nat) (w : World) (hw : 0 <= w.heap.size) (hn : n <= 16777216) (hm : m <= 16777216) (hnc : n <= ca) (hmc : m <= cb) (hac : a = none -> ca = 0) (hbc : b = none -> cb = 0)
 (hX : xq2 w a ba oa n X) (hY : xq2 w b bb ob m Y) (hXl : ∀ j, j < n -> X j < 4294967296) (hYl : ∀ j, j < m -> Y j < 4294967296) (pX : 0 < n -> X (n - 1) ≠ 0) (pY : 0 < m -> Y (m - 1) ≠ 0) (hT : Tab w) :
 Calls Tryz.prog 115 #[.slice a n ca, .slice b m cb] w fun e w' => ∃ v g, e = .returned v /\ xj8 w' v g (Nat.gcd (lv X n) (lv Y m)) 67108864 /\ w.heap.size <= g /\ w.Since w.heap.size w' := by
 by_cases hbig : lv X n ≠ 1 /\ lv Y m ≠ 1 /\ (2 < n ∨ 2 < m)
 . exact gcdOf_big a b ba oa n ca bb ob m cb X Y w hw hn hm hnc hmc hac hbc hX hY hXl hYl pX pY hT hbig.1 hbig.2.1 hbig.2.2
 have sA : w.Since w.heap.size ((w.alloc (.cells #[.slice a n ca] 115)).alloc (.cells #[.slice b m cb] 115)) := ((World.Since.refl _ _).alloc (Nat.le_refl _) _).alloc (by simp) _; have bx1 : ((w.alloc (.cells #[.slice a n ca] 115)).alloc (.cells #[.slice b m cb] 115)).cell? ⟨w.heap.size, 0, none⟩ = some (.slice a n ca) := by rw [World.cell?_alloc_old _ _ _ (by simp)]; simp [go_sem]
 have bx2 : ((w.alloc (.cells #[.slice a n ca] 115)).alloc (.cells #[.slice b m cb] 115)).cell? ⟨w.heap.size + 1, 0, none⟩ = some (.slice b m cb) := by simp [go_sem]
 have zA : w.heap.size + 2 <= ((w.alloc (.cells #[.slice a n ca] 115)).alloc (.cells #[.slice b m cb] 115)).heap.size := by simp
 have XA := hX.keep sA; have YA := hY.keep sA
 by_cases h1 : lv X n = 1
 . have eG : Nat.gcd (lv X n) (lv Y m) = 1 := by rw [h1]; exact Nat.gcd_one_left _
   rw [eG]; have d1 : decide (lv X n = 1) = true := by simp [h1]
   go_enter Tryz.func115, Tryz.ntmps115; go_wp2_with fail; generalize (w.alloc (.cells #[.slice a n ca] 115)).alloc (.cells #[.slice b m cb] 115) = wA at *; have I1 := xv2 w.heap.size 0 a ba oa n ca X wA bx1 XA hXl pX; rw [d1] at I1; refine I1.mono ?_; clear I1; rintro e w1 ⟨rfl, hw1⟩; rw [hw1]; clear hw1 hXl hYl pX pY d1 h1 hbig eG; go_wp2; go_ret; exact ⟨_, wA.heap.size, rfl, yv2 wA, by omega, sA.alloc (by omega) _⟩
 by_cases h2 : lv Y m = 1
 . have eG : Nat.gcd (lv X n) (lv Y m) = 1 := by rw [h2]; exact Nat.gcd_one_right _
   rw [eG]; have d1 : decide (lv X n = 1) = false := by simp [h1]
   have d2 : decide (lv Y m = 1) = true := by simp [h2]
   go_enter Tryz.func115, Tryz.ntmps115; go_wp2_with fail; generalize (w.alloc (.cells #[.slice a n ca] 115)).alloc (.cells #[.slice b m cb] 115) = wA at *; have I1 := xv2 w.heap.size 0 a ba oa n ca X wA bx1 XA hXl pX; have I2 := xv2 (w.heap.size + 1) 0 b bb ob m cb Y wA bx2 YA hYl pY; rw [d1] at I1; rw [d2] at I2; refine I1.mono ?_; clear I1; rintro e w1 ⟨rfl, hw1⟩; rw [hw1]; clear hw1; have I2 := hide I2; go_wp2_with fail; refine I2.out.mono ?_; clear I2; rintro e w1 ⟨rfl, hw1⟩; rw [hw1]; clear hw1 hXl hYl pX pY d1 d2 h1 h2 hbig eG; go_wp2; go_ret; exact ⟨_, wA.heap.size, rfl, yv2 wA, by omega, sA.alloc (by omega) _⟩
 . have h3 : n <= 2 := by rcases Nat.lt_or_ge 2 n with h | h; · exact absurd ⟨h1, h2, Or.inl h⟩ hbig
                          . exact h
   have h4 : m <= 2 := by rcases Nat.lt_or_ge 2 m with h | h; · exact absurd ⟨h1, h2, Or.inr h⟩ hbig
                          . exact h
   have d1 : decide (lv X n = 1) = false := by simp [h1]
   have d2 : decide (lv Y m = 1) = false := by simp [h2]
   have vX : lv X n < 18446744073709551616 := short_lt h3 hXl; have vY : lv Y m < 18446744073709551616 := short_lt h4 hYl
   have vG : Nat.gcd (lv X n) (lv Y m) < 18446744073709551616 := by
    rcases Nat.eq_zero_or_pos (lv X n) with e | e
    . rw [e, Nat.gcd_zero_left]; exact vY
    . exact Nat.lt_of_le_of_lt (Nat.gcd_le_left _ e) vX
   go_enter Tryz.func115, Tryz.ntmps115; go_wp2_with fail; generalize (w.alloc (.cells #[.slice a n ca] 115)).alloc (.cells #[.slice b m cb] 115) = wA at *; have I1 := xv2 w.heap.size 0 a ba oa n ca X wA bx1 XA hXl pX; have I2 := xv2 (w.heap.size + 1) 0 b bb ob m cb Y wA bx2 YA hYl pY; rw [d1] at I1; rw [d2] at I2; refine I1.mono ?_; clear I1; rintro e w1 ⟨rfl, hw1⟩; rw [hw1]; clear hw1; have I2 := hide I2; go_wp2_with fail; refine I2.out.mono ?_; clear I2; rintro e w1 ⟨rfl, hw1⟩; rw [hw1]; clear hw1; go_wp2_with fail; refine (xk1 w.heap.size 0 a n ca _ h3 bx1).mono ?_; rintro e w1 ⟨rfl, hw1⟩; rw [hw1]; clear hw1; go_wp2_with fail; refine (xk1 (w.heap.size + 1) 0 b m cb _ h4 bx2).mono ?_; rintro e w1 ⟨rfl, hw1⟩; rw [hw1]; clear hw1; go_wp2_with fail; refine (yv1 w.heap.size 0 a ba oa n ca X wA h3 bx1 XA hXl).mono ?_; rintro e w1 ⟨rfl, hw1⟩; rw [hw1]; clear hw1; go_wp2_with fail; refine (yv1 (w.heap.size + 1) 0 b bb ob m cb Y wA h4 bx2 YA hYl).mono ?_; rintro e w1 ⟨rfl, hw1⟩; rw [hw1]; clear hw1; go_wp2_with fail; refine (shortGcd_any _ _ wA vX vY).mono ?_; rintro e w1 ⟨rfl, s1⟩; go_wp2_with fail; refine (yx6 _ w1 vG).mono ?_; rintro e w2 ⟨S, rfl, r2, l2, e2, s2⟩; go_wp2_with fail; go_ret; have t2 := xz0 (nz S) 2; have z1 := (s1.since wA.heap.size).size; have L2 := xz9 r2; refine ⟨_, w1.heap.size, rfl, ⟨_, _, _, S, rfl, t2, by omega, fun h => (by cases h), L2.take t2, fun _ o => r2.frozen o, fun j _ => l2 j, fun h => by have := xz5 (nz S) 2 h; simpa [nz] using this, by rw [xx9]; exact e2⟩, by omega, ?_⟩; exact (sA.trans (sM (s1.since wA.heap.size) (by omega))).trans (sM s2 (by omega))
def xv5 (X : Nat -> Nat) (n : Nat) : Bool := n == 0 || X (n - 1) != 0
theorem xk3 {X : Nat -> Nat} {n : Nat} : xv5 X n = true ↔ (0 < n -> X (n - 1) ≠ 0) := by
 unfold xv5
 rcases Nat.eq_zero_or_pos n with h | h
 . simp [h]
 . have : n ≠ 0 := by omega
   simp [this, h]
theorem xv4 (a : Option Addr) (b off n cap : Nat) (X : Nat -> Nat) (w : World) (hn : n <= 16777216) (hX : xq2 w a b off n X) :
 Calls Tryz.prog 100 #[.slice a n cap] w fun e w' => e = .returned (.bool (xv5 X n)) /\ w' = w := by
 by_cases h0 : n = 0
 . subst h0
   go_enter Tryz.func100, Tryz.ntmps100; go_wp2; go_ret; exact ⟨rfl, rfl⟩
 . obtain ⟨k, rfl⟩ : ∃ k, n = k + 1 := ⟨n - 1, by omega⟩
   obtain ⟨rfl, hc⟩ := hX k (by omega)
   have hp : Ending.returned (.bool ((k : Int) + 1 == 0 || (X k : Int) != 0)) = .returned (.bool (xv5 X (k + 1))) := by
    have h : ((k : Int) + 1 == 0 || (X k : Int) != 0) = xv5 X (k + 1) := by
     rw [Bool.eq_iff_iff]; simp [xv5]; omega
    rw [h]
   have hp := hide hp; go_enter Tryz.func100, Tryz.ntmps100; go_wp2; go_ret; exact ⟨hp.out, rfl⟩
theorem isPlain_any (a : Option Addr) (b off n cap : Nat) (X : Nat -> Nat) (w : World) (hn : n <= 16777216) (hX : xq2 w a b off n X) :
 Calls Tryz.prog 114 #[.slice a n cap] w fun e w' => e = .returned (.bool (xv5 X n)) /\ w' = w := by
 by_cases h0 : n = 0
 . subst h0
   go_enter Tryz.func114, Tryz.ntmps114; go_wp2; go_ret; exact ⟨rfl, rfl⟩
 . obtain ⟨k, rfl⟩ : ∃ k, n = k + 1 := ⟨n - 1, by omega⟩
   obtain ⟨rfl, hc⟩ := hX k (by omega)
   have hp : Ending.returned (.bool ((k : Int) + 1 == 0 || (X k : Int) != 0)) = .returned (.bool (xv5 X (k + 1))) := by
    have h : ((k : Int) + 1 == 0 || (X k : Int) != 0) = xv5 X (k + 1) := by
     rw [Bool.eq_iff_iff]; simp [xv5]; omega
    rw [h]
   have hp := hide hp; go_enter Tryz.func114, Tryz.ntmps114; go_wp2; go_ret; exact ⟨hp.out, rfl⟩
theorem xj4 (a : Option Addr) (b off n cap : Nat) (X : Nat -> Nat) (w : World) (hn : n <= 1) (hX : xq2 w a b off n X) (hXl : ∀ j, j < n -> X j < 4294967296) :
 Calls Tryz.prog 103 #[.slice a n cap] w fun e w' => e = .returned (.int .u64 (lv X n : Nat)) /\ w' = w := by
 by_cases h0 : n = 0
 . subst h0
   go_enter Tryz.func103, Tryz.ntmps103; go_wp2; go_ret; exact ⟨rfl, rfl⟩
 . have e : n = 1 := by omega
   subst e; obtain ⟨rfl, hc⟩ := hX 0 (by omega); have hl := hXl 0 (by omega); rw [Nat.add_zero] at hc; have he : lv X 1 = X 0 := by simp [lv]
   rw [he]; clear he hXl; go_enter Tryz.func103, Tryz.ntmps103; go_wp2; go_ret; exact ⟨rfl, rfl⟩
theorem yx8 (x y : Nat) (w : World) (hx : x < 18446744073709551616) (hy : y < 18446744073709551616) :
 Calls Tryz.prog 102 #[.int .u64 x, .int .u64 y] w fun e w' => e = .returned (.int .u64 (Nat.gcd x y)) /\ w' = w := by
 go_enter Tryz.func102, Tryz.ntmps102; go_wp2
 go_loopw [0, 1] (fun p q wr => ∃ s t : Nat, p = .int .u64 s /\ q = .int .u64 t /\ s < 18446744073709551616 /\ t < 18446744073709551616 /\ Hid (Nat.gcd s t = Nat.gcd x y) /\ wr = w) (fun _ q _ => (intOf q).toNat)
 case atStart => exact ⟨x, y, rfl, rfl, hx, hy, rfl, rfl⟩
 case round =>
  obtain ⟨s, t, rfl, rfl, hs, ht, HG, rfl⟩ := hrel
  by_cases h0 : t = 0
  . subst h0
    go_wp2; go_ret; exact ⟨xq7 (congrArg (fun x : Nat => (x : Int)) (by have := HG.out; rwa [Nat.gcd_zero_right] at this)), rfl⟩
  . have hne : ((t : Int) == 0) = false := by simp; omega
    have hne2 : ¬ (t : Int) = 0 := by omega
    obtain ⟨r, hr⟩ : ∃ r, r = s % t := ⟨_, rfl⟩; have hrl : r < t := by rw [hr]; exact Nat.mod_lt _ (by omega)
    have w1 : IntKind.u64.wrap ((s : Int) % (t : Int)) = (r : Int) := by rw [<- Int.natCast_emod, <- hr]; exact xq9 r (by omega)
    have HR := hide hr; clear hr h0; go_wp2; go_roundw
    case rel =>
     refine ⟨t, r, rfl, ?_, ht, by omega, ?_, by trivial⟩
     . first | rfl | exact congrArg (Value.int .u64) (by rw [HR.out, Int.natCast_emod])
     . have h := HG.out
       rw [Nat.gcd_comm, Nat.gcd_rec, <- HR.out, Nat.gcd_comm] at h; exact h
    case measure => simp [intOf]; have := Int.emod_lt_of_pos (s : Int) (show (0 : Int) < (t : Int) by omega); omega
def xj1 (neg : Bool) (X : Nat -> Nat) (n : Nat) (Y : Nat -> Nat) (m : Nat) : Bool :=
 xv5 X n && xv5 Y m && m != 0 && !(neg && n == 0) && Nat.gcd (lv X n) (lv Y m) == 1
theorem implRatOk_any (neg : Bool) (a b : Option Addr) (ba oa n ca bb ob m cb : Nat) (X Y : Nat -> Nat) (w : World) (_hw : 0 <= w.heap.size) (hn : n <= 16777216) (hm : m <= 16777216) (hnc : n <= ca) (hmc : m <= cb) (hac : a = none -> ca = 0) (hbc : b = none -> cb = 0)
 (hX : xq2 w a ba oa n X) (hY : xq2 w b bb ob m Y) (hXl : ∀ j, j < n -> X j < 4294967296) (hYl : ∀ j, j < m -> Y j < 4294967296) (_hT : Tab w) :
 Calls Tryz.prog 71 #[.agg #[.bool neg, .slice a n ca, .slice b m cb]] w fun e w' => e = .returned (.bool (xj1 neg X n Y m)) /\ w.Since w.heap.size w' := by
 have sA := sal w (.cells #[.bool neg, .slice a n ca, .slice b m cb] 70); have I1 := isPlain_any a ba oa n ca X _ hn (hX.keep sA); have I2 := isPlain_any b bb ob m cb Y _ hm (hY.keep sA)
 by_cases h1 : xv5 X n = false
 . have HR := hide (show false = xj1 neg X n Y m by simp [xj1, h1])
   rw [h1] at I1; clear h1; go_enter Tryz.func71, Tryz.ntmps71; go_wp2_with fail; refine I1.mono ?_; rintro e w1 ⟨rfl, rfl⟩; go_wp2; go_ret; exact ⟨xx2 HR.out, sA⟩
 have h1 : xv5 X n = true := by simpa using h1
 rw [h1] at I1
 by_cases h2 : xv5 Y m = false
 . have HR := hide (show false = xj1 neg X n Y m by simp [xj1, h2])
   rw [h2] at I2; clear h1 h2; go_enter Tryz.func71, Tryz.ntmps71; go_wp2_with fail; refine I1.mono ?_; rintro e w1 ⟨rfl, rfl⟩; go_wp2_with fail; refine I2.mono ?_; rintro e w1 ⟨rfl, rfl⟩; go_wp2; go_ret; exact ⟨xx2 HR.out, sA⟩
 have h2 : xv5 Y m = true := by simpa using h2
 rw [h2] at I2; have pX := hide (xk3.1 h1); have pY := hide (xk3.1 h2)
 by_cases h3 : m = 0
 . have HR := hide (show false = xj1 neg X n Y m by simp [xj1, h3])
   clear h1 h2; subst h3; go_enter Tryz.func71, Tryz.ntmps71; go_wp2_with fail; refine I1.mono ?_; rintro e w1 ⟨rfl, rfl⟩; go_wp2_with fail; refine I2.mono ?_; rintro e w1 ⟨rfl, rfl⟩; go_wp2; go_ret; exact ⟨xx2 HR.out, sA⟩
 have q3 : ((m : Int) == 0) = false := by simp; omega
 by_cases h4 : neg = true /\ n = 0
 . obtain ⟨rfl, rfl⟩ := h4
   have HR := hide (show false = xj1 true X 0 Y m by simp [xj1]); clear h1 h2; go_enter Tryz.func71, Tryz.ntmps71; go_wp2_with fail; refine I1.mono ?_; rintro e w1 ⟨rfl, rfl⟩; go_wp2_with fail; refine I2.mono ?_; rintro e w1 ⟨rfl, rfl⟩; go_wp2; go_ret; exact ⟨xx2 HR.out, sA⟩
 have HR := hide (show (decide (Nat.gcd (lv X n) (lv Y m) = 1)) = xj1 neg X n Y m by
  have e3 : (m != 0) = true := by simp [h3]
  have e4 : (neg && n == 0) = false := by cases neg <;> simp at h4 ⊢; exact h4
  rw [Bool.eq_iff_iff]
  simp [xj1, h1, h2, e3, e4])
 have q4 : (neg && (n : Int) == 0) = false := by
  cases neg
  . rfl
  . simp at h4 ⊢; omega
 have tA : Tab (w.alloc (.cells #[.bool neg, .slice a n ca, .slice b m cb] 70)) := trivial; have I3 := yv4 a b ba oa n ca bb ob m cb X Y _ (Nat.zero_le _) hn hm hnc hmc hac hbc (hX.keep sA) (hY.keep sA) hXl hYl pX.out pY.out tA; clear h1 h2 h4 tA; go_enter Tryz.func71, Tryz.ntmps71; go_wp2_with fail; refine I1.mono ?_; rintro e w1 ⟨rfl, rfl⟩; go_wp2_with fail; refine I2.mono ?_; rintro e w1 ⟨rfl, rfl⟩; cases neg
 . clear q4
   go_wp2_with fail; refine I3.mono ?_; rintro e w3 ⟨v, g, rfl, ⟨a3, k, c3, Z, rfl, k1, k2, k3, L, F, l, p, e3⟩, hg, s3⟩; have E := hide e3; clear e3 I1 I2 I3; go_wp2_with fail; refine (xv2 w3.heap.size 0 a3 g 0 k c3 Z _ (by simp [go_sem]) (L.keep ((World.Since.refl _ _).alloc (Nat.le_refl _) _)) l p).mono ?_; rintro e w4 ⟨rfl, rfl⟩; clear l p; go_wp2; go_ret; exact ⟨xx2 (by rw [E.out]; exact HR.out), (sA.trans (sM s3 (by simp))).alloc (Nat.le_trans (by simp) s3.size) _⟩
 . have q5 : ((n : Int) == 0) = false := by simpa using q4
   clear q4; go_wp2_with fail; refine I3.mono ?_; rintro e w3 ⟨v, g, rfl, ⟨a3, k, c3, Z, rfl, k1, k2, k3, L, F, l, p, e3⟩, hg, s3⟩; have E := hide e3; clear e3 I1 I2 I3; go_wp2_with fail; refine (xv2 w3.heap.size 0 a3 g 0 k c3 Z _ (by simp [go_sem]) (L.keep ((World.Since.refl _ _).alloc (Nat.le_refl _) _)) l p).mono ?_; rintro e w4 ⟨rfl, rfl⟩; clear l p; go_wp2; go_ret; exact ⟨xx2 (by rw [E.out]; exact HR.out), (sA.trans (sM s3 (by simp))).alloc (Nat.le_trans (by simp) s3.size) _⟩
def nb (v j : Nat) : Bool := v / 2 ^ j % 2 == 1
theorem bv_nb (v k : Nat) : bv (nb v) k = v % 2 ^ k := by
 induction k with
 | zero => simp [bv, Nat.mod_one]
 | succ k ih =>
   have h : bv (nb v) (k + 1) = bv (nb v) k + (nb v k).toNat * 2 ^ k := rfl; rw [h, ih]; unfold nb; rw [toNat_beq, Nat.pow_succ, Nat.mod_mul, Nat.mul_comm (2 ^ k)]
theorem l1BitsOf_any (v : Nat) (w : World) (hv : v < 18446744073709551616) :
 Calls Tryz.prog 107 #[.int .u64 v] w fun e w' => ∃ x t B, e = .returned x /\ t <= 64 /\ Tr w' x t B /\ bv B t = v /\ w.Since w.heap.size w' := by
 obtain ⟨i0, hi, hz0, hz1, hz2⟩ := info_parts Tryz.info4; go_enter Tryz.func107, Tryz.ntmps107; go_wp2
 go_loopw [0, 3] (fun p o wr => ∃ k q : Nat, k <= 64 /\ p = .int .u64 q /\ q < 18446744073709551616 /\ Hid (q = v / 2 ^ k) /\ Hid (0 < k -> 0 < v / 2 ^ (k - 1)) /\ wr.ownsRow w.heap.size 4 1 o k (bl (nb v) k) /\ w.Since w.heap.size wr) (fun p _ _ => (intOf p).toNat)
 case atStart => exact ⟨0, v, by omega, rfl, hv, hide (by simp), hide (fun h => absurd h (by omega)), World.ownsRow_made w #[] 0 (Nat.le_refl _) (by decide) rfl, (World.Since.refl _ _).alloc (Nat.le_refl _) _⟩
 case round =>
  obtain ⟨k, q, hk, rfl, hq, HQ, HP, hown, hs⟩ := hrel
  by_cases h0 : q = 0
  . subst h0
    obtain ⟨a', g, cap', rfl, hmc, hg, hB⟩ := own_bits hown; go_wp2; go_ret
    have hlt : v < 2 ^ k := by
     have := HQ.out; have h2 : 0 < 2 ^ k := Nat.pow_pos (by omega)
     rcases Nat.lt_or_ge v (2 ^ k) with h | h
     . exact h
     . have := Nat.div_pos h h2; omega
    refine ⟨_, k, nb v, rfl, hk, ⟨a', g, 0, cap', rfl, hmc, hB, fun h => ?_⟩, (bv_nb v k).trans (Nat.mod_eq_of_lt hlt), hs⟩; have h1 := HP.out h; obtain ⟨j, rfl⟩ : ∃ j, k = j + 1 := ⟨k - 1, by omega⟩; have h2 : v / 2 ^ j < 2 := by rw [Nat.div_lt_iff_lt_mul (Nat.pow_pos (by omega))]; rw [Nat.pow_succ] at hlt; omega
    simp only [Nat.add_sub_cancel] at h1 ⊢; unfold nb; rw [show v / 2 ^ j = 1 by omega]
    rfl
  . have hk2 : k < 64 := by
     rcases Nat.lt_or_ge k 64 with h | h
     . exact h
     . have e : k = 64 := by omega
       subst e; have := HQ.out; rw [Nat.div_eq_of_lt hv] at this; omega
    have hne : 0 < q := by omega
    have hbit : ((q : Int) % 2 == 1) = nb v k := by
     rw [Bool.eq_iff_iff]; simp only [nb, beq_iff_eq, <- HQ.out]; omega
    have HB := hide hbit; clear hbit h0
    go_wp2_with (at_builtin; refine wpList_append_own _ rfl _ _ 156 rfl w.heap.size 4 i0 (.bool false) 1 1 Tryz.underlying156 hi hz0 hz1 hz2 rfl (by decide) _ _ _ rfl (hown.alloc _) ⟨wr.heap.size, 0, none⟩ 1 1 [.bool ((q : Int) % 2 == 1)] rfl rfl (xv0 _ _ _) (xw4 _ rfl) (by unfold maxLen; omega) (by omega) (by have := hs.size; simp; omega) ?_)
    intro v' w1 hown' hgrow _; have hs1 : w.Since w.heap.size w1 := (hs.alloc hs.size _).grown hgrow (by have := hs.size; simp; omega) (fun k hk => (hown.lt k hk).1); rw [HB.out, <- bl_succ] at hown'; clear hgrow hown hs; go_wp2; go_roundw
    case rel => exact ⟨k + 1, q / 2, by omega, by go_num, by omega, hide (by rw [HQ.out, Nat.div_div_eq_div_mul, Nat.pow_succ]), hide (fun _ => by rw [Nat.add_sub_cancel, <- HQ.out]; exact hne), hown', hs1⟩
    case measure => simp [intOf]; omega
def xx5 (X : Nat -> Nat) (n : Nat) (Y : Nat -> Nat) (m : Nat) : Bool := decide (n <= 1 /\ m <= 1 /\ lv X n < 2147483648 /\ lv Y m < 2147483648)
theorem xk2 {X Y : Nat -> Nat} {n m : Nat} : xx5 X n Y m = true ↔ n <= 1 /\ m <= 1 /\ lv X n < 2147483648 /\ lv Y m < 2147483648 := by unfold xx5; exact decide_eq_true_iff
theorem smallB_not {X Y : Nat -> Nat} {n m : Nat} (h : ¬ (n <= 1 /\ m <= 1 /\ lv X n < 2147483648 /\ lv Y m < 2147483648)) : false = xx5 X n Y m := by
 cases e : xx5 X n Y m
 . rfl
 . exact absurd (xk2.1 e) h
theorem xz1 (neg : Bool) (a b : Option Addr) (ba oa n ca bb ob m cb : Nat) (X Y : Nat -> Nat) (w : World) (hn : n <= 16777216) (hm : m <= 16777216)
 (hX : xq2 w a ba oa n X) (hY : xq2 w b bb ob m Y) (hXl : ∀ j, j < n -> X j < 4294967296) (hYl : ∀ j, j < m -> Y j < 4294967296) :
 Calls Tryz.prog 101 #[.agg #[.bool neg, .slice a n ca, .slice b m cb]] w fun e w' => e = .returned (.bool (xx5 X n Y m)) /\ w.Since w.heap.size w' := by
 have sA := sal w (.cells #[.bool neg, .slice a n ca, .slice b m cb] 70)
 by_cases h1 : 1 < n
 . have HR := hide (smallB_not (X := X) (Y := Y) (n := n) (m := m) (by omega))
   go_enter Tryz.func101, Tryz.ntmps101; go_wp2; go_ret; exact ⟨xx2 HR.out, sA⟩
 by_cases h2 : 1 < m
 . have HR := hide (smallB_not (X := X) (Y := Y) (n := n) (m := m) (by omega))
   go_enter Tryz.func101, Tryz.ntmps101; go_wp2; go_ret; exact ⟨xx2 HR.out, sA⟩
 have I1 := xj4 a ba oa n ca X _ (by omega) (hX.keep sA) hXl; have I2 := xj4 b bb ob m cb Y _ (by omega) (hY.keep sA) hYl; have h1 : n <= 1 := by omega
 have h2 : m <= 1 := by omega
 obtain ⟨x, hx⟩ : ∃ x : Int, x = ((lv X n : Nat) : Int) := ⟨_, rfl⟩; obtain ⟨y, hy⟩ : ∃ y : Int, y = ((lv Y m : Nat) : Int) := ⟨_, rfl⟩; rw [<- hx] at I1; rw [<- hy] at I2
 have HR : Hid ((decide (x < 2147483648) && decide (y < 2147483648)) = xx5 X n Y m) := by
  show _ = _
  rw [Bool.eq_iff_iff, Bool.and_eq_true, decide_eq_true_iff, decide_eq_true_iff, xk2]; omega
 clear hX hY hXl hYl hx hy
 by_cases h3 : x < 2147483648
 . have HR : Hid (decide (y < 2147483648) = xx5 X n Y m) := by rw [<- HR.out]; simp [Hid, h3]
   go_enter Tryz.func101, Tryz.ntmps101; go_wp2_with fail; refine I1.mono ?_; rintro e w1 ⟨rfl, rfl⟩; go_wp2_with fail; refine I2.mono ?_; rintro e w1 ⟨rfl, rfl⟩; go_wp2; go_ret; exact ⟨xx2 HR.out, sA⟩
 . have HR : Hid (false = xx5 X n Y m) := by rw [<- HR.out]; simp [Hid, h3]
   go_enter Tryz.func101, Tryz.ntmps101; go_wp2_with fail; refine I1.mono ?_; rintro e w1 ⟨rfl, rfl⟩; go_wp2; go_ret; exact ⟨xx2 HR.out, sA⟩
theorem box3 (w : World) (x y z : Value) (t : TypeId) : (w.alloc (.cells #[x, y, z] t)).cell? ⟨w.heap.size, 0, none⟩ = some x /\ (w.alloc (.cells #[x, y, z] t)).cell? ⟨w.heap.size, 1, none⟩ = some y /\ (w.alloc (.cells #[x, y, z] t)).cell? ⟨w.heap.size, 2, none⟩ = some z := by
 simp [go_sem]
theorem cmpN_one (x : Nat) : (cmpN x 1 == 0) = decide (x = 1) := by
 rw [Bool.eq_iff_iff]; simp only [beq_iff_eq, decide_eq_true_eq]
 constructor
 . intro h
   rcases Nat.lt_trichotomy x 1 with h1 | h1 | h1
   . rw [cmpN_lt h1] at h; cases h
   . exact h1
   . rw [cmpN_gt h1] at h; cases h
 . intro h; exact cmpN_eq h
theorem specRatOk_small_z (neg : Bool) (a b : Option Addr) (ba oa n ca bb ob m cb : Nat) (X Y : Nat -> Nat) (w : World) (hn : n <= 16777216) (hm : m <= 16777216)
 (hX : xq2 w a ba oa n X) (hY : xq2 w b bb ob m Y) (hXl : ∀ j, j < n -> X j < 4294967296) (hYl : ∀ j, j < m -> Y j < 4294967296) (h1 : xv5 X n = true) (h2 : xv5 Y m = true) (h3 : ¬ m = 0) (h4 : ¬ (n = 0 /\ neg = true)) (hs : xx5 X n Y m = true) (h5 : n = 0) :
 Calls Tryz.prog 65 #[.agg #[.bool neg, .slice a n ca, .slice b m cb]] w fun e w' => e = .returned (.bool (xj1 neg X n Y m)) /\ w.Since w.heap.size w' := by
 have sA := sal w (.cells #[.bool neg, .slice a n ca, .slice b m cb] 70); have I1 := xv4 a ba oa n ca X _ hn (hX.keep sA); have I2 := xv4 b bb ob m cb Y _ hm (hY.keep sA); rw [h1] at I1; rw [h2] at I2; have q3 : ((m : Int) == 0) = false := by simp; omega
 have HR := hide (show (decide (Nat.gcd (lv X n) (lv Y m) = 1)) = xj1 neg X n Y m by
  have e3 : (m != 0) = true := by simp [h3]
  have e4 : (neg && n == 0) = false := by cases neg <;> simp at h4 ⊢; exact h4
  rw [Bool.eq_iff_iff]
  simp [xj1, h1, h2, e3, e4])
 obtain ⟨c0, c1, c2⟩ := box3 w (.bool neg) (.slice a n ca) (.slice b m cb) 70; have I3 := xz1 neg a b ba oa n ca bb ob m cb X Y _ hn hm (hX.keep sA) (hY.keep sA) hXl hYl; have HN : Hid (n = 0 -> neg = false) := fun h => by cases neg; rfl; exact absurd ⟨h, rfl⟩ h4
 clear h1 h2 h4; have XA := hX.keep sA; have YA := hY.keep sA; obtain ⟨y1, y2, z3, z4⟩ := xk2.1 hs; have v1 : lv X n < 18446744073709551616 := by omega
 have v2 : lv Y m < 18446744073709551616 := by omega
 have V := hide (And.intro v1 v2); rw [hs] at I3; clear hs z3 z4 v1 v2; have h6 := HN.out h5; subst h5 h6; go_enter Tryz.func65, Tryz.ntmps65; go_wp2_with fail; refine I1.mono ?_; rintro e w1 ⟨rfl, rfl⟩; go_wp2_with fail; refine I2.mono ?_; rintro e w1 ⟨rfl, rfl⟩; clear I1 I2; generalize w.alloc (.cells #[.bool false, .slice a 0 ca, .slice b m cb] 70) = wA at *; go_wp2_with fail; refine I3.mono ?_; rintro e w1 ⟨rfl, s1⟩; clear I3; have zA : w.heap.size < wA.heap.size := World.block_lt_of_cell? _ _ c0; have d1 : w1.cell? ⟨w.heap.size, 1, none⟩ = some (.slice a 0 ca) := (s1.cell (a := ⟨w.heap.size, 1, none⟩) zA).trans c1; have d2 : w1.cell? ⟨w.heap.size, 2, none⟩ = some (.slice b m cb) := (s1.cell (a := ⟨w.heap.size, 2, none⟩) zA).trans c2; have S1 : w.Since w.heap.size w1.drew := by have h := sA.trans (sM s1 sA.size); exact ⟨h.os, h.tape, h.output, h.size, h.block⟩
 have z1 : w.heap.size < w1.drew.heap.size := Nat.lt_of_lt_of_le zA s1.size; have X0 := XA.keep s1; have Y0 := YA.keep s1; have X1 : xq2 w1.drew a ba oa 0 X := X0; have Y1 : xq2 w1.drew b bb ob m Y := Y0; have XL := hide hXl; have YL := hide hYl; clear hXl hYl XA YA s1 c0 c1 c2 X0 Y0; go_wp2; have J1 := xj4 a ba oa 0 ca X w1.drew y1 X1 XL.out; have J2 := xj4 b bb ob m cb Y w1.drew y2 Y1 YL.out; have J3 := yx8 (lv X 0) (lv Y m) w1.drew V.out.1 V.out.2; clear V XL YL X1 Y1; obtain ⟨gg, hgg⟩ : ∃ gg, gg = Nat.gcd (lv X 0) (lv Y m) := ⟨_, rfl⟩; obtain ⟨xx, hxx⟩ : ∃ xx, xx = lv X 0 := ⟨_, rfl⟩; obtain ⟨yy, hyy⟩ : ∃ yy, yy = lv Y m := ⟨_, rfl⟩; have HR : Hid (decide (gg = 1) = xj1 false X 0 Y m) := by rw [hgg]; exact HR.out
 rw [<- hgg, <- hxx, <- hyy] at J3; rw [<- hxx] at J1; rw [<- hyy] at J2; clear hgg hxx hyy
 go_region_held3 (fun w' => w'.cell? ⟨w.heap.size, 1, none⟩ = some (.slice a 0 ca) /\ w'.cell? ⟨w.heap.size, 2, none⟩ = some (.slice b m cb)) (go_keep)
  (first | (go_at_call 102; with_reducible refine J3.mono ?_; rintro e w' ⟨rfl, rfl⟩) | (go_at_call 103; first | (with_reducible refine J1.mono ?_; rintro e w' ⟨rfl, rfl⟩) | (with_reducible refine J2.mono ?_; rintro e w' ⟨rfl, rfl⟩)))
 all_goals go_wp2
 all_goals go_ret
 all_goals exact ⟨xx2 (by rw [<- HR.out, Bool.eq_iff_iff]; simp only [beq_iff_eq, decide_eq_true_eq]; omega), S1⟩
theorem specRatOk_small_n (neg : Bool) (a b : Option Addr) (ba oa n ca bb ob m cb : Nat) (X Y : Nat -> Nat) (w : World) (hn : n <= 16777216) (hm : m <= 16777216)
 (hX : xq2 w a ba oa n X) (hY : xq2 w b bb ob m Y) (hXl : ∀ j, j < n -> X j < 4294967296) (hYl : ∀ j, j < m -> Y j < 4294967296) (h1 : xv5 X n = true) (h2 : xv5 Y m = true) (h3 : ¬ m = 0) (h4 : ¬ (n = 0 /\ neg = true)) (hs : xx5 X n Y m = true) (h5 : ¬ n = 0) :
 Calls Tryz.prog 65 #[.agg #[.bool neg, .slice a n ca, .slice b m cb]] w fun e w' => e = .returned (.bool (xj1 neg X n Y m)) /\ w.Since w.heap.size w' := by
 have sA := sal w (.cells #[.bool neg, .slice a n ca, .slice b m cb] 70); have I1 := xv4 a ba oa n ca X _ hn (hX.keep sA); have I2 := xv4 b bb ob m cb Y _ hm (hY.keep sA); rw [h1] at I1; rw [h2] at I2; have q3 : ((m : Int) == 0) = false := by simp; omega
 have HR := hide (show (decide (Nat.gcd (lv X n) (lv Y m) = 1)) = xj1 neg X n Y m by
  have e3 : (m != 0) = true := by simp [h3]
  have e4 : (neg && n == 0) = false := by cases neg <;> simp at h4 ⊢; exact h4
  rw [Bool.eq_iff_iff]
  simp [xj1, h1, h2, e3, e4])
 obtain ⟨c0, c1, c2⟩ := box3 w (.bool neg) (.slice a n ca) (.slice b m cb) 70; have I3 := xz1 neg a b ba oa n ca bb ob m cb X Y _ hn hm (hX.keep sA) (hY.keep sA) hXl hYl; have HN : Hid (n = 0 -> neg = false) := fun h => by cases neg; rfl; exact absurd ⟨h, rfl⟩ h4
 clear h1 h2 h4; have XA := hX.keep sA; have YA := hY.keep sA; obtain ⟨y1, y2, z3, z4⟩ := xk2.1 hs; have v1 : lv X n < 18446744073709551616 := by omega
 have v2 : lv Y m < 18446744073709551616 := by omega
 have V := hide (And.intro v1 v2); rw [hs] at I3; clear hs z3 z4 v1 v2; go_enter Tryz.func65, Tryz.ntmps65; go_wp2_with fail; refine I1.mono ?_; rintro e w1 ⟨rfl, rfl⟩; go_wp2_with fail; refine I2.mono ?_; rintro e w1 ⟨rfl, rfl⟩; clear I1 I2; generalize w.alloc (.cells #[.bool neg, .slice a n ca, .slice b m cb] 70) = wA at *; have h6 : ((n : Int) == 0) = false := by simp; omega
 go_wp2_with fail; refine I3.mono ?_; rintro e w1 ⟨rfl, s1⟩; clear I3; have zA : w.heap.size < wA.heap.size := World.block_lt_of_cell? _ _ c0; have d1 : w1.cell? ⟨w.heap.size, 1, none⟩ = some (.slice a n ca) := (s1.cell (a := ⟨w.heap.size, 1, none⟩) zA).trans c1; have d2 : w1.cell? ⟨w.heap.size, 2, none⟩ = some (.slice b m cb) := (s1.cell (a := ⟨w.heap.size, 2, none⟩) zA).trans c2; have S1 : w.Since w.heap.size w1.drew := by have h := sA.trans (sM s1 sA.size); exact ⟨h.os, h.tape, h.output, h.size, h.block⟩
 have z1 : w.heap.size < w1.drew.heap.size := Nat.lt_of_lt_of_le zA s1.size; have X0 := XA.keep s1; have Y0 := YA.keep s1; have X1 : xq2 w1.drew a ba oa n X := X0; have Y1 : xq2 w1.drew b bb ob m Y := Y0; have XL := hide hXl; have YL := hide hYl; clear hXl hYl XA YA s1 c0 c1 c2 X0 Y0; go_wp2; have J1 := xj4 a ba oa n ca X w1.drew y1 X1 XL.out; have J2 := xj4 b bb ob m cb Y w1.drew y2 Y1 YL.out; have J3 := yx8 (lv X n) (lv Y m) w1.drew V.out.1 V.out.2; clear V XL YL X1 Y1; obtain ⟨gg, hgg⟩ : ∃ gg, gg = Nat.gcd (lv X n) (lv Y m) := ⟨_, rfl⟩; obtain ⟨xx, hxx⟩ : ∃ xx, xx = lv X n := ⟨_, rfl⟩; obtain ⟨yy, hyy⟩ : ∃ yy, yy = lv Y m := ⟨_, rfl⟩; have HR : Hid (decide (gg = 1) = xj1 neg X n Y m) := by rw [hgg]; exact HR.out
 rw [<- hgg, <- hxx, <- hyy] at J3; rw [<- hxx] at J1; rw [<- hyy] at J2; clear hgg hxx hyy
 go_region_held3 (fun w' => w'.cell? ⟨w.heap.size, 1, none⟩ = some (.slice a n ca) /\ w'.cell? ⟨w.heap.size, 2, none⟩ = some (.slice b m cb)) (go_keep)
  (first | (go_at_call 102; with_reducible refine J3.mono ?_; rintro e w' ⟨rfl, rfl⟩) | (go_at_call 103; first | (with_reducible refine J1.mono ?_; rintro e w' ⟨rfl, rfl⟩) | (with_reducible refine J2.mono ?_; rintro e w' ⟨rfl, rfl⟩)))
 all_goals go_wp2
 all_goals go_ret
 all_goals exact ⟨xx2 (by rw [<- HR.out, Bool.eq_iff_iff]; simp only [beq_iff_eq, decide_eq_true_eq]; omega), S1⟩
theorem specRatOk_big_z (neg : Bool) (a b : Option Addr) (ba oa n ca bb ob m cb : Nat) (X Y : Nat -> Nat) (w : World) (hn : n <= 16777216) (hm : m <= 16777216)
 (hX : xq2 w a ba oa n X) (hY : xq2 w b bb ob m Y) (hXl : ∀ j, j < n -> X j < 4294967296) (hYl : ∀ j, j < m -> Y j < 4294967296) (h1 : xv5 X n = true) (h2 : xv5 Y m = true) (h3 : ¬ m = 0) (h4 : ¬ (n = 0 /\ neg = true)) (hs : ¬ xx5 X n Y m = true) (h5 : n = 0) :
 Calls Tryz.prog 65 #[.agg #[.bool neg, .slice a n ca, .slice b m cb]] w fun e w' => e = .returned (.bool (xj1 neg X n Y m)) /\ w.Since w.heap.size w' := by
 have sA := sal w (.cells #[.bool neg, .slice a n ca, .slice b m cb] 70); have I1 := xv4 a ba oa n ca X _ hn (hX.keep sA); have I2 := xv4 b bb ob m cb Y _ hm (hY.keep sA); rw [h1] at I1; rw [h2] at I2; have q3 : ((m : Int) == 0) = false := by simp; omega
 have HR := hide (show (decide (Nat.gcd (lv X n) (lv Y m) = 1)) = xj1 neg X n Y m by
  have e3 : (m != 0) = true := by simp [h3]
  have e4 : (neg && n == 0) = false := by cases neg <;> simp at h4 ⊢; exact h4
  rw [Bool.eq_iff_iff]
  simp [xj1, h1, h2, e3, e4])
 obtain ⟨c0, c1, c2⟩ := box3 w (.bool neg) (.slice a n ca) (.slice b m cb) 70; have I3 := xz1 neg a b ba oa n ca bb ob m cb X Y _ hn hm (hX.keep sA) (hY.keep sA) hXl hYl; have HN : Hid (n = 0 -> neg = false) := fun h => by cases neg; rfl; exact absurd ⟨h, rfl⟩ h4
 clear h1 h2 h4; have XA := hX.keep sA; have YA := hY.keep sA; rw [show xx5 X n Y m = false by simpa using hs] at I3; clear hs; have h6 := HN.out h5; subst h5 h6; go_enter Tryz.func65, Tryz.ntmps65; go_wp2_with fail; refine I1.mono ?_; rintro e w1 ⟨rfl, rfl⟩; go_wp2_with fail; refine I2.mono ?_; rintro e w1 ⟨rfl, rfl⟩; clear I1 I2; generalize w.alloc (.cells #[.bool false, .slice a 0 ca, .slice b m cb] 70) = wA at *; go_wp2_with fail; refine I3.mono ?_; rintro e w1 ⟨rfl, s1⟩; clear I3; have zA : w.heap.size < wA.heap.size := World.block_lt_of_cell? _ _ c0; have d1 : w1.cell? ⟨w.heap.size, 1, none⟩ = some (.slice a 0 ca) := (s1.cell (a := ⟨w.heap.size, 1, none⟩) zA).trans c1; have d2 : w1.cell? ⟨w.heap.size, 2, none⟩ = some (.slice b m cb) := (s1.cell (a := ⟨w.heap.size, 2, none⟩) zA).trans c2; have S1 : w.Since w.heap.size w1.drew := by have h := sA.trans (sM s1 sA.size); exact ⟨h.os, h.tape, h.output, h.size, h.block⟩
 have z1 : w.heap.size < w1.drew.heap.size := Nat.lt_of_lt_of_le zA s1.size; have X0 := XA.keep s1; have Y0 := YA.keep s1; have X1 : xq2 w1.drew a ba oa 0 X := X0; have Y1 : xq2 w1.drew b bb ob m Y := Y0; have XL := hide hXl; have YL := hide hYl; clear hXl hYl XA YA s1 c0 c1 c2 X0 Y0; go_wp2; have J1 := xj6 a ba oa 0 ca X w1.drew (by omega) X1 XL.out
 go_region_held3 (fun w' => w'.cell? ⟨w.heap.size, 1, none⟩ = some (.slice a 0 ca) /\ w'.cell? ⟨w.heap.size, 2, none⟩ = some (.slice b m cb)) (go_keep)
  (first
    | (go_at_call 106
       first
        | (with_reducible refine J1.mono ?_
           rintro e w2 ⟨a1, g1, m1, t1, B1, rfl, k1, k2, L1, -, p1, e1, s2⟩; have T1 : Tr w2 (.slice a1 m1 t1) m1 B1 := ⟨a1, g1, 0, t1, rfl, k1, L1, p1⟩; have E1 := hide e1; clear L1 p1 e1; have z2 := s2.size; have J2 := xj6 b bb ob m cb Y w2 (by omega) (Y1.keep s2) YL.out; have f1 : w2.cell? ⟨w.heap.size, 1, none⟩ = some (.slice a 0 ca) := (s2.cell (a := ⟨w.heap.size, 1, none⟩) z1).trans d1; have f2 : w2.cell? ⟨w.heap.size, 2, none⟩ = some (.slice b m cb) := (s2.cell (a := ⟨w.heap.size, 2, none⟩) z1).trans d2)
        | (with_reducible refine J2.mono ?_
           rintro e w3 ⟨a2, g2, m2, t2, B2, rfl, q1, q2, L2, -, p2, e2, s3⟩; have T2 : Tr w3 (.slice a2 m2 t2) m2 B2 := ⟨a2, g2, 0, t2, rfl, q1, L2, p2⟩; have E2 := hide e2; clear L2 p2 e2; have T1' := T1.keep s3; have J3 := yv9 _ _ m1 m2 B1 B2 w3 (by omega) (by omega) T1' T2; have S3 := (S1.trans (sM s2 S1.size)).trans (sM s3 (Nat.le_trans S1.size s2.size)); have f3 : w3.cell? ⟨w.heap.size, 1, none⟩ = some (.slice a 0 ca) := (s3.cell (a := ⟨w.heap.size, 1, none⟩) (Nat.lt_of_lt_of_le z1 z2)).trans f1; have f4 : w3.cell? ⟨w.heap.size, 2, none⟩ = some (.slice b m cb) := (s3.cell (a := ⟨w.heap.size, 2, none⟩) (Nat.lt_of_lt_of_le z1 z2)).trans f2; have z3 := s3.size))
    | (go_at_call 105
       with_reducible refine J3.mono ?_
       rintro e w4 ⟨v, t, O, rfl, ht, T3, e3, s4⟩; have E3 := hide e3; have J4 : Calls Tryz.prog 107 #[.int .u64 1] w4 _ := l1BitsOf_any 1 w4 (by omega); clear e3; have f5 : w4.cell? ⟨w.heap.size, 1, none⟩ = some (.slice a 0 ca) := (s4.cell (a := ⟨w.heap.size, 1, none⟩) (Nat.lt_of_lt_of_le z1 (Nat.le_trans z2 z3))).trans f3; have f6 : w4.cell? ⟨w.heap.size, 2, none⟩ = some (.slice b m cb) := (s4.cell (a := ⟨w.heap.size, 2, none⟩) (Nat.lt_of_lt_of_le z1 (Nat.le_trans z2 z3))).trans f4; have z4 := s4.size)
    | (go_at_call 107
       with_reducible refine J4.mono ?_
       rintro e w5 ⟨x, t5, B5, rfl, ht5, T5, e5, s5⟩; have E5 := hide e5; clear e5; obtain ⟨a3, b3, o3, c3, rfl, -, L3, p3⟩ := T3.keep s5; obtain ⟨a5, b5, o5, c5, rfl, -, L5, p5⟩ := T5; have S5 := (S3.trans (sM s4 S3.size)).trans (sM s5 (Nat.le_trans S3.size s4.size)); have f7 : w5.cell? ⟨w.heap.size, 1, none⟩ = some (.slice a 0 ca) := (s5.cell (a := ⟨w.heap.size, 1, none⟩) (Nat.lt_of_lt_of_le z1 (Nat.le_trans (Nat.le_trans z2 z3) z4))).trans f5; have f8 : w5.cell? ⟨w.heap.size, 2, none⟩ = some (.slice b m cb) := (s5.cell (a := ⟨w.heap.size, 2, none⟩) (Nat.lt_of_lt_of_le z1 (Nat.le_trans (Nat.le_trans z2 z3) z4))).trans f6; have J := xw8 a3 a5 b3 o3 t c3 b5 o5 t5 c5 O B5 w5 (by omega) (by omega) L3 L5 p3 p5; rw [E5.out, E3.out, E1.out, E2.out] at J; clear T3 L3 L5 p3 p5)
    | (go_at_call 104
       with_reducible refine J.mono ?_
       rintro e w6 ⟨rfl, s6⟩; have f9 : w6.cell? ⟨w.heap.size, 1, none⟩ = some (.slice a 0 ca) := by rw [s6.cell]; exact f7
       have f10 : w6.cell? ⟨w.heap.size, 2, none⟩ = some (.slice b m cb) := by rw [s6.cell]; exact f8))
 all_goals go_wp2
 all_goals go_ret
 all_goals exact ⟨xx2 ((cmpN_one (Nat.gcd (lv X 0) (lv Y m))).trans HR.out), S5.trans (s6.since _)⟩
theorem specRatOk_big_n (neg : Bool) (a b : Option Addr) (ba oa n ca bb ob m cb : Nat) (X Y : Nat -> Nat) (w : World) (hn : n <= 16777216) (hm : m <= 16777216)
 (hX : xq2 w a ba oa n X) (hY : xq2 w b bb ob m Y) (hXl : ∀ j, j < n -> X j < 4294967296) (hYl : ∀ j, j < m -> Y j < 4294967296) (h1 : xv5 X n = true) (h2 : xv5 Y m = true) (h3 : ¬ m = 0) (h4 : ¬ (n = 0 /\ neg = true)) (hs : ¬ xx5 X n Y m = true) (h5 : ¬ n = 0) :
 Calls Tryz.prog 65 #[.agg #[.bool neg, .slice a n ca, .slice b m cb]] w fun e w' => e = .returned (.bool (xj1 neg X n Y m)) /\ w.Since w.heap.size w' := by
 have sA := sal w (.cells #[.bool neg, .slice a n ca, .slice b m cb] 70); have I1 := xv4 a ba oa n ca X _ hn (hX.keep sA); have I2 := xv4 b bb ob m cb Y _ hm (hY.keep sA); rw [h1] at I1; rw [h2] at I2; have q3 : ((m : Int) == 0) = false := by simp; omega
 have HR := hide (show (decide (Nat.gcd (lv X n) (lv Y m) = 1)) = xj1 neg X n Y m by
  have e3 : (m != 0) = true := by simp [h3]
  have e4 : (neg && n == 0) = false := by cases neg <;> simp at h4 ⊢; exact h4
  rw [Bool.eq_iff_iff]
  simp [xj1, h1, h2, e3, e4])
 obtain ⟨c0, c1, c2⟩ := box3 w (.bool neg) (.slice a n ca) (.slice b m cb) 70; have I3 := xz1 neg a b ba oa n ca bb ob m cb X Y _ hn hm (hX.keep sA) (hY.keep sA) hXl hYl; have HN : Hid (n = 0 -> neg = false) := fun h => by cases neg; rfl; exact absurd ⟨h, rfl⟩ h4
 clear h1 h2 h4; have XA := hX.keep sA; have YA := hY.keep sA; rw [show xx5 X n Y m = false by simpa using hs] at I3; clear hs; go_enter Tryz.func65, Tryz.ntmps65; go_wp2_with fail; refine I1.mono ?_; rintro e w1 ⟨rfl, rfl⟩; go_wp2_with fail; refine I2.mono ?_; rintro e w1 ⟨rfl, rfl⟩; clear I1 I2; generalize w.alloc (.cells #[.bool neg, .slice a n ca, .slice b m cb] 70) = wA at *; have h6 : ((n : Int) == 0) = false := by simp; omega
 go_wp2_with fail; refine I3.mono ?_; rintro e w1 ⟨rfl, s1⟩; clear I3; have zA : w.heap.size < wA.heap.size := World.block_lt_of_cell? _ _ c0; have d1 : w1.cell? ⟨w.heap.size, 1, none⟩ = some (.slice a n ca) := (s1.cell (a := ⟨w.heap.size, 1, none⟩) zA).trans c1; have d2 : w1.cell? ⟨w.heap.size, 2, none⟩ = some (.slice b m cb) := (s1.cell (a := ⟨w.heap.size, 2, none⟩) zA).trans c2; have S1 : w.Since w.heap.size w1.drew := by have h := sA.trans (sM s1 sA.size); exact ⟨h.os, h.tape, h.output, h.size, h.block⟩
 have z1 : w.heap.size < w1.drew.heap.size := Nat.lt_of_lt_of_le zA s1.size; have X0 := XA.keep s1; have Y0 := YA.keep s1; have X1 : xq2 w1.drew a ba oa n X := X0; have Y1 : xq2 w1.drew b bb ob m Y := Y0; have XL := hide hXl; have YL := hide hYl; clear hXl hYl XA YA s1 c0 c1 c2 X0 Y0; go_wp2; have J1 := xj6 a ba oa n ca X w1.drew (by omega) X1 XL.out
 go_region_held3 (fun w' => w'.cell? ⟨w.heap.size, 1, none⟩ = some (.slice a n ca) /\ w'.cell? ⟨w.heap.size, 2, none⟩ = some (.slice b m cb)) (go_keep)
  (first
    | (go_at_call 106
       first
        | (with_reducible refine J1.mono ?_
           rintro e w2 ⟨a1, g1, m1, t1, B1, rfl, k1, k2, L1, -, p1, e1, s2⟩; have T1 : Tr w2 (.slice a1 m1 t1) m1 B1 := ⟨a1, g1, 0, t1, rfl, k1, L1, p1⟩; have E1 := hide e1; clear L1 p1 e1; have z2 := s2.size; have J2 := xj6 b bb ob m cb Y w2 (by omega) (Y1.keep s2) YL.out; have f1 : w2.cell? ⟨w.heap.size, 1, none⟩ = some (.slice a n ca) := (s2.cell (a := ⟨w.heap.size, 1, none⟩) z1).trans d1; have f2 : w2.cell? ⟨w.heap.size, 2, none⟩ = some (.slice b m cb) := (s2.cell (a := ⟨w.heap.size, 2, none⟩) z1).trans d2)
        | (with_reducible refine J2.mono ?_
           rintro e w3 ⟨a2, g2, m2, t2, B2, rfl, q1, q2, L2, -, p2, e2, s3⟩; have T2 : Tr w3 (.slice a2 m2 t2) m2 B2 := ⟨a2, g2, 0, t2, rfl, q1, L2, p2⟩; have E2 := hide e2; clear L2 p2 e2; have T1' := T1.keep s3; have J3 := yv9 _ _ m1 m2 B1 B2 w3 (by omega) (by omega) T1' T2; have S3 := (S1.trans (sM s2 S1.size)).trans (sM s3 (Nat.le_trans S1.size s2.size)); have f3 : w3.cell? ⟨w.heap.size, 1, none⟩ = some (.slice a n ca) := (s3.cell (a := ⟨w.heap.size, 1, none⟩) (Nat.lt_of_lt_of_le z1 z2)).trans f1; have f4 : w3.cell? ⟨w.heap.size, 2, none⟩ = some (.slice b m cb) := (s3.cell (a := ⟨w.heap.size, 2, none⟩) (Nat.lt_of_lt_of_le z1 z2)).trans f2; have z3 := s3.size))
    | (go_at_call 105
       with_reducible refine J3.mono ?_
       rintro e w4 ⟨v, t, O, rfl, ht, T3, e3, s4⟩; have E3 := hide e3; have J4 : Calls Tryz.prog 107 #[.int .u64 1] w4 _ := l1BitsOf_any 1 w4 (by omega); clear e3; have f5 : w4.cell? ⟨w.heap.size, 1, none⟩ = some (.slice a n ca) := (s4.cell (a := ⟨w.heap.size, 1, none⟩) (Nat.lt_of_lt_of_le z1 (Nat.le_trans z2 z3))).trans f3; have f6 : w4.cell? ⟨w.heap.size, 2, none⟩ = some (.slice b m cb) := (s4.cell (a := ⟨w.heap.size, 2, none⟩) (Nat.lt_of_lt_of_le z1 (Nat.le_trans z2 z3))).trans f4; have z4 := s4.size)
    | (go_at_call 107
       with_reducible refine J4.mono ?_
       rintro e w5 ⟨x, t5, B5, rfl, ht5, T5, e5, s5⟩; have E5 := hide e5; clear e5; obtain ⟨a3, b3, o3, c3, rfl, -, L3, p3⟩ := T3.keep s5; obtain ⟨a5, b5, o5, c5, rfl, -, L5, p5⟩ := T5; have S5 := (S3.trans (sM s4 S3.size)).trans (sM s5 (Nat.le_trans S3.size s4.size)); have f7 : w5.cell? ⟨w.heap.size, 1, none⟩ = some (.slice a n ca) := (s5.cell (a := ⟨w.heap.size, 1, none⟩) (Nat.lt_of_lt_of_le z1 (Nat.le_trans (Nat.le_trans z2 z3) z4))).trans f5; have f8 : w5.cell? ⟨w.heap.size, 2, none⟩ = some (.slice b m cb) := (s5.cell (a := ⟨w.heap.size, 2, none⟩) (Nat.lt_of_lt_of_le z1 (Nat.le_trans (Nat.le_trans z2 z3) z4))).trans f6; have J := xw8 a3 a5 b3 o3 t c3 b5 o5 t5 c5 O B5 w5 (by omega) (by omega) L3 L5 p3 p5; rw [E5.out, E3.out, E1.out, E2.out] at J; clear T3 L3 L5 p3 p5)
    | (go_at_call 104
       with_reducible refine J.mono ?_
       rintro e w6 ⟨rfl, s6⟩; have f9 : w6.cell? ⟨w.heap.size, 1, none⟩ = some (.slice a n ca) := by rw [s6.cell]; exact f7
       have f10 : w6.cell? ⟨w.heap.size, 2, none⟩ = some (.slice b m cb) := by rw [s6.cell]; exact f8))
 all_goals go_wp2
 all_goals go_ret
 all_goals exact ⟨xx2 ((cmpN_one (Nat.gcd (lv X n) (lv Y m))).trans HR.out), S5.trans (s6.since _)⟩
theorem specRatOk_any (neg : Bool) (a b : Option Addr) (ba oa n ca bb ob m cb : Nat) (X Y : Nat -> Nat) (w : World) (hn : n <= 16777216) (hm : m <= 16777216)
 (hX : xq2 w a ba oa n X) (hY : xq2 w b bb ob m Y) (hXl : ∀ j, j < n -> X j < 4294967296) (hYl : ∀ j, j < m -> Y j < 4294967296) :
 Calls Tryz.prog 65 #[.agg #[.bool neg, .slice a n ca, .slice b m cb]] w fun e w' => e = .returned (.bool (xj1 neg X n Y m)) /\ w.Since w.heap.size w' := by
 have sA := sal w (.cells #[.bool neg, .slice a n ca, .slice b m cb] 70); have I1 := xv4 a ba oa n ca X _ hn (hX.keep sA); have I2 := xv4 b bb ob m cb Y _ hm (hY.keep sA)
 by_cases h1 : xv5 X n = false
 . have HR := hide (show false = xj1 neg X n Y m by simp [xj1, h1])
   rw [h1] at I1; clear h1; go_enter Tryz.func65, Tryz.ntmps65; go_wp2_with fail; refine I1.mono ?_; rintro e w1 ⟨rfl, rfl⟩; go_wp2; go_ret; exact ⟨xx2 HR.out, sA⟩
 have h1 : xv5 X n = true := by simpa using h1
 rw [h1] at I1
 by_cases h2 : xv5 Y m = false
 . have HR := hide (show false = xj1 neg X n Y m by simp [xj1, h2])
   rw [h2] at I2; clear h1 h2; go_enter Tryz.func65, Tryz.ntmps65; go_wp2_with fail; refine I1.mono ?_; rintro e w1 ⟨rfl, rfl⟩; go_wp2_with fail; refine I2.mono ?_; rintro e w1 ⟨rfl, rfl⟩; go_wp2; go_ret; exact ⟨xx2 HR.out, sA⟩
 have h2 : xv5 Y m = true := by simpa using h2
 rw [h2] at I2
 by_cases h3 : m = 0
 . have HR := hide (show false = xj1 neg X n Y m by simp [xj1, h3])
   clear h1 h2; subst h3; go_enter Tryz.func65, Tryz.ntmps65; go_wp2_with fail; refine I1.mono ?_; rintro e w1 ⟨rfl, rfl⟩; go_wp2_with fail; refine I2.mono ?_; rintro e w1 ⟨rfl, rfl⟩; go_wp2; go_ret; exact ⟨xx2 HR.out, sA⟩
 have q3 : ((m : Int) == 0) = false := by simp; omega
 by_cases h4 : n = 0 /\ neg = true
 . obtain ⟨rfl, rfl⟩ := h4
   have HR := hide (show false = xj1 true X 0 Y m by simp [xj1]); clear h1 h2; go_enter Tryz.func65, Tryz.ntmps65; go_wp2_with fail; refine I1.mono ?_; rintro e w1 ⟨rfl, rfl⟩; go_wp2_with fail; refine I2.mono ?_; rintro e w1 ⟨rfl, rfl⟩; go_wp2; go_ret; exact ⟨xx2 HR.out, sA⟩
 by_cases hs : xx5 X n Y m = true
 . by_cases h5 : n = 0
   . exact specRatOk_small_z neg a b ba oa n ca bb ob m cb X Y w hn hm hX hY hXl hYl h1 h2 h3 h4 hs h5
   . exact specRatOk_small_n neg a b ba oa n ca bb ob m cb X Y w hn hm hX hY hXl hYl h1 h2 h3 h4 hs h5
 . by_cases h5 : n = 0
   . exact specRatOk_big_z neg a b ba oa n ca bb ob m cb X Y w hn hm hX hY hXl hYl h1 h2 h3 h4 hs h5
   . exact specRatOk_big_n neg a b ba oa n ca bb ob m cb X Y w hn hm hX hY hXl hYl h1 h2 h3 h4 hs h5
theorem szU_ok (a : Option Addr) (n cap L : Nat) (w : World) (hL : L <= 16777216) (hn : n <= L) :
 Calls Tryz.prog 62 #[.slice a n cap, .int .i64 L] w fun e w' => e = .returned (.int .i64 ((L - n : Nat) : Int)) /\ w' = w := by
 have h : (L : Int) - n = ((L - n : Nat) : Int) := by omega
 have H := hide h; clear h; go_enter Tryz.func62, Tryz.ntmps62; go_wp2; go_ret; exact ⟨xq7 H.out, rfl⟩
theorem szU_no (a : Option Addr) (n cap L : Nat) (w : World) (hL : L <= 16777216) (hn : L < n) (hm : n <= 9223372036854775807) :
 Calls Tryz.prog 62 #[.slice a n cap, .int .i64 L] w fun e w' => e = .returned (.int .i64 (-1)) /\ w' = w := by
 go_enter Tryz.func62, Tryz.ntmps62; go_wp2; go_ret; exact ⟨rfl, rfl⟩
theorem szRat_ok (neg : Bool) (a b : Option Addr) (n ca m cb L : Nat) (w : World) (hL : L <= 16777216) (hn : n + m <= L) :
 Calls Tryz.prog 29 #[.agg #[.bool neg, .slice a n ca, .slice b m cb], .int .i64 L] w fun e w' => e = .returned (.int .i64 ((L - n - m : Nat) : Int)) /\ w.Since w.heap.size w' := by
 have sA := sal w (.cells #[.bool neg, .slice a n ca, .slice b m cb] 63); go_enter Tryz.func29, Tryz.ntmps29; go_wp2_with fail; refine (szU_ok a n ca L _ hL (by omega)).mono ?_; rintro e w1 ⟨rfl, rfl⟩; go_wp2_with fail; refine (szU_ok b m cb (L - n) _ (by omega) (by omega)).mono ?_; rintro e w1 ⟨rfl, rfl⟩; go_wp2; go_ret; exact ⟨rfl, sA⟩
theorem szRat_no (neg : Bool) (a b : Option Addr) (n ca m cb L : Nat) (w : World) (hL : L <= 16777216) (hn : L < n + m) (hn1 : n <= 9223372036854775807) (hm : m <= 9223372036854775807) :
 Calls Tryz.prog 29 #[.agg #[.bool neg, .slice a n ca, .slice b m cb], .int .i64 L] w fun e w' => e = .returned (.int .i64 (-1)) /\ w.Since w.heap.size w' := by
 have sA := sal w (.cells #[.bool neg, .slice a n ca, .slice b m cb] 63)
 by_cases h : L < n
 . go_enter Tryz.func29, Tryz.ntmps29
   go_wp2_with fail; refine (szU_no a n ca L _ hL h hn1).mono ?_; rintro e w1 ⟨rfl, rfl⟩; go_wp2; go_ret; exact ⟨rfl, sA⟩
 . go_enter Tryz.func29, Tryz.ntmps29
   go_wp2_with fail; refine (szU_ok a n ca L _ hL (by omega)).mono ?_; rintro e w1 ⟨rfl, rfl⟩; go_wp2_with fail; refine (szU_no b m cb (L - n) _ (by omega) (by omega) hm).mono ?_; rintro e w1 ⟨rfl, rfl⟩; go_wp2; go_ret; exact ⟨rfl, sA⟩
theorem toRat_any (neg : Bool) (a b : Option Addr) (ba oa n ca bb ob m cb : Nat) (X Y : Nat -> Nat) (w : World) (hn : n <= 16777216) (hm : m <= 16777216) (hX : xq2 w a ba oa n X) (hY : xq2 w b bb ob m Y) :
 Calls Tryz.prog 34 #[.agg #[.bool neg, .slice a n ca, .slice b m cb]] w fun e w' => ∃ g h, e = .returned (.agg #[.bool neg, .slice (some ⟨g, 0, none⟩) n n, .slice (some ⟨h, 0, none⟩) m m]) /\ w.Since w.heap.size w' /\ w.heap.size <= g /\ g < h /\
  h < w'.heap.size /\ xq2 w' (some ⟨g, 0, none⟩) g 0 n X /\ xq2 w' (some ⟨h, 0, none⟩) h 0 m Y /\ (∀ o, w'.frozen? ⟨g, o, none⟩ = false) /\ (∀ o, w'.frozen? ⟨h, o, none⟩ = false) := by
 have sA : w.Since w.heap.size (((w.alloc (.cells #[.bool neg, .slice a n ca, .slice b m cb] 63)).alloc (.cells #[.bool false, .slice none 0 0, .slice none 0 0] 70)).alloc (.cells #[.bool neg, .slice none 0 0, .slice none 0 0] 70)) :=
  (((World.Since.refl _ _).alloc (Nat.le_refl _) _).alloc (by simp) _).alloc (by simp; omega) _
 have zA : (((w.alloc (.cells #[.bool neg, .slice a n ca, .slice b m cb] 63)).alloc (.cells #[.bool false, .slice none 0 0, .slice none 0 0] 70)).alloc (.cells #[.bool neg, .slice none 0 0, .slice none 0 0] 70)).heap.size = w.heap.size + 1 + 1 + 1 := by simp
 have bA : Box3 (((w.alloc (.cells #[.bool neg, .slice a n ca, .slice b m cb] 63)).alloc (.cells #[.bool false, .slice none 0 0, .slice none 0 0] 70)).alloc (.cells #[.bool neg, .slice none 0 0, .slice none 0 0] 70)) w.heap.size (.bool neg) (.slice a n ca) (.slice b m cb) := ((Box3.new w _ _ _ _).keep ((World.Since.refl _ _).alloc (Nat.le_refl _) _)).keep ((World.Since.refl _ _).alloc (Nat.le_refl _) _)
 have rA : Box3 (((w.alloc (.cells #[.bool neg, .slice a n ca, .slice b m cb] 63)).alloc (.cells #[.bool false, .slice none 0 0, .slice none 0 0] 70)).alloc (.cells #[.bool neg, .slice none 0 0, .slice none 0 0] 70)) (w.heap.size + 1) (.bool false) (.slice none 0 0) (.slice none 0 0) := by
  have := (Box3.new (w.alloc (.cells #[.bool neg, .slice a n ca, .slice b m cb] 63)) (.bool false) (.slice none 0 0) (.slice none 0 0) 70).keep ((World.Since.refl _ _).alloc (Nat.le_refl _) (.cells #[.bool neg, .slice none 0 0, .slice none 0 0] 70))
  simpa using this
 have oA : Box3 (((w.alloc (.cells #[.bool neg, .slice a n ca, .slice b m cb] 63)).alloc (.cells #[.bool false, .slice none 0 0, .slice none 0 0] 70)).alloc (.cells #[.bool neg, .slice none 0 0, .slice none 0 0] 70)) (w.heap.size + 1 + 1) (.bool neg) (.slice none 0 0) (.slice none 0 0) := by
  have := Box3.new ((w.alloc (.cells #[.bool neg, .slice a n ca, .slice b m cb] 63)).alloc (.cells #[.bool false, .slice none 0 0, .slice none 0 0] 70)) (.bool neg) (.slice none 0 0) (.slice none 0 0) 70
  simpa using this
 go_enter Tryz.func34, Tryz.ntmps34; go_wp2_with fail; generalize (((w.alloc (.cells #[.bool neg, .slice a n ca, .slice b m cb] 63)).alloc (.cells #[.bool false, .slice none 0 0, .slice none 0 0] 70)).alloc (.cells #[.bool neg, .slice none 0 0, .slice none 0 0] 70)) = wA at *; refine (to_any a ba oa n ca X wA hn (hX.keep sA)).mono ?_; rintro e w1 ⟨rfl, s1, r1⟩; have z1 := s1.size; have b1 := bA.keep s1; have q1 := rA.keep s1; have o1 := oA.keep s1; have S1 := sA.trans (sM s1 sA.size); have L1 := xz9 r1; have F1 : ∀ o, w1.frozen? ⟨wA.heap.size, o, none⟩ = false := fun o => r1.frozen o
 have t1 : wA.heap.size < w1.heap.size := r1.lt; rw [zA] at L1 F1 t1; clear r1 bA rA oA; have k1 := b1.c2; have k2 := o1.c1; have k3 := o1.f 1; go_wp2_with fail; clear k1 k2 k3; have M2 : xq0 w1 (w1.setCell ⟨w.heap.size + 1 + 1, 1, none⟩ (.slice (some ⟨w.heap.size + 1 + 1 + 1, 0, none⟩) n n)) (w.heap.size + 1 + 1) := (xq0.refl w1 _).setCell _ _; have o2 := o1.set1 (.slice (some ⟨w.heap.size + 1 + 1 + 1, 0, none⟩) n n); have q2 := q1.marked M2 (by omega); have S2 : w.Since w.heap.size (w1.setCell ⟨w.heap.size + 1 + 1, 1, none⟩ (.slice (some ⟨w.heap.size + 1 + 1 + 1, 0, none⟩) n n)) := S1.trans (M2.since (by omega)); have L2 := L1.marked M2 (fun _ => by omega); have F2 : ∀ o, (w1.setCell ⟨w.heap.size + 1 + 1, 1, none⟩ (.slice (some ⟨w.heap.size + 1 + 1 + 1, 0, none⟩) n n)).frozen? ⟨w.heap.size + 1 + 1 + 1, o, none⟩ = false := fun o => by rw [M2.frozenO (a := ⟨w.heap.size + 1 + 1 + 1, o, none⟩) (by show w.heap.size + 1 + 1 + 1 ≠ _; omega)]; exact F1 o
 have z2 := M2.size; generalize w1.setCell ⟨w.heap.size + 1 + 1, 1, none⟩ (.slice (some ⟨w.heap.size + 1 + 1 + 1, 0, none⟩) n n) = w2 at *; refine (to_any b bb ob m cb Y w2 hm (hY.keep S2)).mono ?_; rintro e w3 ⟨rfl, s3, r3⟩; have z3 := s3.size; have q3 := q2.keep s3; have o3 := o2.keep s3; have S3 := S2.trans (sM s3 S2.size); have L3 := L2.keep s3; have F3 : ∀ o, w3.frozen? ⟨w.heap.size + 1 + 1 + 1, o, none⟩ = false := fun o => by rw [s3.frozen (a := ⟨w.heap.size + 1 + 1 + 1, o, none⟩) (by show w.heap.size + 1 + 1 + 1 < _; omega)]; exact F2 o
 have K3 := xz9 r3; have G3 : ∀ o, w3.frozen? ⟨w2.heap.size, o, none⟩ = false := fun o => r3.frozen o
 have t3 : w2.heap.size < w3.heap.size := r3.lt; clear r3 L1 L2 F1 F2 b1 q1 o1 q2 o2; have q30 := q3.c0; have q31 := q3.c1; have q32 := q3.c2; have q3f0 := q3.f 0; have q3f1 := q3.f 1; have q3f2 := q3.f 2; have o30 := o3.c0; have o31 := o3.c1; have o32 := o3.c2; have o3f2 := o3.f 2; have M4 : xq0 w3 (w3.setCell ⟨w.heap.size + 1 + 1, 2, none⟩ (.slice (some ⟨w1.heap.size, 0, none⟩) m m)) (w.heap.size + 1 + 1) := (xq0.refl w3 _).setCell _ _; rw [z2] at K3 G3 t3; go_wp2; have q4 := (((q3.marked M4 (by omega)).set0 (.bool neg)).set1 (.slice (some ⟨w.heap.size + 1 + 1 + 1, 0, none⟩) n n)).set2 (.slice (some ⟨w1.heap.size, 0, none⟩) m m); refine bodyPost_ret (rb3 rfl _ _ _ _ _ _ rfl q4) rfl ?_; have M5 : xq0 (w3.setCell ⟨w.heap.size + 1 + 1, 2, none⟩ (.slice (some ⟨w1.heap.size, 0, none⟩) m m)) _ (w.heap.size + 1) := (((xq0.refl _ _).setCell 0 (.bool neg)).setCell 1 (.slice (some ⟨w.heap.size + 1 + 1 + 1, 0, none⟩) n n)).setCell 2 (.slice (some ⟨w1.heap.size, 0, none⟩) m m)
 refine ⟨w.heap.size + 1 + 1 + 1, w1.heap.size, rfl, (S3.trans (M4.since (by omega))).trans (M5.since (by omega)), by omega, by omega, by rw [M5.size, M4.size]; omega,
  (L3.marked M4 (fun _ => by omega)).marked M5 (fun _ => by omega), (K3.marked M4 (fun _ => by omega)).marked M5 (fun _ => by omega), fun o => ?_, fun o => ?_⟩
 . rw [M5.frozenO (a := ⟨w.heap.size + 1 + 1 + 1, o, none⟩) (by show w.heap.size + 1 + 1 + 1 ≠ _; omega), M4.frozenO (a := ⟨w.heap.size + 1 + 1 + 1, o, none⟩) (by show w.heap.size + 1 + 1 + 1 ≠ _; omega)]; exact F3 o
 . rw [M5.frozenO (a := ⟨w1.heap.size, o, none⟩) (by show w1.heap.size ≠ _; omega), M4.frozenO (a := ⟨w1.heap.size, o, none⟩) (by show w1.heap.size ≠ _; omega)]; exact G3 o
theorem eqRat_true (neg : Bool) (a a' b b' : Option Addr) (ba oa ba' oa' n ca ca' bb ob bb' ob' m cb cb' : Nat) (X Y : Nat -> Nat) (w : World) (hn : n <= 67108864) (hm : m <= 67108864)
 (hX : xq2 w a ba oa n X) (hX' : xq2 w a' ba' oa' n X) (hY : xq2 w b bb ob m Y) (hY' : xq2 w b' bb' ob' m Y) :
 Calls Tryz.prog 40 #[.agg #[.bool neg, .slice a n ca, .slice b m cb], .agg #[.bool neg, .slice a' n ca', .slice b' m cb']] w fun e w' => e = .returned (.bool true) /\ w.Since w.heap.size w' := by
 have sA : w.Since w.heap.size ((w.alloc (.cells #[.bool neg, .slice a n ca, .slice b m cb] 70)).alloc (.cells #[.bool neg, .slice a' n ca', .slice b' m cb'] 70)) := ((World.Since.refl _ _).alloc (Nat.le_refl _) _).alloc (by simp) _; have bA : Box3 ((w.alloc (.cells #[.bool neg, .slice a n ca, .slice b m cb] 70)).alloc (.cells #[.bool neg, .slice a' n ca', .slice b' m cb'] 70)) w.heap.size (.bool neg) (.slice a n ca) (.slice b m cb) := (Box3.new w _ _ _ _).keep ((World.Since.refl _ _).alloc (Nat.le_refl _) _)
 have cA : Box3 ((w.alloc (.cells #[.bool neg, .slice a n ca, .slice b m cb] 70)).alloc (.cells #[.bool neg, .slice a' n ca', .slice b' m cb'] 70)) (w.heap.size + 1) (.bool neg) (.slice a' n ca') (.slice b' m cb') := by
  have := Box3.new (w.alloc (.cells #[.bool neg, .slice a n ca, .slice b m cb] 70)) (.bool neg) (.slice a' n ca') (.slice b' m cb') 70
  simpa using this
 go_enter Tryz.func40, Tryz.ntmps40; go_wp2_with fail; generalize ((w.alloc (.cells #[.bool neg, .slice a n ca, .slice b m cb] 70)).alloc (.cells #[.bool neg, .slice a' n ca', .slice b' m cb'] 70)) = wA at *; refine (eq_true a a' ba oa ba' oa' n ca ca' X wA hn (hX.keep sA) (hX'.keep sA)).mono ?_; rintro e w1 ⟨rfl, s1⟩; have S1 := s1.since wA.heap.size; have k1 := (bA.keep S1).c2; have k2 := (cA.keep S1).c2; go_wp2_with fail; refine (eq_true b b' bb ob bb' ob' m cb cb' Y w1 hm ((hY.keep sA).keep S1) ((hY'.keep sA).keep S1)).mono ?_; rintro e w2 ⟨rfl, s2⟩; go_wp2; go_ret; exact ⟨rfl, (sA.trans (sM S1 sA.size)).trans (s2.since _)⟩
structure RatD where
 neg : Bool
 n : Nat
 X : Nat -> Nat
 m : Nat
 Y : Nat -> Nat
def RatD.nul : RatD := ⟨false, 0, fun _ => 0, 0, fun _ => 0⟩
def RatD.ok (r : RatD) : Bool := xj1 r.neg r.X r.n r.Y r.m
structure RatL (w : World) (lo : Nat) (r : RatD) (a b : Option Addr) (ca cb : Nat) : Prop where
 nc : r.n <= ca
 mc : r.m <= cb
 ac : a = none -> ca = 0
 bc : b = none -> cb = 0
 LX : ∃ ba oa, (0 < r.n -> lo <= ba) /\ xq2 w a ba oa r.n r.X
 LY : ∃ bb ob, (0 < r.m -> lo <= bb) /\ xq2 w b bb ob r.m r.Y
 lX : ∀ j, j < r.n -> r.X j < 4294967296
 lY : ∀ j, j < r.m -> r.Y j < 4294967296
 n63 : r.n <= 9223372036854775807
 m63 : r.m <= 9223372036854775807
section
variable {w w' : World} {lo lo' b off n c : Nat} {r : RatD} {a a1 a2 : Option Addr} {k1 k2 : Nat} {R : Nat -> RatD}
theorem RatL.keep (h : RatL w lo r a1 a2 k1 k2) (s : w.Since w.heap.size w') : RatL w' lo r a1 a2 k1 k2 := by
 obtain ⟨ba, oa, l1, LX⟩ := h.LX; obtain ⟨bb, ob, l2, LY⟩ := h.LY; exact ⟨h.nc, h.mc, h.ac, h.bc, ⟨ba, oa, l1, LX.keep s⟩, ⟨bb, ob, l2, LY.keep s⟩, h.lX, h.lY, h.n63, h.m63⟩
theorem RatL.down (h : RatL w lo r a1 a2 k1 k2) (hl : lo' <= lo) : RatL w lo' r a1 a2 k1 k2 := by
 obtain ⟨ba, oa, l1, LX⟩ := h.LX; obtain ⟨bb, ob, l2, LY⟩ := h.LY; exact ⟨h.nc, h.mc, h.ac, h.bc, ⟨ba, oa, fun h => Nat.le_trans hl (l1 h), LX⟩, ⟨bb, ob, fun h => Nat.le_trans hl (l2 h), LY⟩, h.lX, h.lY, h.n63, h.m63⟩
theorem RatL.marked (h : RatL w lo r a1 a2 k1 k2) (s : xq0 w w' c) (hc : c < lo) : RatL w' lo r a1 a2 k1 k2 := by
 obtain ⟨ba, oa, l1, LX⟩ := h.LX; obtain ⟨bb, ob, l2, LY⟩ := h.LY; exact ⟨h.nc, h.mc, h.ac, h.bc, ⟨ba, oa, l1, LX.marked s (fun h => by have := l1 h; omega)⟩, ⟨bb, ob, l2, LY.marked s (fun h => by have := l2 h; omega)⟩, h.lX, h.lY, h.n63, h.m63⟩
structure RatM (w : World) (lo b off : Nat) (r : RatD) (a1 a2 : Option Addr) (k1 k2 : Nat) : Prop where
 c0 : w.cell? ⟨b, off, none⟩ = some (.bool r.neg)
 c1 : w.cell? ⟨b, off + 1, none⟩ = some (.slice a1 r.n k1)
 c2 : w.cell? ⟨b, off + 2, none⟩ = some (.slice a2 r.m k2)
 L : RatL w lo r a1 a2 k1 k2
theorem RatM.lt (h : RatM w lo b off r a1 a2 k1 k2) : b < w.heap.size := World.block_lt_of_cell? _ _ h.c0
theorem RatM.keep (h : RatM w lo b off r a1 a2 k1 k2) (s : w.Since w.heap.size w') : RatM w' lo b off r a1 a2 k1 k2 :=
 ⟨(s.cell (a := ⟨b, off, none⟩) h.lt).trans h.c0, (s.cell (a := ⟨b, off + 1, none⟩) h.lt).trans h.c1, (s.cell (a := ⟨b, off + 2, none⟩) h.lt).trans h.c2, h.L.keep s⟩
theorem RatM.down (h : RatM w lo b off r a1 a2 k1 k2) (hl : lo' <= lo) : RatM w lo' b off r a1 a2 k1 k2 := ⟨h.c0, h.c1, h.c2, h.L.down hl⟩
theorem RatM.marked (h : RatM w lo b off r a1 a2 k1 k2) (s : xq0 w w' c) (hc : c < lo) (hb : b ≠ c) : RatM w' lo b off r a1 a2 k1 k2 :=
 ⟨(s.cell (a := ⟨b, off, none⟩) hb).trans h.c0, (s.cell (a := ⟨b, off + 1, none⟩) hb).trans h.c1, (s.cell (a := ⟨b, off + 2, none⟩) hb).trans h.c2, h.L.marked s hc⟩
def Rats (w : World) (lo : Nat) (a : Option Addr) (b off n : Nat) (R : Nat -> RatD) : Prop :=
 ∀ i, i < n -> a = some ⟨b, off, none⟩ /\ ∃ a1 a2 k1 k2, RatM w lo b (off + i * 3) (R i) a1 a2 k1 k2
theorem Rats.keep (h : Rats w lo a b off n R) (s : w.Since w.heap.size w') : Rats w' lo a b off n R := fun i hi => by
 obtain ⟨h1, a1, a2, k1, k2, h2⟩ := h i hi; exact ⟨h1, a1, a2, k1, k2, h2.keep s⟩
theorem Rats.down (h : Rats w lo a b off n R) (hl : lo' <= lo) : Rats w lo' a b off n R := fun i hi => by
 obtain ⟨h1, a1, a2, k1, k2, h2⟩ := h i hi; exact ⟨h1, a1, a2, k1, k2, h2.down hl⟩
theorem Rats.marked (h : Rats w lo a b off n R) (s : xq0 w w' c) (hc : c < lo) (hb : 0 < n -> b ≠ c) : Rats w' lo a b off n R := fun i hi => by
 obtain ⟨h1, a1, a2, k1, k2, h2⟩ := h i hi; exact ⟨h1, a1, a2, k1, k2, h2.marked s hc (hb (by omega))⟩
end
def szR (R : Nat -> RatD) : Nat -> Nat
 | 0 => 0
 | n + 1 => szR R n + ((R n).n + (R n).m)
theorem szR_succ (R : Nat -> RatD) (n : Nat) : szR R (n + 1) = szR R n + ((R n).n + (R n).m) := rfl
theorem szR_mono {R : Nat -> RatD} {k n : Nat} (h : k <= n) : szR R k <= szR R n := by
 induction n with
 | zero => simp at h; subst h; exact Nat.le_refl _
 | succ n ih =>
   rcases Nat.lt_or_ge n k with h1 | h1
   . have : k = n + 1 := by omega
     subst this; exact Nat.le_refl _
   . have := ih h1
     rw [szR_succ]; omega
theorem szR_at {R : Nat -> RatD} {k n : Nat} (h : k < n) : (R k).n + (R k).m <= szR R n := by
 have := szR_mono (R := R) (show k + 1 <= n from h); rw [szR_succ] at this; omega
def yz5 (R : Nat -> RatD) (n : Nat) : Prop := ∀ i, i < n -> (R i).ok = true
structure AffD where
 rows : Int
 cols : Int
 nw : Nat
 W : Nat -> RatD
 nb : Nat
 B : Nat -> RatD
def AffD.nul : AffD := ⟨0, 0, 0, fun _ => RatD.nul, 0, fun _ => RatD.nul⟩
section
variable {w w' : World} {lo lo' b off n c : Nat} {d : AffD} {a a1 a2 : Option Addr} {k1 k2 : Nat} {A : Nat -> AffD}
end
def szl (L t : Nat) : Int := if t <= L then ((L - t : Nat) : Int) else -1
theorem szl_ok {L t : Nat} (h : t <= L) : szl L t = ((L - t : Nat) : Int) := by simp [szl, h]
theorem yj8 {L t : Nat} (h : L < t) : szl L t = -1 := by simp [szl]; omega
theorem yv0 (a : Option Addr) (lo b off n cap L : Nat) (R : Nat -> RatD) (w : World) (hL : L <= 16777216) (hn : n <= 9223372036854775807) (H : Rats w lo a b off n R) :
 Calls Tryz.prog 7 #[.slice a n cap, .int .i64 L] w fun e w' => e = .returned (.int .i64 (szl L (n + szR R n))) /\ w.Since w.heap.size w' := by
 by_cases h : L < n
 . rw [yj8 (show L < n + szR R n by omega)]
   go_enter Tryz.func7, Tryz.ntmps7; go_wp2; go_ret; exact ⟨rfl, World.Since.refl _ _⟩
 have h1 : (L : Int) - n = ((L - n : Nat) : Int) := by omega
 have H1 := hide h1; clear h1; go_enter Tryz.func7, Tryz.ntmps7; go_wp2
 go_loopw [1, 5] (fun q i wr => ∃ k : Nat, k <= n /\ i = .int .i64 k /\ n + szR R k <= L /\ q = .int .i64 ((L - n - szR R k : Nat) : Int) /\ w.Since w.heap.size wr) (fun _ i _ => n - (intOf i).toNat)
 case atStart => exact ⟨0, Nat.zero_le _, rfl, by unfold szR; omega, by simp only [szR, Nat.sub_zero]; rw [<- H1.out], World.Since.refl _ _⟩
 case round =>
  obtain ⟨k, hk, rfl, hs, rfl, s⟩ := hrel
  by_cases hlt : k < n
  . obtain ⟨rfl, a1, a2, k1, k2, M⟩ := H k hlt
    have M' := M.keep s; have g0 := M'.c0; have g1 := M'.c1; have g2 := M'.c2; have hz : (k : Int) < (n : Int) := by omega
    have e1 := szR_succ R k
    by_cases hf : n + szR R (k + 1) <= L
    . have H2 := hide e1
      clear e1; go_wp2_with fail; refine (szRat_ok (R k).neg a1 a2 (R k).n k1 (R k).m k2 (L - n - szR R k) wr (by omega) (by have := H2.out; omega)).mono ?_; rintro e w1 ⟨rfl, s1⟩; go_wp2; go_roundw
      case rel => exact ⟨k + 1, by omega, by go_num, hf, by rw [H2.out]; congr 2; omega, s.trans (sM s1 s.size)⟩
      case measure => simp [intOf]; omega
    . have hx := szR_mono (R := R) (show k + 1 <= n from hlt)
      have HZ := hide (yj8 (show L < n + szR R n by omega)).symm; have H2 := hide e1; clear e1; go_wp2_with fail; refine (szRat_no (R k).neg a1 a2 (R k).n k1 (R k).m k2 (L - n - szR R k) wr (by omega) (by have := H2.out; omega) M.L.n63 M.L.m63).mono ?_; rintro e w1 ⟨rfl, s1⟩; go_wp2; go_ret; exact ⟨xq7 HZ.out, s.trans (sM s1 s.size)⟩
  . have e : k = n := by omega
    subst e; go_wp2; go_ret; exact ⟨xq7 (by rw [szl_ok hs]; congr 1; omega), s⟩
end Go.Proofs.YthaomfabdghfjaaGreat
