import Derived.Test.YtnogbaapcjjngaaGreatDoorOwnP27
import Derived.Test.YtnogbaapcjjngaaGreatDoorOwnP3
import Derived.Deep.DeepCutAuto
import Derived.Test.YtnogbaapcjjngaaGreatDoorOwnP17
namespace Go.Proofs.YtnogbaapcjjngaaGreatDoor
open Go.RowKit

theorem shape_map {ws : List ByteArray} : shapeOk ws mapW 2 0 0 ↔ ∃ x1 x2, ws = [mapW, x1, x2] ∧ isInt x1 ∧ isInt x2 := by
  constructor
  · rintro ⟨h1, h2, h3, h4⟩
    have h3 := h3 (Int.le_refl _)
    match ws, h1, h2, h3, h4 with
    | [a, b, c], h1, _, _, h4 =>
      simp only [List.head?_cons, Option.some.injEq] at h1
      subst h1
      exact ⟨b, c, rfl, (h4 1 (by omega) (by simp)).1 (by omega), (h4 2 (by omega) (by simp)).1 (by omega)⟩
    | [], _, h2, _, _ => simp at h2
    | [_], _, h2, _, _ => simp at h2
    | [_, _], _, h2, _, _ => simp at h2
    | _ :: _ :: _ :: _ :: _, _, _, h3, _ => simp only [List.length_cons] at h3; omega
  · rintro ⟨x1, x2, rfl, i1, i2⟩
    refine ⟨rfl, by simp, fun _ => by simp, fun i h1 h2 => ⟨fun h => ?_, fun h => ?_⟩⟩
    · have : i = 1 ∨ i = 2 := by omega
      rcases this with rfl | rfl
      · exact i1
      · exact i2
    · simp at h2; omega

theorem shape_net {ws : List ByteArray} : shapeOk ws netW 1 0 0 ↔ ∃ x1, ws = [netW, x1] ∧ isInt x1 := by
  constructor
  · rintro ⟨h1, h2, h3, h4⟩
    have h3 := h3 (Int.le_refl _)
    match ws, h1, h2, h3, h4 with
    | [a, b], h1, _, _, h4 =>
      simp only [List.head?_cons, Option.some.injEq] at h1
      subst h1
      exact ⟨b, rfl, (h4 1 (by omega) (by simp)).1 (by omega)⟩
    | [], _, h2, _, _ => simp at h2
    | [_], _, h2, _, _ => simp at h2
    | _ :: _ :: _ :: _, _, _, h3, _ => simp only [List.length_cons] at h3; omega
  · rintro ⟨x1, rfl, i1⟩
    refine ⟨rfl, by simp, fun _ => by simp, fun i h1 h2 => ⟨fun h => ?_, fun h => ?_⟩⟩
    · have : i = 1 := by omega
      subst this
      exact i1
    · simp at h2; omega

/-- What the sizes of lines are. -/
structure LinZ (ls : List (Nat × List ByteArray)) : Prop where
  len : ls.length ≤ 100001
  at_ : ∀ (j n : Nat) (ws : List ByteArray), ls[j]? = some (n, ws) → 0 < ws.length ∧ ws.length ≤ 100001 ∧ ∀ x ∈ ws, x.size ≤ 100000

theorem lnsF_mem {t : Nat} {L : List ByteArray} {r : Nat × List ByteArray} (h : r ∈ lnsF t L) : ∃ l ∈ L, r.2 = wordsB l ∧ wordsB l ≠ [] := by
  induction L generalizing t with
  | nil => simp [lnsF] at h
  | cons x xs ih =>
    rw [lnsF] at h
    split at h
    · obtain ⟨l, hl, e⟩ := ih h
      exact ⟨l, by simp [hl], e⟩
    · rename_i hx
      rcases List.mem_cons.1 h with rfl | h
      · exact ⟨x, by simp, rfl, hx⟩
      · obtain ⟨l, hl, e⟩ := ih h
        exact ⟨l, by simp [hl], e⟩

theorem lnsF_z {s : ByteArray} (hs : s.size ≤ 100000) : LinZ (lnsF 0 (pcs 10 s)) := by
  refine ⟨?_, fun j n ws h => ?_⟩
  · have := lnsF_len 0 (pcs 10 s)
    have := pcs_len 10 s
    omega
  · obtain ⟨l, hl, e, hne⟩ := lnsF_mem (List.mem_of_getElem? h)
    simp only at e
    subst e
    have h1 := pcs_le hl
    have h2 := words_len l
    exact ⟨List.length_pos_iff.2 hne, by omega, fun x hx => by have := (words_le hx).1; omega⟩

/-- How l3Maps ends. -/
def MapsE (w w' : World) (rest : List (Nat × List ByteArray)) (K : Nat) (e : Ending) : Prop :=
  w.Since w.heap.size w' ∧ ((∃ v, e = .returned (.tuple #[v, .bool false]) ∧ ∀ ms : List MapD, ms.length = K → ¬ MapsS ms rest []) ∨
    ∃ (ms : List MapD) (v : Value) (xs : List Value) (zs : List (List Value)), e = .returned (.tuple #[v, .bool true]) ∧ ms.length = K ∧ MapsS ms rest [] ∧ OutA w' w.heap.size v ms.length (mD ms) xs zs)

theorem drop_get {ls : List (Nat × List ByteArray)} {p : Nat} (h : p < ls.length) : ls.drop p = ((ls[p]).1, (ls[p]).2) :: ls.drop (p + 1) := by
  rw [List.drop_eq_getElem_cons h]

theorem since_set {w w' : World} {B c k : Nat} {v : Value} (s : w.Since B w') (h : B ≤ c) : w.Since B (w'.setCell ⟨c, k, none⟩ v) := by
  have b : But c w' (w'.setCell ⟨c, k, none⟩ v) := (But.refl c w').set k v
  exact ⟨b.os.trans s.os, b.tape.trans s.tape, b.output.trans s.output, Nat.le_trans s.size b.size, fun q hq => (Below.heap_setCell _ _ _ _ (fun e => by simp at e; omega)).trans (s.block q hq)⟩

theorem wpAnyH_inv {P : Program} {md : Region.Mode} {ops : Array Oper} {Q : Exit → Act → World → Prop} {S : World → Prop} (I : Nat → Array Bool → Act → World → Prop)
    (hS : ∀ fuel l a w, I fuel l a w → S w)
    (hs : ∀ fuel l a w, I (fuel + 1) l a w → ∀ i ∈ Region.ready md ops l, ∃ o, ops[i]? = some o ∧ ∀ K' : Act → World → Prop, (∀ a w, I fuel (l.setIfInBounds i true) a w → K' a w) → if Region.wanted o (yielded ops a.tmps) = true then Oper.wp P o a w K' Q else K' (a.put o.dst undef) w)
    (h0 : ∀ l a w, I 0 l a w → Region.ready md ops l = [])
    (he : ∀ fuel l a w, I fuel l a w → Region.ready md ops l = [] → Q .normal a w) :
    ∀ fuel l a w, I fuel l a w → wpAnyH P md ops Q S fuel l a w
  | 0, l, a, w, h => ⟨h0 l a w h, he 0 l a w h (h0 l a w h)⟩
  | fuel + 1, l, a, w, h => ⟨he _ l a w h, fun i hi => by
      obtain ⟨o, ho, hk⟩ := hs fuel l a w h i hi
      exact wpOp_step ho fun K' hK => hk K' fun a w hI => hK a w ⟨hS _ _ _ _ hI, wpAnyH_inv I hS hs h0 he fuel _ a w hI⟩⟩

theorem own_blk' {w w' : World} {base : Nat} {e : TypeId} {size : Nat} {v : Value} {n : Nat} {xs : List Value} (h : w.ownsRow base e size v n xs) (hk : ∀ g, v.ownBlock = some g → w'.heap[g]? = w.heap[g]?) : w'.ownsRow base e size v n xs := by
  obtain ⟨hl, h | ⟨g, cap, cur, rfl, hb, hh, hr⟩⟩ := h
  · exact ⟨hl, Or.inl h⟩
  · exact ⟨hl, Or.inr ⟨g, cap, cur, rfl, hb, (hk g (by simp [Value.ownBlock])).trans hh, hr⟩⟩

/-- An empty list of numbers of its own. -/
def Em (lo : Nat) (w : World) (t : Value) : Prop := ∃ b, t = .slice (some ⟨b, 0, none⟩) 0 0 ∧ b < w.heap.size ∧ w.ownsRow lo 61 3 t 0 []
theorem Em.keep {lo : Nat} {w w' : World} {t : Value} (h : Em lo w t) (s : w.Since w.heap.size w') : Em lo w' t := by
  obtain ⟨b, e, h1, h2⟩ := h
  exact ⟨b, e, Nat.lt_of_lt_of_le h1 s.size, own_keep' h2 s⟩

/-- The statement 'm := Affine{.., .., []Rat{}, []Rat{}}', in whatever order. -/
structure J7 (w1 : World) (R C : Nat) (l7 l15 l16 l17 l18 l19 l20 : Bool) (t10 t40 t48 t49 t50 t51 : Value) (w : World) : Prop where
  S : w1.Since w1.heap.size w
  h7 : l7 = true → t40 = .int .i64 (R : Int)
  h15 : l15 = true → t48 = .int .i64 (C : Int)
  h16 : l16 = true → Em w1.heap.size w t49
  h17 : l17 = true → Em w1.heap.size w t50
  h18 : l18 = true → t51 = .agg #[.int .i64 (R : Int), .int .i64 (C : Int), t49, t50]
  h19 : l19 = true → ∃ d, t10 = .pointer (some ⟨d, 0, none⟩) ∧ w1.heap.size ≤ d ∧ d < w.heap.size ∧ (l20 = false → Box4 w d (.int .i64 0) (.int .i64 0) (.slice none 0 0) (.slice none 0 0)) ∧ (l20 = true → Box4 w d (.int .i64 (R : Int)) (.int .i64 (C : Int)) t49 t50)
  n1 : l16 = true → l17 = true → t49 ≠ t50
  n2 : l16 = true → l19 = true → ∀ d, t10 = .pointer (some ⟨d, 0, none⟩) → t49 ≠ .slice (some ⟨d, 0, none⟩) 0 0
  n3 : l17 = true → l19 = true → ∀ d, t10 = .pointer (some ⟨d, 0, none⟩) → t50 ≠ .slice (some ⟨d, 0, none⟩) 0 0

section
variable {w1 : World} {R C : Nat} {l7 l15 l16 l17 l18 l19 l20 : Bool} {t10 t40 t48 t49 t50 t51 : Value} {w w' : World}
theorem J7.grow (h : J7 w1 R C l7 l15 l16 l17 l18 l19 l20 t10 t40 t48 t49 t50 t51 w) (s : w.Since w.heap.size w') : J7 w1 R C l7 l15 l16 l17 l18 l19 l20 t10 t40 t48 t49 t50 t51 w' :=
  ⟨h.S.trans (sinceMono s h.S.size), h.h7, h.h15, fun e => (h.h16 e).keep s, fun e => (h.h17 e).keep s, h.h18, fun e => (by
    obtain ⟨d, h1, h2, h3, h4, h5⟩ := h.h19 e
    exact ⟨d, h1, h2, Nat.lt_of_lt_of_le h3 s.size, fun e => (h4 e).keep s, fun e => (h5 e).keep s⟩), h.n1, h.n2, h.n3⟩
theorem J7.start (w1 : World) (R C : Nat) (t10 t40 t48 t49 t50 t51 : Value) : J7 w1 R C false false false false false false false t10 t40 t48 t49 t50 t51 w1 :=
  ⟨.refl _ _, nofun, nofun, nofun, nofun, nofun, nofun, nofun, nofun, nofun⟩
theorem em_new (h : w1.Since w1.heap.size w) : Em w1.heap.size (w.alloc (.cells #[] 61)) (.slice (some ⟨w.heap.size, 0, none⟩) 0 0) :=
  ⟨w.heap.size, rfl, by simp, World.ownsRow_made w #[] 0 h.size (Nat.zero_le _) rfl⟩
theorem J7.op16 (h : J7 w1 R C l7 l15 false l17 false l19 false t10 t40 t48 t49 t50 t51 w) : J7 w1 R C l7 l15 true l17 false l19 false t10 t40 t48 (.slice (some ⟨w.heap.size, 0, none⟩) 0 0) t50 t51 (w.alloc (.cells #[] 61)) :=
  have g := h.grow ((World.Since.refl _ _).alloc (Nat.le_refl _) (.cells #[] 61))
  ⟨g.S, g.h7, g.h15, fun _ => em_new h.S, g.h17, nofun, fun e => (by
    obtain ⟨d, h1, h2, h3, h4, -⟩ := g.h19 e
    exact ⟨d, h1, h2, h3, h4, nofun⟩), fun _ e k => (by
    obtain ⟨b, h1, h2, -⟩ := h.h17 e
    rw [h1] at k
    simp only [Value.slice.injEq, Option.some.injEq, Addr.mk.injEq] at k
    omega), fun _ e d hd k => (by
    obtain ⟨d', h1, h2, h3, -⟩ := h.h19 e
    rw [h1] at hd
    simp only [Value.pointer.injEq, Option.some.injEq, Addr.mk.injEq, and_true] at hd
    simp only [Value.slice.injEq, Option.some.injEq, Addr.mk.injEq, and_true] at k
    omega), g.n3⟩
theorem J7.op17 (h : J7 w1 R C l7 l15 l16 false false l19 false t10 t40 t48 t49 t50 t51 w) : J7 w1 R C l7 l15 l16 true false l19 false t10 t40 t48 t49 (.slice (some ⟨w.heap.size, 0, none⟩) 0 0) t51 (w.alloc (.cells #[] 61)) :=
  have g := h.grow ((World.Since.refl _ _).alloc (Nat.le_refl _) (.cells #[] 61))
  ⟨g.S, g.h7, g.h15, g.h16, fun _ => em_new h.S, nofun, fun e => (by
    obtain ⟨d, h1, h2, h3, h4, -⟩ := g.h19 e
    exact ⟨d, h1, h2, h3, h4, nofun⟩), fun e _ k => (by
    obtain ⟨b, h1, h2, -⟩ := h.h16 e
    rw [h1] at k
    simp only [Value.slice.injEq, Option.some.injEq, Addr.mk.injEq] at k
    omega), g.n2, fun _ e d hd k => (by
    obtain ⟨d', h1, h2, h3, -⟩ := h.h19 e
    rw [h1] at hd
    simp only [Value.pointer.injEq, Option.some.injEq, Addr.mk.injEq, and_true] at hd
    simp only [Value.slice.injEq, Option.some.injEq, Addr.mk.injEq, and_true] at k
    omega)⟩
theorem J7.op19 (h : J7 w1 R C l7 l15 l16 l17 l18 false false t10 t40 t48 t49 t50 t51 w) : J7 w1 R C l7 l15 l16 l17 l18 true false (.pointer (some ⟨w.heap.size, 0, none⟩)) t40 t48 t49 t50 t51 (w.alloc (.cells #[.int .i64 0, .int .i64 0, .slice none 0 0, .slice none 0 0] 74)) :=
  have g := h.grow ((World.Since.refl _ _).alloc (Nat.le_refl _) (.cells #[.int .i64 0, .int .i64 0, .slice none 0 0, .slice none 0 0] 74))
  ⟨g.S, g.h7, g.h15, g.h16, g.h17, g.h18, fun _ => ⟨w.heap.size, rfl, h.S.size, by simp, fun _ => Box4.new _ _ _ _ _ _, nofun⟩, g.n1, fun e _ d hd k => (by
    obtain ⟨b, h1, h2, -⟩ := h.h16 e
    rw [h1] at k
    simp only [Value.pointer.injEq, Option.some.injEq, Addr.mk.injEq, and_true] at hd
    simp only [Value.slice.injEq, Option.some.injEq, Addr.mk.injEq, and_true] at k
    omega), fun e _ d hd k => (by
    obtain ⟨b, h1, h2, -⟩ := h.h17 e
    rw [h1] at k
    simp only [Value.pointer.injEq, Option.some.injEq, Addr.mk.injEq, and_true] at hd
    simp only [Value.slice.injEq, Option.some.injEq, Addr.mk.injEq, and_true] at k
    omega)⟩
theorem J7.op20 {d : Nat} {x y z u : Value} (h : J7 w1 R C true true true true true true false (.pointer (some ⟨d, 0, none⟩)) t40 t48 t49 t50 t51 w) (ex : x = .int .i64 (R : Int)) (ey : y = .int .i64 (C : Int)) (ez : z = t49) (eu : u = t50) :
    J7 w1 R C true true true true true true true (.pointer (some ⟨d, 0, none⟩)) t40 t48 t49 t50 t51 ((((w.setCell ⟨d, 0, none⟩ x).setCell ⟨d, 1, none⟩ y).setCell ⟨d, 2, none⟩ z).setCell ⟨d, 3, none⟩ u) := by
  subst ex ey ez eu
  obtain ⟨d', h1, h2, h3, h4, -⟩ := h.h19 rfl
  simp only [Value.pointer.injEq, Option.some.injEq, Addr.mk.injEq, and_true] at h1
  subst h1
  have M : Marked w ((((w.setCell ⟨d, 0, none⟩ (.int .i64 (R : Int))).setCell ⟨d, 1, none⟩ (.int .i64 (C : Int))).setCell ⟨d, 2, none⟩ z).setCell ⟨d, 3, none⟩ u) d := ((((Marked.refl w _).setCell 0 _).setCell 1 _).setCell 2 _).setCell 3 _
  have sz := M.size
  have em : ∀ {t : Value}, Em w1.heap.size w t → t ≠ .slice (some ⟨d, 0, none⟩) 0 0 → Em w1.heap.size ((((w.setCell ⟨d, 0, none⟩ (.int .i64 (R : Int))).setCell ⟨d, 1, none⟩ (.int .i64 (C : Int))).setCell ⟨d, 2, none⟩ z).setCell ⟨d, 3, none⟩ u) t := fun {t} he hn => by
    obtain ⟨b, e1, e2, e3⟩ := he
    refine ⟨b, e1, by rw [sz]; exact e2, own_blk' e3 (fun g hg => M.other g (fun e => ?_))⟩
    rw [e1] at hg hn
    simp [Value.ownBlock] at hg
    subst hg e
    exact hn rfl
  exact ⟨h.S.trans (M.since h2), h.h7, h.h15, fun e => em (h.h16 e) (h.n2 rfl rfl d rfl), fun e => em (h.h17 e) (h.n3 rfl rfl d rfl), h.h18, fun _ => ⟨d, rfl, h2, by rw [sz]; exact h3, nofun, fun _ => ((((h4 rfl).set0 _).set1 _).set2 _).set3 _⟩, h.n1, h.n2, h.n3⟩
end

/-- What comes up. -/
def rdy7 (l7 l15 l16 l17 l18 l19 l20 : Bool) : Nat → Bool
  | 7 => !l7 && !l15 && !l18 && !l20
  | 15 => l7 && !l15 && !l18 && !l20
  | 16 => !l16 && !l18 && !l20
  | 17 => !l17 && !l18 && !l20
  | 18 => l7 && l15 && l16 && l17 && !l18 && !l20
  | 19 => !l19 && !l20
  | 20 => l7 && l15 && l16 && l17 && l18 && l19 && !l20
  | _ => false
theorem rdy7_in {l7 l15 l16 l17 l18 l19 l20 : Bool} {i : Nat} (h : rdy7 l7 l15 l16 l17 l18 l19 l20 i = true) : i = 7 ∨ i = 15 ∨ i = 16 ∨ i = 17 ∨ i = 18 ∨ i = 19 ∨ i = 20 := by
  unfold rdy7 at h
  split at h <;> simp_all
def left7 (l7 l15 l16 l17 l18 l19 l20 : Bool) : Nat := (!l7).toNat + (!l15).toNat + (!l16).toNat + (!l17).toNat + (!l18).toNat + (!l19).toNat + (!l20).toNat
def ok7 (l7 l15 l16 l17 l18 l19 l20 : Bool) : Bool := (!l15 || l7) && (!l18 || (l7 && l15 && l16 && l17)) && (!l20 || (l18 && l19))

/-- Two lists of numbers that grow beside each other; d is another block. -/
structure Two (w : World) (lo d : Nat) (vW vB : Value) (lW lB : List ByteArray) (xW xB : List Value) : Prop where
  W : OutR w lo vW lW.length (wd lW) (fun _ q => lo ≤ q ∧ q ≠ d ∧ vB.ownBlock ≠ some q) xW
  B : OutR w lo vB lB.length (wd lB) (fun _ q => lo ≤ q ∧ q ≠ d ∧ vW.ownBlock ≠ some q) xB
  sep : ∀ g, vW.ownBlock = some g → vB.ownBlock ≠ some g
  dW : vW.ownBlock ≠ some d
  dB : vB.ownBlock ≠ some d

section
variable {w w' : World} {lo d : Nat} {vW vW' vB : Value} {lW lB l : List ByteArray} {xW xB xr : List Value}
theorem AffO.two {C : Nat} {rs : List (Nat × List ByteArray)} (h : AffO w lo d vW vB C rs xW xB) : Two w lo d vW vB (WL C rs) (BL C rs) xW xB := ⟨h.W, h.B, h.sep, h.dW, h.dB⟩
theorem Two.aff {C : Nat} {rs : List (Nat × List ByteArray)} (h : Two w lo d vW vB (WL C rs) (BL C rs) xW xB) : AffO w lo d vW vB C rs xW xB := ⟨h.W, h.B, h.sep, h.dW, h.dB⟩
theorem Two.swap (h : Two w lo d vW vB lW lB xW xB) : Two w lo d vB vW lB lW xB xW := ⟨h.B, h.W, fun g e e' => h.sep g e' e, h.dB, h.dW⟩
theorem Two.keep (h : Two w lo d vW vB lW lB xW xB) (s : w.Since w.heap.size w') : Two w' lo d vW vB lW lB xW xB := ⟨h.W.keep s, h.B.keep s, h.sep, h.dW, h.dB⟩
theorem Two.put (h : Two w lo d vW vB lW lB xW xB) (s : But d w w') : Two w' lo d vW vB lW lB xW xB :=
  ⟨h.W.chg s.c (fun _ e e' => h.dW (e' ▸ e)) (fun _ _ hq e => hq.2.1 e), h.B.chg s.c (fun _ e e' => h.dB (e' ▸ e)) (fun _ _ hq e => hq.2.1 e), h.sep, h.dW, h.dB⟩
/-- The first of the two grown by numbers that lie from B on. -/
theorem Two.add {n B lo' : Nat} {vr : Value} (h : Two w lo d vW vB lW lB xW xB) (r : OutR w lo' vr n (wd l) (fun _ q => B ≤ q) xr) (hn : n ≤ l.length) (hl : lo ≤ lo') (hW : ∀ g, vW.ownBlock = some g → g < B) (hB : ∀ g, vB.ownBlock = some g → g < B) (hd : d < B) (hlo : lo ≤ B) (hB' : B ≤ w.heap.size)
    (g : w.grownBy w' vW.ownBlock) (own : w'.ownsRow lo 61 3 vW' (lW.length + n) (xW ++ xr)) (hat : vW'.ownBlock = vW.ownBlock ∨ vW'.ownBlock = some w.heap.size) : Two w' lo d vW' vB (lW ++ l.take n) lB (xW ++ xr) xB := by
  have O1 := h.W.append (r.lower hl) g own hat (fun i q _ _ hq => ⟨⟨by omega, by omega, fun e => by have := hB q e; omega⟩, fun e => by have := hW q e; omega⟩)
  have O2 : OutR w' lo vW' (lW ++ l.take n).length (wd (lW ++ l.take n)) (fun _ q => lo ≤ q ∧ q ≠ d ∧ vB.ownBlock ≠ some q) (xW ++ xr) := by
    have e1 : (lW ++ l.take n).length = lW.length + n := by rw [List.length_append, List.length_take, Nat.min_eq_left hn]
    rw [e1]
    refine O1.congr (fun i hi => ?_)
    rw [wd_append]
    show (if i < lW.length then wd lW i else wd l (i - lW.length)) = _
    split
    · rfl
    · exact (wd_take (by omega)).symm
  have hb1 : ∀ q, vW'.ownBlock = some q → vB.ownBlock ≠ some q := fun q e e' => by
    rcases hat with k | k
    · exact h.sep q (k.symm.trans e) e'
    · rw [e] at k; simp at k; have := hB q e'; omega
  have O3 : OutR w' lo vB lB.length (wd lB) (fun _ q => lo ≤ q ∧ q ≠ d ∧ vW'.ownBlock ≠ some q) xB := by
    have h1 := h.B.imp' (p' := fun _ q => (lo ≤ q ∧ q ≠ d ∧ vW.ownBlock ≠ some q) ∧ vW'.ownBlock ≠ some q) (fun i q _ hq hp => ⟨hp, fun e => by
      rcases hat with k | k
      · exact hp.2.2 (k.symm.trans e)
      · rw [e] at k; simp at k; omega⟩)
    have h2 := h1.chg (Chg.of_grown g) (fun q e e' => h.sep q e' e) (fun i q hq e' => hq.1.2.2 e')
    exact h2.imp' (fun i q _ _ hq => ⟨hq.1.1, hq.1.2.1, hq.2⟩)
  exact ⟨O2, O3, hb1, fun e => by
    rcases hat with k | k
    · exact h.dW (k.symm.trans e)
    · rw [e] at k; simp at k; omega, h.dB⟩
end

/-- A list of one number, as an append lays it. -/
theorem OutR.one {w : World} {B : Nat} {b : Bool} {u1 u2 : Value} {x : ByteArray} (R : WordR w (fun q => B ≤ q) (.agg #[.bool b, u1, u2]) x) (hb : (parseO x).1 = b) :
    OutR (w.alloc (.cells #[.bool b, u1, u2] 61)) w.heap.size (.slice (some ⟨w.heap.size, 0, none⟩) 1 1) 1 (wd [x]) (fun _ q => B ≤ q) [.bool b, u1, u2] := by
  have s := (World.Since.refl w.heap.size w).alloc (Nat.le_refl _) (.cells #[.bool b, u1, u2] 61)
  refine ⟨⟨rfl, Or.inr ⟨w.heap.size, 1, #[.bool b, u1, u2], rfl, Nat.le_refl _, heap_alloc_new w _, Nat.le_refl _, by unfold maxLen; omega, rfl, rfl⟩⟩, fun i hi => ?_⟩
  have : i = 0 := by omega
  subst this
  show ∃ v1 v2, _ ∧ _ ∧ _ ∧ WordR _ _ (.agg #[.bool (parseO x).1, v1, v2]) x
  rw [show (parseO (wd [x] 0)).1 = b from hb, hb]
  refine ⟨u1, u2, rfl, rfl, rfl, ?_⟩
  have R2 := RatW.imp (p' := fun q => B ≤ q ∧ (Value.slice (some ⟨w.heap.size, 0, none⟩) 1 1).ownBlock ≠ some q) R (fun g hg hp => ⟨hp, fun e => by simp [Value.ownBlock] at e; omega⟩)
  exact RatW.keep R2 s

theorem step_append_at {P : Program} {w : World} {ops : Array Oper} {o : Oper} {a : Act} {K : Act → World → Prop} {Q : Exit → Act → World → Prop} {E : Prop} (hgd : o.guard = none) (s x : Operand) (t : TypeId)
    (ho : o.op = .call { callee := .builtin .append, args := #[s, x], argTypes := #[t, t] })
    (base : Nat) (e : TypeId) (i : TypeInfo) (z : Value) (size bytes : Nat) (ht : P.underlying t = some (.slice e)) (hi : P.info? e = some i) (hz : i.zero = some z)
    (hsize : i.size = size) (hby : i.bytes = bytes) (hzs : z.cells.size = size) (hsz : 0 < size)
    (g0 c0 n : Nat) (xs : List Value) (hs : a.eval s = .slice (some ⟨g0, 0, none⟩) n c0) (hown : w.ownsRow base e size (.slice (some ⟨g0, 0, none⟩) n c0) n xs)
    (ad : Addr) (m c : Nat) (news : List Value) (hx : a.eval x = .slice (some ad) m c) (hl : news.length = m * size) (hnews : ∀ j u, news[j]? = some u → w.cell? (ad.add j) = some u) (h1 : ∀ u ∈ news, u.oneCell' = true)
    (h63 : n + m ≤ maxLen) (hbytes : (n + m) * bytes ≤ 140737488355328) (hbase : base ≤ w.heap.size) (H : Nat) (hH : w.heap.size = H)
    (h : ∀ g cap w', w'.ownsRow base e size (.slice (some ⟨g, 0, none⟩) (n + m) cap) (n + m) (xs ++ news) → w.grownBy w' (some g0) → (g = g0 ∨ g = H) → g < w'.heap.size → K (a.put o.dst (.slice (some ⟨g, 0, none⟩) (n + m) cap)) w') :
    if Region.wanted o (yielded ops a.tmps) = true then Oper.wp P o a w K Q else E := by
  have hw : Region.wanted o (yielded ops a.tmps) = true := by simp [Region.wanted, hgd]
  rw [if_pos hw]
  obtain ⟨v', w', hr, h2, h3, h4, h5⟩ := run_append_own_at (P := P) w base t o.type e i z size bytes ht hi hz hsize hby hzs hsz _ n xs hown ad m c news hl hnews h1 h63 hbytes hbase
  unfold Oper.wp execOp
  simp only [ho, resolve, invoke, builtin, Sem.run_bind, Sem.run_pure, Result.andThen_ok, List.map_toArray, List.map_cons, List.map_nil, hs, hx, hr]
  have h2' := h2
  obtain ⟨-, ⟨e0, -⟩ | ⟨g, cap, cur, rfl, -⟩⟩ := h2'
  · have := (h4.1 e0).1
    simp at this
  · refine h g cap w' h2 h3 ?_ (h2.lt g rfl).2
    rcases h5 with h5 | h5
    · simp [Value.ownBlock] at h5; exact Or.inl h5
    · simp [Value.ownBlock] at h5; exact Or.inr (h5.trans hH)

end Go.Proofs.YtnogbaapcjjngaaGreatDoor

namespace Go.Proofs.YtnogbaapcjjngaaGreatDoor
open Go.RowKit

set_option maxHeartbeats 12800000 in
set_option maxRecDepth 100000 in
theorem l3Maps_q (gl cl p0 K : Nat) (ls : List (Nat × List ByteArray)) (w : World) (H : LinL w gl ls) (Z : LinZ ls) (hp0 : p0 ≤ ls.length) (hK : K ≤ 1000000) :
    Calls Tryz.prog 20 #[.slice (some ⟨gl, 0, none⟩) ls.length cl, .int .i64 (p0 : Int), .int .i64 (K : Int)] w fun e w' => MapsE w w' (ls.drop p0) K e := by
  obtain ⟨i0, hi, hz0, hz1, hz2⟩ := infoAff
  obtain ⟨i1, hi1, hr0, hr1, hr2⟩ := infoRat
  have sA : w.Since w.heap.size (w.alloc (.cells #[] 74)) := (World.Since.refl _ _).alloc (Nat.le_refl _) _
  have oA : (w.alloc (.cells #[] 74)).ownsRow w.heap.size 74 4 (.slice (some ⟨w.heap.size, 0, none⟩) 0 0) 0 [] := World.ownsRow_made w #[] 0 (Nat.le_refl _) (Nat.zero_le _) rfl
  have hLl := Z.len
  have HZ := hide Z
  have HL := hide H
  clear Z H
  go_enter Tryz.func20, Tryz.ntmps20
  go_wp2_with fail
  go_loopw [1, 8, 9] (fun u v i wr => ∃ (k p g cap : Nat) (ms : List MapD) (xs : List Value) (zs : List (List Value)), k ≤ K ∧ p ≤ ls.length ∧ i = .int .i64 (k : Int) ∧ u = .int .i64 (p : Int) ∧ v = .slice (some ⟨g, 0, none⟩) k cap ∧ w.Since w.heap.size wr ∧ Hid (OutA wr w.heap.size (.slice (some ⟨g, 0, none⟩) k cap) ms.length (mD ms) xs zs) ∧ Hid (MapsS ms (ls.drop p0) (ls.drop p)) ∧ Hid (ms.length = k)) (fun _ _ i _ => K - (intOf i).toNat)
  case atStart => exact ⟨0, p0, w.heap.size, 0, [], [], [], Nat.zero_le _, hp0, rfl, rfl, rfl, sA, hide ⟨rfl, oA, fun i hi => absurd hi (by simp)⟩, hide rfl, hide rfl⟩
  case round =>
    obtain ⟨k, p, g, cap, ms, xs, zs, hk, hp, rfl, rfl, rfl, S, O, EM, HK⟩ := hrel
    by_cases hlt : k < K
    · have hzk : (k : Int) < (K : Int) := by omega
      by_cases hpl : p < ls.length
      rotate_left
      · have hpz : (ls.length : Int) ≤ (p : Int) := by omega
        have HNO : Hid (∀ ms : List MapD, ms.length = K → ¬ MapsS ms (ls.drop p0) []) := hide (fun ms' hl hm => by
          obtain ⟨m, q, hq⟩ := EM.out.next hm (by rw [HK.out, hl]; exact hlt)
          obtain ⟨_, _, _, e, _⟩ := hq.ex
          rw [List.drop_of_length_le (by omega)] at e
          cases e)
        go_wp2
        go_ret2
        exact ⟨S, Or.inl ⟨_, rfl, HNO.out⟩⟩
      have hpz : ¬ (ls.length : Int) ≤ (p : Int) := by omega
      have hpz' : (p : Int) < (ls.length : Int) := by omega
      have HD := drop_get hpl
      obtain ⟨n, hn⟩ : ∃ n, (ls[p]).1 = n := ⟨_, rfl⟩
      obtain ⟨ws, hws⟩ : ∃ ws, (ls[p]).2 = ws := ⟨_, rfl⟩
      rw [hn, hws] at HD
      have hg : ls[p]? = some (n, ws) := by rw [List.getElem?_eq_getElem hpl, ← hn, ← hws]
      obtain ⟨-, q, cq, c1, -, cw⟩ := (HL.out.keep S) p n ws hg
      obtain ⟨zw0, zw1, zw2⟩ := HZ.out.at_ p n ws hg
      have HD := hide HD
      have JS : Calls Tryz.prog 19 #[.slice (some ⟨q, 0, none⟩) ws.length cq, .string ⟨#[109, 97, 112]⟩, .int .i64 2, .int .i64 0, .int .i64 0] wr fun e w' => RetB wr (shapeOk ws mapW 2 0 0) e w' := l2Shape_q mapW 2 0 0 (some ⟨q, 0, none⟩) q 0 cq ws wr (fun j x hx => ⟨rfl, by rw [Nat.zero_add]; exact cw j x hx⟩) zw2 zw0 zw1 (by omega) (by omega) (by omega) (by omega)
      have CW := hide cw
      have C1 := hide c1
      clear hn hws hg cw
      go_wp2_with fail
      refine JS.mono ?_
      rintro e w1 ⟨r, rfl, ir, s1⟩
      have IR := hide ir
      clear ir JS
      have S1 := S.trans (sinceMono s1 S.size)
      cases r
      · have HNO : Hid (∀ ms : List MapD, ms.length = K → ¬ MapsS ms (ls.drop p0) []) := hide (fun ms' hl hm => by
          obtain ⟨m, q, hq⟩ := EM.out.next hm (by rw [HK.out, hl]; exact hlt)
          rw [HD.out] at hq
          obtain ⟨x1, x2, e, j1, j2, _⟩ := hq.head
          have := IR.out.2 (shape_map.2 ⟨x1, x2, e, j1, j2⟩)
          simp at this)
        clear IR
        go_wp2
        go_ret2
        exact ⟨S1, Or.inl ⟨_, rfl, HNO.out⟩⟩
      obtain ⟨x1, x2, rfl, j1, j2⟩ := shape_map.1 (IR.out.1 (by simp))
      have hR := isInt_lim j1
      have hC := isInt_lim j2
      obtain ⟨R, eR⟩ : ∃ R, dv x1 x1.size = R := ⟨_, rfl⟩
      obtain ⟨C, eC⟩ : ∃ C, dv x2 x2.size = C := ⟨_, rfl⟩
      have JR : ∀ w', Calls Tryz.prog 21 #[.string x1] w' fun e w'' => e = .returned (.int .i64 (R : Int)) ∧ w'.Since w'.heap.size w'' := fun w' => by rw [← eR]; exact l2Int_d x1 w' j1
      have JC : ∀ w', Calls Tryz.prog 21 #[.string x2] w' fun e w'' => e = .returned (.int .i64 (C : Int)) ∧ w'.Since w'.heap.size w'' := fun w' => by rw [← eC]; exact l2Int_d x2 w' j2
      rw [eR] at hR
      rw [eC] at hC
      have ER := hide eR
      have EC := hide eC
      have I1 := hide j1
      have I2 := hide j2
      clear eR eC j1 j2 IR c1
      obtain ⟨c1, k1, k2⟩ : w1.cell? ⟨gl, p * 2 + 1, none⟩ = some (.slice (some ⟨q, 0, none⟩) 3 cq) ∧ w1.cell? ⟨q, 1, none⟩ = some (.string x1) ∧ w1.cell? ⟨q, 2, none⟩ = some (.string x2) := by
        have L1 := (HL.out.keep S).keep s1
        have hg : ls[p]? = some (n, [mapW, x1, x2]) := by
          have := congrArg (fun l => l[0]?) HD.out
          simpa using this
        obtain ⟨-, q', cq', c1', -, cw'⟩ := L1 p n _ hg
        have := (s1.cell (a := ⟨gl, p * 2 + 1, none⟩) (World.block_lt_of_cell? _ _ C1.out)).trans C1.out
        rw [this] at c1'
        simp only [Option.some.injEq, Value.slice.injEq, Addr.mk.injEq, and_true, true_and] at c1'
        obtain ⟨rfl, rfl⟩ := c1'
        exact ⟨this, cw' 1 x1 rfl, cw' 2 x2 rfl⟩
      have KC : Hid (∀ w', w1.Since w1.heap.size w' → w'.cell? ⟨gl, p * 2 + 1, none⟩ = some (.slice (some ⟨q, 0, none⟩) 3 cq) ∧ w'.cell? ⟨q, 1, none⟩ = some (.string x1) ∧ w'.cell? ⟨q, 2, none⟩ = some (.string x2)) := hide (fun w' s => ⟨(s.cell (a := ⟨gl, p * 2 + 1, none⟩) (World.block_lt_of_cell? _ _ c1)).trans c1, (s.cell (a := ⟨q, 1, none⟩) (World.block_lt_of_cell? _ _ k1)).trans k1, (s.cell (a := ⟨q, 2, none⟩) (World.block_lt_of_cell? _ _ k2)).trans k2⟩)
      go_upto_region 7 with fail
      go_cut [10] (fun u wx => ∃ d : Nat, u = .pointer (some ⟨d, 0, none⟩) ∧ ∃ (b1 b2 : Nat), Hid (Box4 wx d (.int .i64 (R : Int)) (.int .i64 (C : Int)) (.slice (some ⟨b1, 0, none⟩) 0 0) (.slice (some ⟨b2, 0, none⟩) 0 0)) ∧ w1.Since w1.heap.size wx ∧ w1.heap.size ≤ d ∧ Hid (AffO wx w1.heap.size d (.slice (some ⟨b1, 0, none⟩) 0 0) (.slice (some ⟨b2, 0, none⟩) 0 0) C [] [] []))
      case first =>
        have KD := KC.out w1.drew ((World.Since.refl _ _).drew)
        refine wp_region_held_drew (S := fun w' => w'.cell? ⟨gl, p * 2 + 1, none⟩ = some (.slice (some ⟨q, 0, none⟩) 3 cq) ∧ w'.cell? ⟨q, 1, none⟩ = some (.string x1) ∧ w'.cell? ⟨q, 2, none⟩ = some (.string x2)) (by kernel_rfl) KD (fun hHeld => ?_)
        refine take_at 0 (some 33) ((.slice (some ⟨gl, 0, none⟩) ls.length cl)) rfl (by kernel_rfl) (by kernel_rfl) (by kernel_rfl) (by kernel_rfl) (fun _ _ _ h => h) (by kernel_rfl) (by assumption) ?_ ?_
        · intro w' hSw
          clear hSw
          kernel_rfl
        simp only [Act.put, List.setIfInBounds_toArray, List.set_cons_zero, List.set_cons_succ]
        refine take_at 1 (some 34) ((.int .i64 (p : Int))) rfl (by kernel_rfl) (by kernel_rfl) (by kernel_rfl) (by kernel_rfl) (fun _ _ _ h => h) (by kernel_rfl) (by assumption) ?_ ?_
        · intro w' hSw
          clear hSw
          kernel_rfl
        simp only [Act.put, List.setIfInBounds_toArray, List.set_cons_zero, List.set_cons_succ]
        refine take_at 2 (some 35) (.pointer (some ⟨gl, p * 2, none⟩)) rfl (by kernel_rfl) (by kernel_rfl) (by kernel_rfl) (by kernel_rfl) (fun _ _ _ h => h) (by kernel_rfl) (by assumption) ?_ ?_
        · intro w' hSw
          try dsimp only at hSw
          go_simp
        simp only [Act.put, List.setIfInBounds_toArray, List.set_cons_zero, List.set_cons_succ]
        refine take_at 3 (some 36) (.pointer (some ⟨gl, p * 2 + 1, none⟩)) rfl (by kernel_rfl) (by kernel_rfl) (by kernel_rfl) (by kernel_rfl) (fun _ _ _ h => h) (by kernel_rfl) (by assumption) ?_ ?_
        · intro w' hSw
          try dsimp only at hSw
          go_simp
        simp only [Act.put, List.setIfInBounds_toArray, List.set_cons_zero, List.set_cons_succ]
        refine take_at 4 (some 37) (.slice (some ⟨q, 0, none⟩) 3 cq) rfl (by kernel_rfl) (by kernel_rfl) (by kernel_rfl) (by kernel_rfl) (fun _ _ _ h => h) (by kernel_rfl) (by assumption) ?_ ?_
        · intro w' hSw
          try dsimp only at hSw
          go_simp
        simp only [Act.put, List.setIfInBounds_toArray, List.set_cons_zero, List.set_cons_succ]
        refine take_at 5 (some 38) (.pointer (some ⟨q, 1, none⟩)) rfl (by kernel_rfl) (by kernel_rfl) (by kernel_rfl) (by kernel_rfl) (fun _ _ _ h => h) (by kernel_rfl) (by assumption) ?_ ?_
        · intro w' hSw
          try dsimp only at hSw
          go_simp
        simp only [Act.put, List.setIfInBounds_toArray, List.set_cons_zero, List.set_cons_succ]
        refine take_at 6 (some 39) (.string x1) rfl (by kernel_rfl) (by kernel_rfl) (by kernel_rfl) (by kernel_rfl) (fun _ _ _ h => h) (by kernel_rfl) (by assumption) ?_ ?_
        · intro w' hSw
          try dsimp only at hSw
          go_simp
        simp only [Act.put, List.setIfInBounds_toArray, List.set_cons_zero, List.set_cons_succ]
        refine take_at 8 (some 41) ((.slice (some ⟨gl, 0, none⟩) ls.length cl)) rfl (by kernel_rfl) (by kernel_rfl) (by kernel_rfl) (by kernel_rfl) (fun _ _ _ h => h) (by kernel_rfl) (by assumption) ?_ ?_
        · intro w' hSw
          clear hSw
          kernel_rfl
        simp only [Act.put, List.setIfInBounds_toArray, List.set_cons_zero, List.set_cons_succ]
        refine take_at 9 (some 42) ((.int .i64 (p : Int))) rfl (by kernel_rfl) (by kernel_rfl) (by kernel_rfl) (by kernel_rfl) (fun _ _ _ h => h) (by kernel_rfl) (by assumption) ?_ ?_
        · intro w' hSw
          clear hSw
          kernel_rfl
        simp only [Act.put, List.setIfInBounds_toArray, List.set_cons_zero, List.set_cons_succ]
        refine take_at 10 (some 43) (.pointer (some ⟨gl, p * 2, none⟩)) rfl (by kernel_rfl) (by kernel_rfl) (by kernel_rfl) (by kernel_rfl) (fun _ _ _ h => h) (by kernel_rfl) (by assumption) ?_ ?_
        · intro w' hSw
          try dsimp only at hSw
          go_simp
        simp only [Act.put, List.setIfInBounds_toArray, List.set_cons_zero, List.set_cons_succ]
        refine take_at 11 (some 44) (.pointer (some ⟨gl, p * 2 + 1, none⟩)) rfl (by kernel_rfl) (by kernel_rfl) (by kernel_rfl) (by kernel_rfl) (fun _ _ _ h => h) (by kernel_rfl) (by assumption) ?_ ?_
        · intro w' hSw
          try dsimp only at hSw
          go_simp
        simp only [Act.put, List.setIfInBounds_toArray, List.set_cons_zero, List.set_cons_succ]
        refine take_at 12 (some 45) (.slice (some ⟨q, 0, none⟩) 3 cq) rfl (by kernel_rfl) (by kernel_rfl) (by kernel_rfl) (by kernel_rfl) (fun _ _ _ h => h) (by kernel_rfl) (by assumption) ?_ ?_
        · intro w' hSw
          try dsimp only at hSw
          go_simp
        simp only [Act.put, List.setIfInBounds_toArray, List.set_cons_zero, List.set_cons_succ]
        refine take_at 13 (some 46) (.pointer (some ⟨q, 2, none⟩)) rfl (by kernel_rfl) (by kernel_rfl) (by kernel_rfl) (by kernel_rfl) (fun _ _ _ h => h) (by kernel_rfl) (by assumption) ?_ ?_
        · intro w' hSw
          try dsimp only at hSw
          go_simp
        simp only [Act.put, List.setIfInBounds_toArray, List.set_cons_zero, List.set_cons_succ]
        refine take_at 14 (some 47) (.string x2) rfl (by kernel_rfl) (by kernel_rfl) (by kernel_rfl) (by kernel_rfl) (fun _ _ _ h => h) (by kernel_rfl) (by assumption) ?_ ?_
        · intro w' hSw
          try dsimp only at hSw
          go_simp
        simp only [Act.put, List.setIfInBounds_toArray, List.set_cons_zero, List.set_cons_succ]
        have dr : w1.Since w1.heap.size w1.drew := (World.Since.refl _ _).drew
        refine wpAnyH_inv (fun fuel l ac wx => ∃ l7 l15 l16 l17 l18 l19 l20 t10 t40 t48 t49 t50 t51, l = #[true, true, true, true, true, true, true, l7, true, true, true, true, true, true, true, l15, l16, l17, l18, l19, l20] ∧ fuel = left7 l7 l15 l16 l17 l18 l19 l20 ∧ ok7 l7 l15 l16 l17 l18 l19 l20 = true ∧
          ac = { tmps := #[(.slice (some ⟨gl, 0, none⟩) ls.length cl), (.int .i64 (p : Int)), .int .i64 (K : Int), undef, undef, undef, u6, u7, .slice (some ⟨g, 0, none⟩) k cap, .int .i64 (k : Int), t10, u11, u12, .slice (some ⟨w.heap.size, 0, none⟩) 0 0, .int .i64 (k : Int), .int .i64 (K : Int), .bool true, u17, u18, (.int .i64 (p : Int)), (.slice (some ⟨gl, 0, none⟩) ls.length cl), .int .i64 (ls.length : Int), .bool false, .bool false, (.slice (some ⟨gl, 0, none⟩) ls.length cl), (.int .i64 (p : Int)), .pointer (some ⟨gl, p * 2, none⟩), .pointer (some ⟨gl, p * 2 + 1, none⟩), .slice (some ⟨q, 0, none⟩) 3 cq, .bool true, .bool false, .bool false, u32, (.slice (some ⟨gl, 0, none⟩) ls.length cl), (.int .i64 (p : Int)), .pointer (some ⟨gl, p * 2, none⟩), .pointer (some ⟨gl, p * 2 + 1, none⟩), .slice (some ⟨q, 0, none⟩) 3 cq, .pointer (some ⟨q, 1, none⟩), .string x1, t40, (.slice (some ⟨gl, 0, none⟩) ls.length cl), (.int .i64 (p : Int)), .pointer (some ⟨gl, p * 2, none⟩), .pointer (some ⟨gl, p * 2 + 1, none⟩), .slice (some ⟨q, 0, none⟩) 3 cq, .pointer (some ⟨q, 2, none⟩), .string x2, t48, t49, t50, t51, u52, u53, u54, u55, u56, u57, u58, u59, u60, u61, u62, u63, u64, u65, u66, u67, u68, u69, u70, u71, u72, u73, u74, u75, u76, u77, u78, u79, u80, u81, u82, u83, u84, u85, u86, u87, u88, u89, u90, u91, u92, u93, u94, u95, u96, u97, u98, u99, u100, u101, u102, u103, u104, u105, u106, u107, u108, undef, undef, undef, undef, undef], defers := [] } ∧
          J7 w1.drew R C l7 l15 l16 l17 l18 l19 l20 t10 t40 t48 t49 t50 t51 wx) ?_ ?_ ?_ ?_ _ _ _ _ ⟨_, _, _, _, _, _, _, _, _, _, _, _, _, rfl, rfl, rfl, rfl, J7.start _ _ _ _ _ _ _ _ _⟩
        · rintro fuel l ac wx ⟨l7, l15, l16, l17, l18, l19, l20, t10, t40, t48, t49, t50, t51, -, -, -, -, j⟩
          exact KC.out wx (dr.trans (sinceMono j.S dr.size))
        · rintro fuel l ac wx ⟨l7, l15, l16, l17, l18, l19, l20, t10, t40, t48, t49, t50, t51, rfl, hf, hk, rfl, j⟩ i hi
          have hr : rdy7 l7 l15 l16 l17 l18 l19 l20 i = true := by
            revert i
            refine List.all_eq_true.1 ?_
            revert hk
            clear hf j
            revert l7 l15 l16 l17 l18 l19 l20
            exact of_decide_eq_true (by kernel_rfl)
          clear hi
          have hi7 := rdy7_in hr
          rcases hi7 with rfl | rfl | rfl | rfl | rfl | rfl | rfl
          · simp [rdy7] at hr
            obtain ⟨⟨⟨rfl, rfl⟩, rfl⟩, rfl⟩ := hr
            refine ⟨_, rfl, fun K' hK' => ?_⟩
            go_simp
            refine (JR wx).mono ?_
            rintro e w' ⟨rfl, s'⟩
            refine hK' _ _ ⟨true, false, l16, l17, false, l19, false, t10, _, t48, t49, t50, t51, rfl, ?_, ?_, rfl, { j.grow s' with h7 := fun _ => rfl }⟩
            · simp [left7] at hf ⊢; omega
            · rfl
          · simp [rdy7] at hr
            obtain ⟨⟨⟨rfl, rfl⟩, rfl⟩, rfl⟩ := hr
            refine ⟨_, rfl, fun K' hK' => ?_⟩
            go_simp
            refine (JC wx).mono ?_
            rintro e w' ⟨rfl, s'⟩
            refine hK' _ _ ⟨true, true, l16, l17, false, l19, false, t10, t40, _, t49, t50, t51, rfl, ?_, ?_, rfl, { j.grow s' with h15 := fun _ => rfl }⟩
            · simp [left7] at hf ⊢; omega
            · rfl
          · simp [rdy7] at hr
            obtain ⟨⟨rfl, rfl⟩, rfl⟩ := hr
            refine ⟨_, rfl, fun K' hK' => ?_⟩
            go_simp
            refine hK' _ _ ⟨l7, l15, true, l17, false, l19, false, t10, t40, t48, _, t50, t51, rfl, ?_, ?_, rfl, j.op16⟩
            · simp [left7] at hf ⊢; omega
            · simpa [ok7] using hk
          · simp [rdy7] at hr
            obtain ⟨⟨rfl, rfl⟩, rfl⟩ := hr
            refine ⟨_, rfl, fun K' hK' => ?_⟩
            go_simp
            refine hK' _ _ ⟨l7, l15, l16, true, false, l19, false, t10, t40, t48, t49, _, t51, rfl, ?_, ?_, rfl, j.op17⟩
            · simp [left7] at hf ⊢; omega
            · simpa [ok7] using hk
          · simp [rdy7] at hr
            obtain ⟨⟨⟨⟨⟨rfl, rfl⟩, rfl⟩, rfl⟩, rfl⟩, rfl⟩ := hr
            have e40 := j.h7 rfl
            have e48 := j.h15 rfl
            obtain ⟨b1, e49, -⟩ := j.h16 rfl
            obtain ⟨b2, e50, -⟩ := j.h17 rfl
            subst e40 e48 e49 e50
            refine ⟨_, rfl, fun K' hK' => ?_⟩
            go_simp
            refine hK' _ _ ⟨true, true, true, true, true, l19, false, t10, _, _, _, _, _, rfl, ?_, ?_, rfl, { j with h18 := fun _ => rfl }⟩
            · simp [left7] at hf ⊢; omega
            · rfl
          · simp [rdy7] at hr
            obtain ⟨rfl, rfl⟩ := hr
            refine ⟨_, rfl, fun K' hK' => ?_⟩
            go_simp
            refine hK' _ _ ⟨l7, l15, l16, l17, l18, true, false, _, t40, t48, t49, t50, t51, rfl, ?_, ?_, rfl, j.op19⟩
            · simp [left7] at hf ⊢; omega
            · simpa [ok7] using hk
          · simp [rdy7] at hr
            obtain ⟨⟨⟨⟨⟨⟨rfl, rfl⟩, rfl⟩, rfl⟩, rfl⟩, rfl⟩, rfl⟩ := hr
            obtain ⟨d, e10, -, -, bx, -⟩ := j.h19 rfl
            have e51 := j.h18 rfl
            obtain ⟨b1, e49, -⟩ := j.h16 rfl
            obtain ⟨b2, e50, -⟩ := j.h17 rfl
            subst e10 e51 e49 e50
            have bx := bx rfl
            have m0 := bx.c0
            have f0 := bx.f 0
            have m1 := bx.c1
            have f1 := bx.f 1
            have m2 := bx.c2
            have f2 := bx.f 2
            have m3 := bx.c3
            have f3 := bx.f 3
            refine ⟨_, rfl, fun K' hK' => ?_⟩
            go_simp
            refine hK' _ _ ⟨true, true, true, true, true, true, true, _, _, _, _, _, _, rfl, ?_, ?_, rfl, j.op20 rfl rfl rfl rfl⟩
            · simp [left7] at hf ⊢; exact hf
            · rfl
        · rintro l ac wx ⟨l7, l15, l16, l17, l18, l19, l20, t10, t40, t48, t49, t50, t51, rfl, hf, hk, rfl, j⟩
          revert hf
          clear hk j
          revert l7 l15 l16 l17 l18 l19 l20
          exact of_decide_eq_true (by kernel_rfl)
        · rintro fuel l ac wx ⟨l7, l15, l16, l17, l18, l19, l20, t10, t40, t48, t49, t50, t51, rfl, hf, hk, rfl, j⟩ hr
          have hall : (l7 && (l15 && (l16 && (l17 && (l18 && (l19 && l20)))))) = true := by
            revert hr
            clear hf j
            revert hk
            revert l7 l15 l16 l17 l18 l19 l20
            exact of_decide_eq_true (by kernel_rfl)
          simp only [Bool.and_eq_true] at hall
          obtain ⟨rfl, rfl, rfl, rfl, rfl, rfl, rfl⟩ := hall
          obtain ⟨d, e10, hd, hdl, -, bx⟩ := j.h19 rfl
          obtain ⟨b1, e49, hb1, o1⟩ := j.h16 rfl
          obtain ⟨b2, e50, hb2, o2⟩ := j.h17 rfl
          have N1 := j.n1 rfl rfl
          have N2 := j.n2 rfl rfl d e10
          have N3 := j.n3 rfl rfl d e10
          subst e10 e49 e50
          have BX := hide (bx rfl)
          have AF : Hid (AffO wx w1.heap.size d (.slice (some ⟨b1, 0, none⟩) 0 0) (.slice (some ⟨b2, 0, none⟩) 0 0) C [] [] []) := hide ⟨⟨o1, fun i hi => absurd hi (by simp [WL])⟩, ⟨o2, fun i hi => absurd hi (by simp [BL])⟩, fun g e e' => by
            simp [Value.ownBlock] at e e'
            subst e
            exact N1 (by rw [e']), fun e => by
            simp [Value.ownBlock] at e
            exact N2 (by rw [e]), fun e => by
            simp [Value.ownBlock] at e
            exact N3 (by rw [e])⟩
          have SX := dr.trans (sinceMono j.S dr.size)
          have hd' : w1.heap.size ≤ d := hd
          clear j o1 o2 bx hr hf hk
          dsimp only
          go_wp2_with fail
          go_meet
          case rel => exact ⟨d, rfl, b1, b2, BX, SX, hd', AF⟩
      case rest =>
        obtain ⟨d, rfl, b1, b2, BX, SX, hd, AF⟩ := hcut
        have O1 := hide (O.out.keep s1)
        clear KC c1 k1 k2 O C1 CW JR JC
        obtain ⟨lo, hlo⟩ : ∃ lo, w1.heap.size = lo := ⟨_, rfl⟩
        rw [hlo] at SX hd AF
        have HLO := hide hlo
        have hzw : w.heap.size ≤ lo := by have := S1.size; omega
        clear hlo
        have T0 := hide AF.out.two
        have c0 := BX.out.c0
        have hdl : d < wc.heap.size := BX.out.lt
        by_cases hsh : ls.length ≤ p + R
        · have hz : (ls.length : Int) ≤ (p : Int) + (R : Int) := by omega
          have HNO : Hid (∀ ms : List MapD, ms.length = K → ¬ MapsS ms (ls.drop p0) []) := hide (fun ms' hl hm => by
            obtain ⟨m, q, hq⟩ := EM.out.next hm (by rw [HK.out, hl]; exact hlt)
            rw [HD.out] at hq
            have h9 := hq.short
            rw [ER.out, List.length_drop] at h9
            omega)
          have SW : w.Since w.heap.size wc := S1.trans (sinceMono (by rw [HLO.out]; exact SX) S1.size)
          go_wp2
          go_ret2
          exact ⟨SW, Or.inl ⟨_, rfl, HNO.out⟩⟩
        have hz : ¬ (ls.length : Int) ≤ (p : Int) + (R : Int) := by omega
        go_wp2_with fail
        clear c0
        go_loopw [11] (fun i wr => ∃ (j gW mW cW gB cB : Nat) (rs : List (Nat × List ByteArray)) (xW xB : List Value), j ≤ R ∧ i = .int .i64 ((j : Int) + 1) ∧ w1.Since lo wr ∧ d < wr.heap.size ∧ Hid (Box4 wr d (.int .i64 (R : Int)) (.int .i64 (C : Int)) (.slice (some ⟨gW, 0, none⟩) mW cW) (.slice (some ⟨gB, 0, none⟩) j cB)) ∧ Hid (Two wr lo d (.slice (some ⟨gW, 0, none⟩) mW cW) (.slice (some ⟨gB, 0, none⟩) j cB) (WL C rs) (BL C rs) xW xB) ∧ Hid (ls.drop (p + 1) = rs ++ ls.drop (p + (j + 1))) ∧ Hid (rs.length = j) ∧ Hid (∀ r ∈ rs, rowOk C r.2) ∧ Hid ((WL C rs).length = mW)) (fun i _ => R + 1 - (intOf i).toNat)
        case atStart => exact ⟨0, b1, 0, 0, b2, 0, [], [], [], Nat.zero_le _, by go_num, SX, hdl, BX, T0, hide rfl, hide rfl, hide (fun r hr => by simp at hr), hide rfl⟩
        case round =>
          clear SX hdl BX T0 AF
          obtain ⟨j, gW, mW, cW, gB, cB, rs, xW, xB, hj, rfl, SX, hdl, BX, TW, EL, HJ, HRS, HMW⟩ := hrel
          have SX1 : w1.Since w1.heap.size wr := by rw [HLO.out]; exact SX
          have SW : w.Since w.heap.size wr := S1.trans (sinceMono SX1 S1.size)
          have b0 := BX.out.c0
          have b1c := BX.out.c1
          by_cases hjr : j < R
          · have hzj : (j : Int) + 1 ≤ (R : Int) := by omega
            obtain ⟨E, hE⟩ : ∃ E, E = p + (j + 1) := ⟨_, rfl⟩
            have hEl : E < ls.length := by omega
            have HDE := drop_get hEl
            obtain ⟨n', hn'⟩ : ∃ n, (ls[E]).1 = n := ⟨_, rfl⟩
            obtain ⟨ws', hws'⟩ : ∃ ws, (ls[E]).2 = ws := ⟨_, rfl⟩
            rw [hn', hws'] at HDE
            have hg : ls[E]? = some (n', ws') := by rw [List.getElem?_eq_getElem hEl, ← hn', ← hws']
            obtain ⟨-, q', cq', e1', hcq', cw0⟩ := HL.out E n' ws' hg
            have e1 := (SW.cell (a := ⟨gl, E * 2 + 1, none⟩) (World.block_lt_of_cell? _ _ e1')).trans e1'
            have HCW : Hid (∀ w', w.Since w.heap.size w' → ∀ (jj : Nat) (x : ByteArray), ws'[jj]? = some x → w'.cell? ⟨q', jj, none⟩ = some (.string x)) := hide (fun w' s jj x hx => (s.cell (a := ⟨q', jj, none⟩) (World.block_lt_of_cell? _ _ (cw0 jj x hx))).trans (cw0 jj x hx))
            have cw' := HCW.out wr SW
            obtain ⟨zw0', zw1', zw2'⟩ := HZ.out.at_ E n' ws' hg
            have EL2 : Hid (ls.drop (p + 1) = rs ++ (n', ws') :: ls.drop (E + 1)) := hide (by rw [EL.out, ← hE, HDE])
            have HE : Hid (p + (j + 1 + 1) = E + 1) := hide (by omega)
            have qE : IntKind.i64.wrap ((p : Int) + ((j : Int) + 1)) = (E : Int) := by rw [IntKind.wrap_i64]; omega
            have hE2 : (E : Int) < (ls.length : Int) := by omega
            have hE0 : (0 : Int) ≤ (E : Int) := by omega
            have hwl' : ws'.length ≤ 100001 := zw1'
            have LX := hide ((World.block_lt_of_cell? _ _ e1 : gl < wr.heap.size))
            have JR := l3Row_q C (some ⟨q', 0, none⟩) q' 0 cq' ws' wr (fun jj x hx => ⟨rfl, by rw [Nat.zero_add]; exact cw' jj x hx⟩) zw2' zw1'
            have ZW2 := hide zw2'
            clear hn' hws' hg HDE hE cw' zw2' cw0 e1'
            go_wp2_with fail
            refine JR.mono ?_
            rintro e w3 ⟨r, rfl, ir, s3⟩
            have IR := hide ir
            clear ir JR e1
            have S3 := SW.trans (sinceMono s3 SW.size)
            cases r
            · have HNO : Hid (∀ ms : List MapD, ms.length = K → ¬ MapsS ms (ls.drop p0) []) := hide (fun ms' hl hm => by
                obtain ⟨m, q, hq⟩ := EM.out.next hm (by rw [HK.out, hl]; exact hlt)
                rw [HD.out] at hq
                have h9 := hq.row EL2.out (by rw [HJ.out, ER.out]; exact hjr)
                rw [EC.out] at h9
                have := IR.out.2 h9
                simp at this)
              clear IR
              go_wp2
              go_ret2
              exact ⟨S3, Or.inl ⟨_, rfl, HNO.out⟩⟩
            have hrow := IR.out.1 (by simp)
            have hlen : ws'.length = C + 1 := hrow.1
            have HROW := hide hrow
            clear IR hrow
            have BX3 := BX.out.keep s3
            have T3 := TW.out.keep s3
            clear b0 b1c
            have b1c := BX3.c1
            have b2c := BX3.c2
            have dr : w3.Since w3.heap.size w3.drew := (World.Since.refl _ _).drew
            have hz3 : w3.drew.heap.size = w3.heap.size := rfl
            have JN : Calls Tryz.prog 54 #[.slice (some ⟨q', 0, none⟩) C cq'] w3.drew fun e w' => ∃ (g4 c4 : Nat) (x4 : List Value), e = .returned (.slice (some ⟨g4, 0, none⟩) C c4) ∧ OutR w' w3.heap.size (.slice (some ⟨g4, 0, none⟩) C c4) C (wd ws') (fun _ q => w3.heap.size ≤ q) x4 ∧ w3.Since w3.heap.size w' := by
              have h1 := l2Nums_q (some ⟨q', 0, none⟩) q' 0 cq' (ws'.take C) w3.drew (fun jj x hx => ⟨rfl, by
                rw [Nat.zero_add]
                rw [List.getElem?_take] at hx
                split at hx
                · exact HCW.out w3.drew (S3.trans (sinceMono dr S3.size)) jj x hx
                · cases hx⟩) (fun x hx => ZW2.out x (List.mem_of_mem_take hx)) (by rw [List.length_take]; omega)
              have h3 : (ws'.take C).length = C := by rw [List.length_take]; omega
              rw [h3] at h1
              refine h1.mono ?_
              rintro e w' ⟨g4, c4, x4, he, O4, s4⟩
              rw [h3] at he O4
              exact ⟨g4, c4, x4, he, O4.congr (fun i hi => wd_take hi), dr.trans (sinceMono s4 dr.size)⟩
            have hCq : C ≤ cq' := by omega
            have hCq' : (C : Int) ≤ (cq' : Int) := by omega
            have hCn : ¬ ((cq' : Int) < (C : Int)) := by omega
            have hCw : C ≤ 100001 := by omega
            have hmW : mW ≤ 100001 * 100001 := by
              have h9 := WL_len HRS.out
              rw [HMW.out, HJ.out] at h9
              rw [h9]
              exact Nat.mul_le_mul (by omega) hCw
            have gWl : lo ≤ gW ∧ gW < wr.heap.size := TW.out.W.own.lt gW rfl
            have gBl : lo ≤ gB ∧ gB < wr.heap.size := TW.out.B.own.lt gB rfl
            have hne2 : gW ≠ d := fun e => TW.out.dW (by rw [e]; rfl)
            have hne3 : gB ≠ d := fun e => TW.out.dB (by rw [e]; rfl)
            have z3 := s3.size
            have f2 := BX3.f 2
            have HLEN := hide hlen
            clear hlen
            go_upto_region 16 with fail
            go_cut [] (fun wx => ∃ (g5 c5 : Nat) (x5 : List Value), Hid (Box4 wx d (.int .i64 (R : Int)) (.int .i64 (C : Int)) (.slice (some ⟨g5, 0, none⟩) (mW + C) c5) (.slice (some ⟨gB, 0, none⟩) j cB)) ∧ Hid (Two wx lo d (.slice (some ⟨g5, 0, none⟩) (mW + C) c5) (.slice (some ⟨gB, 0, none⟩) j cB) (WL C rs ++ ws'.take C) (BL C rs) (xW ++ x5) xB) ∧ w1.Since lo wx ∧ w3.heap.size ≤ wx.heap.size)
            case first =>
              have b1d : w3.drew.cell? ⟨d, 1, none⟩ = some (.int .i64 (C : Int)) := b1c
              have b2d : w3.drew.cell? ⟨d, 2, none⟩ = some (.slice (some ⟨gW, 0, none⟩) mW cW) := b2c
              go_region_law
                (first
                  | (refine step_append_at (by rfl) _ _ 30 (by rfl) lo 61 i1 _ 3 56 Tryz.underlying30 hi1 hr0 hr1 hr2 (by rfl) (by decide) gW cW mW xW (by rfl) OW4.out ⟨g4, 0, none⟩ C c4 x4 (by rfl) hl4 HCL.out HONE.out (by unfold maxLen; omega) (by omega) (by omega) w4.heap.size (by rfl) ?_
                     intro g5 c5 w5 hown hgrow hat hlt5
                     have BX5 := BX4.chg (Chg.of_grown hgrow) (fun e => hne2 (by simpa using e))
                     have p5 := BX5.c2
                     have f5 := BX5.f 2)
                  | (go_simp
                     go_at_call 54
                     with_reducible refine JN.mono ?_
                     rintro e w4 ⟨g4, c4, x4, rfl, O4, s4⟩
                     have BX4 := BX3.keep s4
                     have p4 := BX4.c2
                     have hl4 : x4.length = C * 3 := O4.own.1
                     have HCL := hide (@World.ownsRow.cells _ _ _ _ _ _ _ O4.own (g := g4) rfl)
                     have HONE := hide O4.oneCell
                     have OW4 : Hid (w4.ownsRow lo 61 3 (.slice (some ⟨gW, 0, none⟩) mW cW) mW xW) := hide (by have := (T3.keep s4).W.own; rw [HMW.out] at this; exact this)
                     have HO4 := hide O4
                     have z4 := s4.size
                     clear O4))
              all_goals
                have T5 := (T3.keep s4).add HO4.out (by rw [HLEN.out]; omega) (by omega) (fun q e => by simp [Value.ownBlock] at e; omega) (fun q e => by simp [Value.ownBlock] at e; omega) (by omega) (by omega) z4 (w' := w5) (vW' := .slice (some ⟨g5, 0, none⟩) (mW + C) c5) hgrow (by rw [HMW.out]; exact hown) (by
                  rcases hat with h9 | h9
                  · left; rw [h9]; rfl
                  · right; rw [h9]; rfl)
                have BS : But d w5 (w5.setCell ⟨d, 2, none⟩ (.slice (some ⟨g5, 0, none⟩) (mW + C) c5)) := (But.refl d w5).set 2 _
                have T6 := hide (T5.put BS)
                have BX6 := hide (BX5.set2 (.slice (some ⟨g5, 0, none⟩) (mW + C) c5))
                have z5 := hgrow.size
                have z6 := BS.size
                have S6 : w1.Since lo (w5.setCell ⟨d, 2, none⟩ (.slice (some ⟨g5, 0, none⟩) (mW + C) c5)) := since_set (((SX.trans (sinceMono s3 (by omega))).trans (sinceMono s4 (by omega))).grown hgrow (by omega) (fun q hq => by simp at hq; omega)) hd
                have z36 : w3.heap.size ≤ (w5.setCell ⟨d, 2, none⟩ (.slice (some ⟨g5, 0, none⟩) (mW + C) c5)).heap.size := by omega
                clear T5 BS hown hgrow hat HO4 HCL HONE OW4
                go_wp2_with fail
                go_meet
                case rel => exact ⟨g5, c5, x4, BX6, T6, S6, z36⟩
            case rest =>
            obtain ⟨g5, c5, x5, BX6, T6, SX6, hz6⟩ := hcut
            clear JN b1c b2c f2 BX3 T3 BX TW
            have SX61 : w1.Since w1.heap.size wc := by rw [HLO.out]; exact SX6
            have SWc : w.Since w.heap.size wc := S1.trans (sinceMono SX61 S1.size)
            have hCl : C < ws'.length := by rw [HLEN.out]; omega
            have hxs : (wd ws' C).size ≤ 100000 := ZW2.out _ (wd_mem hCl)
            have cx := HCW.out wc SWc C _ (wd_get hCl)
            have JM := l2Num_q (wd ws' C) wc.drew hxs
            obtain ⟨x, hx⟩ : ∃ x, wd ws' C = x := ⟨_, rfl⟩
            rw [hx] at cx hxs JM
            have HX := hide hx
            have hCl' : (C : Int) < (ws'.length : Int) := by omega
            have hC0 : (0 : Int) ≤ (C : Int) := by omega
            have b1c := BX6.out.c1
            have b3c := BX6.out.c3
            have f3 := BX6.out.f 3
            have g5l : lo ≤ g5 ∧ g5 < wc.heap.size := T6.out.W.own.lt g5 rfl
            have gBl6 : lo ≤ gB ∧ gB < wc.heap.size := T6.out.B.own.lt gB rfl
            clear hx
            go_wp2_with fail
            have dr6 : wc.Since wc.heap.size wc.drew := (World.Since.refl _ _).drew
            have b1d : wc.drew.cell? ⟨d, 1, none⟩ = some (.int .i64 (C : Int)) := b1c
            have b3d : wc.drew.cell? ⟨d, 3, none⟩ = some (.slice (some ⟨gB, 0, none⟩) j cB) := b3c
            have cxd : wc.drew.cell? ⟨q', C, none⟩ = some (.string x) := cx
            go_region_law
              (first
                | (refine step_append_at (by rfl) _ _ 30 (by rfl) lo 61 i1 _ 3 56 Tryz.underlying30 hi1 hr0 hr1 hr2 (by rfl) (by decide) gB cB j xB (by rfl) OB7.out ⟨w7.heap.size, 0, none⟩ 1 1 [.bool nb, .slice a1 q1 c1, .slice a2 q2 c2] (by rfl) (by rfl) (newR _ _ _ _ _) (oneR _ _ _ _ _ _ _) (by unfold maxLen; omega) (by omega) (by simp; omega) (w7.heap.size + 1) (by simp) ?_
                   intro g7 c7 w8 hown hgrow hat hlt8
                   have BX8 := (BX7.keep sW).chg (Chg.of_grown hgrow) (fun e => hne3 (by simpa using e))
                   have p8 := BX8.c3
                   have f8 := BX8.f 3)
                | (go_simp
                   go_at_call 32
                   with_reducible refine JM.mono ?_
                   rintro e w7 ⟨v, rfl, RV, s7⟩
                   have W7 := RV
                   obtain ⟨v1, v2, g1, g2, rfl, N1, N2, -, -, -⟩ := RV
                   obtain ⟨a1, q1, c1, Y1, rfl, -⟩ := N1
                   obtain ⟨a2, q2, c2, Y2, rfl, -⟩ := N2
                   obtain ⟨nb, hnb⟩ : ∃ b, (parseO x).1 = b := ⟨_, rfl⟩
                   have W7 : Hid (WordR w7 (fun q => wc.heap.size ≤ q) (.agg #[.bool nb, .slice a1 q1 c1, .slice a2 q2 c2]) x) := hide (by rw [← hnb]; exact W7)
                   rw [hnb]
                   have HNB := hide hnb
                   have u7 : wc.Since wc.heap.size w7 := dr6.trans (sinceMono s7 dr6.size)
                   have sW := (World.Since.refl w7.heap.size w7).alloc (Nat.le_refl _) (.cells #[.bool nb, .slice a1 q1 c1, .slice a2 q2 c2] 61)
                   have BX7 := BX6.out.keep u7
                   have p7 := BX7.c3
                   have p7' := (BX7.keep sW).c3
                   have OB7 : Hid ((w7.alloc (.cells #[.bool nb, .slice a1 q1 c1, .slice a2 q2 c2] 61)).ownsRow lo 61 3 (.slice (some ⟨gB, 0, none⟩) j cB) j xB) := hide (by have := ((T6.out.keep u7).keep sW).B.own; rw [BL_len, HJ.out] at this; exact this)
                   have z7 := u7.size
                   clear hnb s7))
            all_goals
              have zW : (w7.alloc (.cells #[.bool nb, .slice a1 q1 c1, .slice a2 q2 c2] 61)).heap.size = w7.heap.size + 1 := by simp
              have T8 := (((T6.out.keep u7).keep sW).swap.add (OutR.one W7.out HNB.out) (Nat.le_refl _) (by omega) (fun q e => by simp [Value.ownBlock] at e; omega) (fun q e => by simp [Value.ownBlock] at e; omega) (by omega) (by omega) (by omega) (w' := w8) (vW' := .slice (some ⟨g7, 0, none⟩) (j + 1) c7) hgrow (by rw [BL_len, HJ.out]; exact hown) (by
                rcases hat with h9 | h9
                · left; rw [h9]; rfl
                · right; rw [h9, zW]; rfl)).swap
              have BS : But d w8 (w8.setCell ⟨d, 3, none⟩ (.slice (some ⟨g7, 0, none⟩) (j + 1) c7)) := (But.refl d w8).set 3 _
              have T9 : Hid (Two (w8.setCell ⟨d, 3, none⟩ (.slice (some ⟨g7, 0, none⟩) (j + 1) c7)) lo d (.slice (some ⟨g5, 0, none⟩) (mW + C) c5) (.slice (some ⟨g7, 0, none⟩) (j + 1) c7) (WL C (rs ++ [(n', ws')])) (BL C (rs ++ [(n', ws')])) (xW ++ x5) (xB ++ [.bool nb, .slice a1 q1 c1, .slice a2 q2 c2])) := hide (by
                have h9 := T8.put BS
                rw [WL_snoc, BL_snoc]
                show Two _ _ _ _ _ _ (BL C rs ++ [wd ws' C]) _ _
                rw [HX.out]
                exact h9)
              have BX9 := hide (BX8.set3 (.slice (some ⟨g7, 0, none⟩) (j + 1) c7))
              have z8 := hgrow.size
              have z9 := BS.size
              have S9 : w1.Since lo (w8.setCell ⟨d, 3, none⟩ (.slice (some ⟨g7, 0, none⟩) (j + 1) c7)) := since_set (((SX6.trans (sinceMono u7 (by omega))).trans (sinceMono sW (by omega))).grown hgrow (by omega) (fun q hq => by simp at hq; omega)) hd
              have z99 : d < (w8.setCell ⟨d, 3, none⟩ (.slice (some ⟨g7, 0, none⟩) (j + 1) c7)).heap.size := by omega
              clear T8 BS hown hgrow hat W7 OB7 JM b1c b3c b1d b3d cxd f3 cx BX6 T6
              have HJ9 : Hid ((rs ++ [(n', ws')]).length = j + 1) := hide (by simp; exact HJ.out)
              have HRS9 : Hid (∀ r ∈ rs ++ [(n', ws')], rowOk C r.2) := hide (fun r hr => by
                rcases List.mem_append.1 hr with hr | hr
                · exact HRS.out r hr
                · simp at hr; subst hr; exact HROW.out)
              have EL9 : Hid (ls.drop (p + 1) = (rs ++ [(n', ws')]) ++ ls.drop (p + (j + 1 + 1))) := hide (by rw [EL2.out, HE.out]; simp)
              have HM9 : Hid ((WL C (rs ++ [(n', ws')])).length = mW + C) := hide (by rw [WL_snoc, List.length_append, HMW.out, List.length_take, Nat.min_eq_left (by show C ≤ ws'.length; rw [HLEN.out]; omega)])
              go_wp2
              go_roundw
              case rel => exact ⟨j + 1, g5, mW + C, c5, g7, c7, rs ++ [(n', ws')], _, _, by omega, by go_num, S9, z99, BX9, T9, EL9, HJ9, HRS9, HM9⟩
              case measure => simp [intOf]; omega
          · have e : j = R := by omega
            subst e
            have hzj : ¬ ((j : Int) + 1 ≤ (j : Int)) := by omega
            have b2c := BX.out.c2
            have b3c := BX.out.c3
            have OO := O1.out.keep SX1
            have hkk : ms.length ≤ 1000000 := by rw [HK.out]; omega
            have HAX := hide TW.out.aff.x
            have z9 := SX.size
            have lg := OO.own.lt g rfl
            have OO2 : wr.ownsRow w.heap.size 74 4 (.slice (some ⟨g, 0, none⟩) k cap) k xs := by have := OO.own; rw [HK.out] at this; exact this
            have hgl := (O1.out.own.lt g rfl).2
            rw [HLO.out] at hgl
            go_wp2_with (at_builtin; refine wpList_append_own_at _ rfl _ _ 22 rfl w.heap.size 74 i0 _ 4 64 Tryz.underlying22 hi hz0 hz1 hz2 rfl (by decide) _ k xs rfl (OO2.alloc _) ⟨wr.heap.size, 0, none⟩ 1 1 [.int .i64 (j : Int), .int .i64 (C : Int), .slice (some ⟨gW, 0, none⟩) mW cW, .slice (some ⟨gB, 0, none⟩) j cB] rfl rfl (newA _ _ _ _ _ _) (oneA _ _ _ _ _ _ _ _) (by unfold maxLen; omega) (by omega) (by simp; omega) ?_)
            intro v' w5 hown' hgrow hnn hat
            replace hgrow : (wr.alloc (.cells #[.int .i64 (j : Int), .int .i64 (C : Int), .slice (some ⟨gW, 0, none⟩) mW cW, .slice (some ⟨gB, 0, none⟩) j cB] 74)).grownBy w5 (Value.slice (some ⟨g, 0, none⟩) k cap).ownBlock := hgrow
            obtain ⟨g', capn, rfl, hg1, hg2⟩ := hown'.form (by omega)
            have sW := (World.Since.refl wr.heap.size wr).alloc (Nat.le_refl _) (.cells #[.int .i64 (j : Int), .int .i64 (C : Int), .slice (some ⟨gW, 0, none⟩) mW cW, .slice (some ⟨gB, 0, none⟩) j cB] 74)
            have zW : (wr.alloc (.cells #[.int .i64 (j : Int), .int .i64 (C : Int), .slice (some ⟨gW, 0, none⟩) mW cW, .slice (some ⟨gB, 0, none⟩) j cB] 74)).heap.size = wr.heap.size + 1 := by simp
            have z5 := hgrow.size
            have S5 : w.Since w.heap.size w5 := (SW.trans (sinceMono sW SW.size)).grown hgrow (by omega) (fun q hq => (OO2.lt q hq).1)
            have HM5 : Hid (MapsS (ms ++ [⟨j, C, rs⟩]) (ls.drop p0) (ls.drop (p + 1 + j))) := hide (EM.out.snoc (m := ⟨j, C, rs⟩) (by
              rw [HD.out]
              refine ⟨⟨n, x1, x2, ?_, I1.out, I2.out, ER.out, EC.out⟩, HJ.out, HRS.out⟩
              rw [EL.out, show p + (j + 1) = p + 1 + j by omega]))
            have HK5 : Hid ((ms ++ [(⟨j, C, rs⟩ : MapD)]).length = k + 1) := hide (by simp; exact HK.out)
            have O5 := (OO.congr (D' := mD (ms ++ [⟨j, C, rs⟩])) (fun i hi => (mD_left hi).symm)).snoc sW (by omega) hgrow (by rw [mD_right, HK.out]; exact hown') (by rw [zW]; exact hat) (xW := xW) (xB := xB) (by
              rw [mD_right]
              exact HAX.out.imp (fun q hq hp => ⟨by omega, fun e => by simp [Value.ownBlock] at e; omega⟩))
            have HO5 : Hid (OutA w5 w.heap.size (.slice (some ⟨g', 0, none⟩) (k + 1) capn) (ms ++ [(⟨j, C, rs⟩ : MapD)]).length (mD (ms ++ [⟨j, C, rs⟩])) _ _) := hide (by rw [show (ms ++ [(⟨j, C, rs⟩ : MapD)]).length = ms.length + 1 by simp]; exact O5)
            have kd : w5.heap[d]? = wr.heap[d]? := (hgrow.block d (by omega) (by simp [Value.ownBlock]; omega)).trans (sW.block d hdl)
            have b05 : w5.cell? ⟨d, 0, none⟩ = some (.int .i64 (j : Int)) := (World.cell?_of_block (a := ⟨d, 0, none⟩) kd).trans b0
            clear hnn hat hown' hgrow O5 OO OO2 b0 b1c b2c b3c kd
            go_wp2
            go_roundw
            case rel => exact ⟨k + 1, p + 1 + j, g', capn, ms ++ [⟨j, C, rs⟩], _, _, by omega, by omega, by go_num, by go_num, rfl, S5, HO5, HM5, HK5⟩
            case measure => simp [intOf]; omega
    · have e : k = K := by omega
      subst e
      have hzk : ¬ ((k : Int) < (k : Int)) := by omega
      by_cases hpe : p = ls.length
      · subst hpe
        have hbe : (((ls.length : Nat) : Int) == ((ls.length : Nat) : Int)) = true := by simp
        go_wp2
        go_ret2
        exact ⟨S, Or.inr ⟨ms, _, xs, zs, rfl, HK.out, by have := EM.out; rw [List.drop_length] at this; exact this, by have := O.out; rw [← HK.out] at this ⊢; exact this⟩⟩
      · have hbe : ((p : Int) == ((ls.length : Nat) : Int)) = false := by simp; omega
        have hne : ¬ ((p : Int) = ((ls.length : Nat) : Int)) := by omega
        have HNO : Hid (∀ ms : List MapD, ms.length = k → ¬ MapsS ms (ls.drop p0) []) := hide (fun ms' hl hm => by
          have := (EM.out.only hm (by rw [HK.out, hl])).2
          have h9 := congrArg List.length this
          rw [List.length_drop] at h9
          simp at h9
          omega)
        go_wp2
        go_ret2
        exact ⟨S, Or.inl ⟨_, rfl, HNO.out⟩⟩

end Go.Proofs.YtnogbaapcjjngaaGreatDoor

namespace Go.Proofs.YtnogbaapcjjngaaGreatDoor
open Go.RowKit

theorem results_net_tmp {fn : Func} {p q : Tmp} (h : fn.results = #[.cell p 24, .tmp q]) (tmps : Array Value) (w : World) (c : Nat) (x : Value)
    (hp : tmps.getD p undef = .pointer (some ⟨c, 0, none⟩)) (B : Box1 w c x) : (results fn tmps).run Tryz.prog w = .ok (.tuple #[.agg #[x], tmps.getD q undef]) w := by
  have hp' : tmps[p]?.getD undef = .pointer (some ⟨c, 0, none⟩) := by simpa using hp
  have hl := run_loadVar_mid (P := Tryz.prog) w c 0 24 [x] _ (fun j v hv => by
    rcases j with _ | j
    · simp at hv; subst hv; exact B.c0
    · simp at hv) Tryz.underlying24 rfl size_net
  simp [results, h, hp', asAddr, hl]

/-- How spec.ReadNet ends. -/
def SnE (w w' : World) (s : ByteArray) (ls : List (Nat × List ByteArray)) (e : Ending) : Prop :=
  (100000 < s.size ∧ e = .returned (.tuple #[.agg #[.slice none 0 0], .int .i64 1])) ∨
  (s.size ≤ 100000 ∧ (∀ ms, ¬ NetS (ls) ms) ∧ e = .returned (.tuple #[.agg #[.slice none 0 0], .int .i64 2])) ∨
  (s.size ≤ 100000 ∧ ∃ ms, NetS (ls) ms ∧ ¬ NetP ms.length (mapA ms) ∧ e = .returned (.tuple #[.agg #[.slice none 0 0], .int .i64 3])) ∨
  (s.size ≤ 100000 ∧ ∃ ms v xs zs, NetS (ls) ms ∧ NetP ms.length (mapA ms) ∧ e = .returned (.tuple #[.agg #[v], .int .i64 0]) ∧ OutA w' w.heap.size v ms.length (mD ms) xs zs)

set_option maxHeartbeats 12800000 in
set_option maxRecDepth 100000 in
theorem specReadNet_any (s : ByteArray) (w : World) (hs : s.size ≤ 9223372036854775807) :
    Calls Tryz.prog 6 #[.string s] w fun e w' => w.Since w.heap.size w' ∧ SnE w w' s (lnsF 0 (pcs 10 s)) e := by
  have sA : w.Since w.heap.size (w.alloc (.cells #[.slice none 0 0] 24)) := (World.Since.refl _ _).alloc (Nat.le_refl _) _
  have bA := Box1.new w (.slice none 0 0) 24
  have ZA : (w.alloc (.cells #[.slice none 0 0] 24)).heap.size = w.heap.size + 1 := by simp
  have FIN : Hid (∀ (w1 : World), w.Since w.heap.size w1 → Box1 w1 w.heap.size (.slice none 0 0) → ∀ v : Value, Box1 (w1.setCell ⟨w.heap.size, 0, none⟩ v) w.heap.size v ∧ w.Since w.heap.size (w1.setCell ⟨w.heap.size, 0, none⟩ v)) := hide (fun w1 s1 b v => ⟨⟨World.cell?_setCell_same _ _ _ b.c0, fun q => by simpa using b.f q⟩, since_set s1 (Nat.le_refl _)⟩)
  by_cases hlong : 100000 < s.size
  · have hzl : (100000 : Int) < (s.size : Int) := by omega
    have a0 := bA.c0
    have fa := bA.f 0
    go_enter Tryz.func6, Tryz.ntmps6
    go_wp2
    refine bodyPost_ret (results_net_tmp rfl _ _ _ _ rfl bA) rfl ?_
    exact ⟨sA, Or.inl ⟨hlong, rfl⟩⟩
  have hzl : ¬ (100000 : Int) < (s.size : Int) := by omega
  have hle : s.size ≤ 100000 := by omega
  have Z := lnsF_z hle
  have JL := l2Lines_q s (w.alloc (.cells #[.slice none 0 0] 24)) hle
  obtain ⟨ls, hls⟩ : ∃ ls, lnsF 0 (pcs 10 s) = ls := ⟨_, rfl⟩
  have HLS := hide hls
  unfold LinesE at JL
  rw [hls] at Z JL ⊢
  clear hls
  have hll := Z.len
  go_enter Tryz.func6, Tryz.ntmps6
  go_wp2_with fail
  generalize w.alloc (.cells #[.slice none 0 0] 24) = wA at *
  refine JL.mono ?_
  rintro e w1 ⟨gl, cl, rfl, LL, s1⟩
  have S1 : w.Since w.heap.size w1 := sA.trans (sinceMono s1 sA.size)
  have b1 := bA.keep s1
  have HZ := hide Z
  clear JL Z
  obtain ⟨N, hN⟩ : ∃ N, ls.length = N := ⟨_, rfl⟩
  rw [hN] at hll ⊢
  have HNL := hide hN
  clear hN
  by_cases hz0 : N = 0
  · have he : ls = [] := List.length_eq_zero_iff.1 (by rw [HNL.out]; exact hz0)
    have hz0' : (N : Int) = 0 := by omega
    have HNO : Hid (∀ ms, ¬ NetS ls ms) := hide (fun ms hm => by
      obtain ⟨_, _, _, e, _⟩ := hm
      rw [he] at e; cases e)
    have a0 := b1.c0
    have fa := b1.f 0
    obtain ⟨B9, S9⟩ := FIN.out _ S1 b1 (.slice none 0 0)
    clear he hz0
    go_wp2
    refine bodyPost_ret (results_net_tmp rfl _ _ _ _ rfl B9) rfl ?_
    exact ⟨S9, Or.inr (Or.inl ⟨hle, HNO.out, rfl⟩)⟩
  have hz0' : ¬ (N : Int) = 0 := by omega
  have hpl : 0 < ls.length := by rw [HNL.out]; omega
  have hpl' : (0 : Int) < (N : Int) := by omega
  have HD := drop_get hpl
  clear hz0
  obtain ⟨n, hn⟩ : ∃ n, (ls[0]).1 = n := ⟨_, rfl⟩
  obtain ⟨ws, hws⟩ : ∃ ws, (ls[0]).2 = ws := ⟨_, rfl⟩
  rw [hn, hws, List.drop_zero] at HD
  have hg : ls[0]? = some (n, ws) := by rw [List.getElem?_eq_getElem hpl, ← hn, ← hws]
  obtain ⟨-, q, cq, c1, -, cw⟩ := LL 0 n ws hg
  obtain ⟨zw0, zw1, zw2⟩ := HZ.out.at_ 0 n ws hg
  have HD := hide HD
  have JS : Calls Tryz.prog 19 #[.slice (some ⟨q, 0, none⟩) ws.length cq, .string ⟨#[110, 101, 116]⟩, .int .i64 1, .int .i64 0, .int .i64 0] w1 fun e w' => RetB w1 (shapeOk ws netW 1 0 0) e w' := l2Shape_q netW 1 0 0 (some ⟨q, 0, none⟩) q 0 cq ws w1 (fun j x hx => ⟨rfl, by rw [Nat.zero_add]; exact cw j x hx⟩) zw2 zw0 zw1 (by omega) (by omega) (by omega) (by omega)
  have CW := hide cw
  have HLL := hide LL
  rw [Nat.zero_mul, Nat.zero_add] at c1
  have C1 := hide c1
  clear hn hws hg cw zw2 LL hpl
  go_wp2_with fail
  refine JS.mono ?_
  rintro e w2 ⟨r, rfl, ir, s2⟩
  have IR := hide ir
  have S2 := S1.trans (sinceMono s2 S1.size)
  have b2 := b1.keep s2
  clear ir JS c1
  cases r
  · have HNO : Hid (∀ ms, ¬ NetS ls ms) := hide (fun ms hm => by
      obtain ⟨n0, x1, r, e, j1, _⟩ := hm
      rw [HD.out] at e
      simp only [List.cons.injEq, Prod.mk.injEq] at e
      have := IR.out.2 (shape_net.2 ⟨x1, e.1.2, j1⟩)
      simp at this)
    have a0 := b2.c0
    have fa := b2.f 0
    obtain ⟨B9, S9⟩ := FIN.out _ S2 b2 (.slice none 0 0)
    clear IR
    go_wp2
    refine bodyPost_ret (results_net_tmp rfl _ _ _ _ rfl B9) rfl ?_
    exact ⟨S9, Or.inr (Or.inl ⟨hle, HNO.out, rfl⟩)⟩
  obtain ⟨x1, rfl, j1⟩ := shape_net.1 (IR.out.1 (by simp))
  have hK := isInt_lim j1
  obtain ⟨K, eK⟩ : ∃ K, dv x1 x1.size = K := ⟨_, rfl⟩
  have JK := l2Int_d x1 w2 j1
  rw [eK] at JK hK
  have EK := hide eK
  have I1 := hide j1
  have c1 : w2.cell? ⟨gl, 1, none⟩ = some (.slice (some ⟨q, 0, none⟩) 2 cq) := (s2.cell (a := ⟨gl, 1, none⟩) (World.block_lt_of_cell? _ _ C1.out)).trans C1.out
  have k1 : w2.cell? ⟨q, 1, none⟩ = some (.string x1) := by
    have h9 := CW.out 1 x1 rfl
    exact (s2.cell (a := ⟨q, 1, none⟩) (World.block_lt_of_cell? _ _ h9)).trans h9
  clear eK j1 IR
  go_wp2_with fail
  refine JK.mono ?_
  rintro e w3 ⟨rfl, s3⟩
  have S3 := S2.trans (sinceMono s3 S2.size)
  have b3 := b2.keep s3
  have JM : Calls Tryz.prog 20 #[.slice (some ⟨gl, 0, none⟩) N cl, .int .i64 1, .int .i64 (K : Int)] w3 fun e w' => MapsE w3 w' (ls.drop 1) K e := by
    have h9 := l3Maps_q gl cl 1 K ls w3 ((HLL.out.keep s2).keep s3) HZ.out (by rw [HNL.out]; omega) (by omega)
    rw [HNL.out] at h9
    exact h9
  clear JK c1 k1
  go_wp2_with fail
  refine JM.mono ?_
  rintro e w4 ⟨s4, ⟨v, rfl, hno⟩ | ⟨ms, v, xs, zs, rfl, hlen, hms, O4⟩⟩
  · have HNO : Hid (∀ ms, ¬ NetS ls ms) := hide (fun ms hm => by
      obtain ⟨n0, y1, r, e, j1, hl, hm⟩ := hm
      rw [HD.out] at e
      simp only [List.cons.injEq, Prod.mk.injEq, and_true, true_and] at e
      obtain ⟨⟨-, rfl⟩, e2⟩ := e
      refine hno ms (by rw [hl, EK.out]) ?_
      rw [show ls.drop 1 = r from e2]
      exact hm)
    have S4 := S3.trans (sinceMono s4 S3.size)
    have b4 := b3.keep s4
    have a0 := b4.c0
    have fa := b4.f 0
    obtain ⟨B9, S9⟩ := FIN.out _ S4 b4 (.slice none 0 0)
    clear JM hno
    go_wp2
    refine bodyPost_ret (results_net_tmp rfl _ _ _ _ rfl B9) rfl ?_
    exact ⟨S9, Or.inr (Or.inl ⟨hle, HNO.out, rfl⟩)⟩
  have S4 := S3.trans (sinceMono s4 S3.size)
  have b4 := b3.keep s4
  have hnet : NetS ls ms := ⟨n, x1, ls.drop 1, HD.out, I1.out, by rw [hlen, EK.out], hms⟩
  obtain ⟨L1, L2, L3⟩ := NetS.lims hle (by rw [HLS.out]; exact hnet)
  have HN := hide hnet
  have z3 : w.heap.size ≤ w3.heap.size := by have := S3.size; omega
  obtain ⟨a, g, cap, rfl, -, AF⟩ := O4.affs (fun i hi => (L3 i hi).1) (fun i hi => by have := (L3 i hi).2; omega)
  have sC : w4.Since w4.heap.size (w4.alloc (.cells #[.slice a ms.length cap] 24)) := (World.Since.refl _ _).alloc (Nat.le_refl _) _
  have bC := Box1.new w4 (.slice a ms.length cap) 24
  have S5 := S4.trans (sinceMono sC S4.size)
  have b5 := b4.keep sC
  have O5 := hide (O4.keep sC)
  have z3' := b3.lt
  have AF5 := AF.keep sC
  have HDIV : Hid (w4.heap.size ≠ w.heap.size) := hide (by have := S4.size; have := s4.size; have := b3.lt; omega)
  clear JM hlen hms hnet O4 AF
  go_wp2_with fail
  generalize w4.alloc (.cells #[.slice a ms.length cap] 24) = w5 at *
  refine (specNetOk_any a 0 g 0 ms.length cap (mapA ms) w5 (by omega) (by omega) AF5).mono ?_
  rintro e w6 ⟨r, rfl, i6, s6⟩
  have I6 := hide i6
  have S6 := S5.trans (sinceMono s6 S5.size)
  have b6 := b5.keep s6
  have bC6 := bC.keep s6
  have a0 := b6.c0
  have fa := b6.f 0
  have e0 := bC6.c0
  clear i6 AF5
  cases r
  · obtain ⟨B9, S9⟩ := FIN.out _ S6 b6 (.slice none 0 0)
    go_wp2
    refine bodyPost_ret (results_net_tmp rfl _ _ _ _ rfl B9) rfl ?_
    exact ⟨S9, Or.inr (Or.inr (Or.inl ⟨hle, ms, HN.out, fun h => by have := I6.out.2 h; simp at this, rfl⟩))⟩
  · obtain ⟨B9, S9⟩ := FIN.out _ S6 b6 (.slice a ms.length cap)
    have BT : But w.heap.size w6 (w6.setCell ⟨w.heap.size, 0, none⟩ (.slice a ms.length cap)) := (But.refl _ w6).set 0 _
    have O9 := hide (((O5.out.keep s6).but BT z3').lower z3)
    clear BT
    go_wp2
    refine bodyPost_ret (results_net_tmp rfl _ _ _ _ rfl B9) rfl ?_
    refine ⟨S9, Or.inr (Or.inr (Or.inr ⟨hle, ms, _, xs, zs, HN.out, I6.out.1 (by simp), rfl, O9.out⟩))⟩

end Go.Proofs.YtnogbaapcjjngaaGreatDoor

namespace Go.Proofs.YtnogbaapcjjngaaGreatDoor
open Go.RowKit

theorem Box1.fra {w w' : World} {S : Nat → Prop} {c : Nat} {x : Value} (h : Box1 w c x) (F : Fra w w' S) (hS : ¬ S c) : Box1 w' c x :=
  ⟨by rw [F.cell (a := ⟨c, 0, none⟩) hS]; exact h.c0, fun q => by rw [F.frozen]; exact h.f q⟩

theorem NetS.only {rest : List (Nat × List ByteArray)} {ms ms' : List MapD} (h : NetS rest ms) (k : NetS rest ms') : ms = ms' := by
  obtain ⟨n0, x1, r, e, _, hl, hm⟩ := h
  obtain ⟨n0', x1', r', e', _, hl', hm'⟩ := k
  rw [e] at e'
  simp only [List.cons.injEq, Prod.mk.injEq, and_true, true_and] at e'
  obtain ⟨⟨-, rfl⟩, rfl⟩ := e'
  exact (hm.only hm' (by rw [hl, hl'])).1

theorem NetS.rows {rest : List (Nat × List ByteArray)} {ms : List MapD} (h : NetS rest ms) {i : Nat} (hi : i < ms.length) : ∀ r ∈ (mD ms i).rs, rowOk (mD ms i).C r.2 := by
  obtain ⟨n0, x1, r, e, _, hl, hm⟩ := h
  have hmem : mD ms i ∈ ms := by
    unfold mD
    rw [List.getD_eq_getElem?_getD, List.getElem?_eq_getElem hi]
    exact List.getElem_mem hi
  obtain ⟨_, _, h⟩ := hm.all _ hmem
  exact h.rows

theorem psN_le {A : Nat → AffD} {z : Nat → Nat} {n : Nat} (h : ∀ i, i < n → z i ≤ (A i).size) : ∀ i, i ≤ n → psN z i ≤ szA A i := by
  intro i
  induction i with
  | zero => intro _; exact Nat.le_refl _
  | succ i ih =>
    intro hi
    rw [szA_succ, psN]
    have := ih (by omega)
    have := h i (by omega)
    omega

/-- What ReadNet answers: n maps A and a code, in memory of its own. -/
structure ROut (s : ByteArray) (n : Nat) (A : Nat → AffD) (code : Int) (z : Nat → Nat) : Prop where
  hz : szA A n ≤ 8500085
  hn : n ≤ 999999
  c0 : 0 ≤ code
  c1 : code ≤ 3
  ps : ∀ i, i ≤ n → psN z i ≤ 16777216
  spec : ∀ w : World, Calls Tryz.prog 6 #[.string s] w fun e w' => ∃ a g cap, e = .returned (.tuple #[.agg #[.slice a n cap], .int .i64 code]) ∧ Affs w' 0 a g 0 n A ∧ w.Since w.heap.size w'
  impl : ∀ w : World, Calls Tryz.prog 7 #[.string s] w fun e w' => ∃ a g c cap p, e = .returned (.tuple #[.agg #[.slice a n cap], .int .i64 code]) ∧ Affs w' 0 a g 0 n A ∧ NetQ w' a c n p z ∧ (∀ q, setQ c n p q → w.heap.size ≤ q ∧ q < w'.heap.size) ∧ w.Since w.heap.size w'

theorem NetQ.none (w : World) (z : Nat → Nat) : NetQ w none 0 0 (fun _ _ => False) z :=
  ⟨fun h => absurd h (by omega), ⟨fun i j q hi => absurd hi (by omega), fun i q hi => absurd hi (by omega)⟩, fun h => absurd h (by omega), fun i _ hi => absurd hi (by omega)⟩

theorem ROut.no {s : ByteArray} {code : Int} (h0 : 0 ≤ code) (h1 : code ≤ 3)
    (hs : ∀ w : World, Calls Tryz.prog 6 #[.string s] w fun e w' => e = .returned (.tuple #[.agg #[.slice none 0 0], .int .i64 code]) ∧ w.Since w.heap.size w')
    (hi : ∀ w : World, Calls Tryz.prog 7 #[.string s] w fun e w' => e = .returned (.tuple #[.agg #[.slice none 0 0], .int .i64 code]) ∧ w.Since w.heap.size w') : ROut s 0 (fun _ => AffD.nul) code (fun _ => 0) :=
  ⟨by simp [szA], by omega, h0, h1, fun i hi => (by
    obtain rfl : i = 0 := by omega
    simp [psN]), fun w => (hs w).mono (fun e w' ⟨he, s⟩ => ⟨none, 0, 0, he, fun i hi => absurd hi (by omega), s⟩),
    fun w => (hi w).mono (fun e w' ⟨he, s⟩ => ⟨none, 0, 0, 0, _, he, fun i hi => absurd hi (by omega), NetQ.none _ _, fun q hq => absurd hq.1 (by omega), s⟩)⟩

theorem readNet_out (s : ByteArray) (hs : s.size ≤ 9223372036854775807) : ∃ n A code z, ROut s n A code z := by
  by_cases hl : 100000 < s.size
  · refine ⟨0, _, 1, _, ROut.no (by omega) (by omega) (fun w => (specReadNet_any s w hs).mono ?_) (fun w => (implReadNet_any s w hs).mono ?_)⟩
    · rintro e w' ⟨S, ⟨-, he⟩ | ⟨h, -⟩ | ⟨h, -⟩ | ⟨h, -⟩⟩
      · exact ⟨he, S⟩
      all_goals omega
    · rintro e w' ⟨S, ⟨-, he⟩ | ⟨h, -⟩ | ⟨h, -⟩ | ⟨h, -⟩⟩
      · exact ⟨he, S⟩
      all_goals omega
  have hle : s.size ≤ 100000 := by omega
  by_cases hm : ∃ ms, NetS (lnsF 0 (pcs 10 s)) ms
  rotate_left
  · have hno : ∀ ms, ¬ NetS (lnsF 0 (pcs 10 s)) ms := fun ms h => hm ⟨ms, h⟩
    refine ⟨0, _, 2, _, ROut.no (by omega) (by omega) (fun w => (specReadNet_any s w hs).mono ?_) (fun w => (implReadNet_any s w hs).mono ?_)⟩
    · rintro e w' ⟨S, ⟨h, -⟩ | ⟨-, -, he⟩ | ⟨-, ms, h, -⟩ | ⟨-, ms, v, xs, zs, h, -⟩⟩
      · omega
      · exact ⟨he, S⟩
      · exact absurd h (hno ms)
      · exact absurd h (hno ms)
    · rintro e w' ⟨S, ⟨h, -⟩ | ⟨-, -, he⟩ | ⟨-, ms, h, -⟩ | ⟨-, ms, v, xs, zs, h, -⟩⟩
      · omega
      · exact ⟨he, S⟩
      · exact absurd h (hno ms)
      · exact absurd h (hno ms)
  obtain ⟨ms, hm⟩ := hm
  by_cases hP : NetP ms.length (mapA ms)
  rotate_left
  · refine ⟨0, _, 3, _, ROut.no (by omega) (by omega) (fun w => (specReadNet_any s w hs).mono ?_) (fun w => (implReadNet_any s w hs).mono ?_)⟩
    · rintro e w' ⟨S, ⟨h, -⟩ | ⟨-, h, -⟩ | ⟨-, ms', -, -, he⟩ | ⟨-, ms', v, xs, zs, h, h', -⟩⟩
      · omega
      · exact absurd hm (h ms)
      · exact ⟨he, S⟩
      · rw [← hm.only h] at h'; exact absurd h' hP
    · rintro e w' ⟨S, ⟨h, -⟩ | ⟨-, h, -⟩ | ⟨-, ms', -, -, he⟩ | ⟨-, ms', v, xs, zs, h, h', -⟩⟩
      · omega
      · exact absurd hm (h ms)
      · exact ⟨he, S⟩
      · rw [← hm.only h] at h'; exact absurd h' hP
  obtain ⟨L1, L2, L3⟩ := NetS.lims hle hm
  refine ⟨ms.length, mapA ms, 0, fun i => (WL (mD ms i).C (mD ms i).rs).length + (BL (mD ms i).C (mD ms i).rs).length, L1, L2, by omega, by omega, fun i hi => ?_, fun w => (specReadNet_any s w hs).mono ?_, fun w => (implReadNet_any s w hs).mono ?_⟩
  · have h1 := psN_le (A := mapA ms) (z := fun i => (WL (mD ms i).C (mD ms i).rs).length + (BL (mD ms i).C (mD ms i).rs).length) (n := ms.length) (fun i _ => by
      show _ ≤ AffD.size (mD ms i).A
      unfold AffD.size MapD.A
      simp only
      omega) i hi
    have h2 := szA_mono (A := mapA ms) hi
    omega
  · rintro e w' ⟨S, ⟨h, -⟩ | ⟨-, h, -⟩ | ⟨-, ms', h, h', -⟩ | ⟨-, ms', v, xs, zs, h, -, he, O⟩⟩
    · omega
    · exact absurd hm (h ms)
    · rw [← hm.only h] at h'; exact absurd hP h'
    · obtain rfl := hm.only h
      obtain ⟨a, g, cap, rfl, -, AF⟩ := O.affs (fun i hi => (L3 i hi).1) (fun i hi => by have := (L3 i hi).2; omega)
      exact ⟨a, g, cap, he, AF, S⟩
  · rintro e w' ⟨S, ⟨h, -⟩ | ⟨-, h, -⟩ | ⟨-, ms', h, h', -⟩ | ⟨-, ms', v, xs, zs, h, -, he, O, hi, ap⟩⟩
    · omega
    · exact absurd hm (h ms)
    · rw [← hm.only h] at h'; exact absurd hP h'
    · obtain rfl := hm.only h
      obtain ⟨a, g, cap, rfl, -, AF⟩ := O.affs (fun i hi => (L3 i hi).1) (fun i hi => by have := (L3 i hi).2; omega)
      obtain ⟨a', c, cap', e', NQ⟩ := O.netq ap (z := fun i => (WL (mD ms i).C (mD ms i).rs).length + (BL (mD ms i).C (mD ms i).rs).length) (fun i hi => hm.rows hi) (fun i hi => ⟨Nat.le_refl _, by have := (L3 i hi).2; show _ + _ ≤ _; omega⟩)
      simp only [Value.slice.injEq, true_and] at e'
      obtain ⟨rfl, rfl⟩ := e'
      refine ⟨a, g, c, cap, _, he, AF, NQ, fun q hq => ?_, S⟩
      rcases hq with ⟨h0, rfl | ⟨i, hi, y, u, hy, hu, eu⟩⟩
      · exact O.own.lt q (by rw [NQ.ha h0]; rfl)
      · refine ⟨(ap.1 u (List.mem_flatten.2 ⟨y, List.mem_of_getElem? hy, hu⟩) q eu).1, ?_⟩
        obtain ⟨vW, vB, xW, xB, -, -, -, -, AX, hz⟩ := O.at_ i hi
        rw [hy] at hz
        simp only [Option.some.injEq] at hz
        subst hz
        rcases List.mem_cons.1 hu with rfl | hu
        · exact (AX.W.own.lt q (eb_own eu)).2
        · rcases List.mem_cons.1 hu with rfl | hu
          · exact (AX.B.own.lt q (eb_own eu)).2
          · rcases List.mem_append.1 hu with hu | hu
            · obtain ⟨_, _, _, _, h⟩ := AX.W.mem hu eu; exact h
            · obtain ⟨_, _, _, _, h⟩ := AX.B.mem hu eu; exact h

set_option maxHeartbeats 6400000 in
set_option maxRecDepth 100000 in
theorem readNet_law (s : ByteArray) (w : World) (hs : s.size ≤ 1048576) :
    Calls Tryz.prog 3 #[.string s] w fun e w' => e = .returned (.bool true) ∧ w.Since w.heap.size w' := by
  obtain ⟨n, A, code, z, R⟩ := readNet_out s (by omega)
  have hn := R.hn
  have hz := R.hz
  have hps := hide R.ps
  have RS := R.spec
  have RI := R.impl
  have hc0 := R.c0
  have hc1 := R.c1
  have hs' : ¬ (1048576 : Int) < (s.size : Int) := by omega
  clear R
  go_enter Tryz.func3, Tryz.ntmps3
  go_wp2_with fail
  refine (RS w).mono ?_
  rintro e w1 ⟨a, g, cap, rfl, A1, s1⟩
  have t1 : w1.Since w1.heap.size (w1.alloc (.cells #[.slice a n cap] 24)) := (World.Since.refl _ _).alloc (Nat.le_refl _) _
  have b2 := Box1.new w1 (.slice a n cap) 24
  have S2 := s1.trans (sinceMono t1 s1.size)
  have A2 := A1.keep t1
  clear A1
  go_wp2_with fail
  generalize w1.alloc (.cells #[.slice a n cap] 24) = w2 at *
  generalize w1.heap.size = d1 at *
  refine (RI w2).mono ?_
  rintro e w3 ⟨a', g', c, cap', p, rfl, A3', Q3, hset, s3⟩
  have t3 : w3.Since w3.heap.size (w3.alloc (.cells #[.slice a' n cap'] 24)) := (World.Since.refl _ _).alloc (Nat.le_refl _) _
  have b4' := Box1.new w3 (.slice a' n cap') 24
  have u4 := s3.trans (sinceMono t3 s3.size)
  have b4 := b2.keep u4
  have A4 := A2.keep u4
  have A4' := A3'.keep t3
  have Q4 := Q3.keep t3
  have HA := hide Q3.ha
  have z3 := s3.size
  clear A3' Q3
  have e4 := b4.c0
  have HSET := hide hset
  clear hset
  go_wp2_with fail
  generalize w3.alloc (.cells #[.slice a' n cap'] 24) = w4 at *
  generalize hd3 : w3.heap.size = d3 at *
  refine (eqNet_true a' a 0 g' 0 cap' 0 g 0 cap n A w4 (by omega) (by omega) A4' A4).mono ?_
  rintro e w5 ⟨rfl, s5⟩
  have u5 := u4.trans (sinceMono s5 u4.size)
  have b5 := b2.keep u5
  have b5' := b4'.keep s5
  have A5 := A2.keep u5
  have Q5 := Q4.keep s5
  have e5 := b5.c0
  have e5' := b5'.c0
  clear A4' A4 Q4 b4 b4' e4
  have hcc : (code == code) = true := by simp
  go_wp2_with fail
  refine (markNet_p a' c n cap' 1 p z w5 (by omega) (by omega) hps.out Q5).mono ?_
  rintro e w6 ⟨K, hK0, hKn, rfl, wm, sm, F, M⟩
  have v6 : wm.Since w2.heap.size w6 := F.since (fun q hq => (HSET.out q hq).1)
  have u6 : w2.Since w2.heap.size w6 := (u5.trans (sinceMono sm (by have := u5.size; omega))).trans v6
  have b6 := b2.keep u6
  have A6 := A2.keep u6
  have hd3n : ¬ setQ c n p d3 := fun h => by have := (HSET.out d3 h).2; omega
  have b6' : Box1 w6 d3 (.slice a' n cap') := Box1.fra (b5'.keep sm) F hd3n
  have e6' := b6'.c0
  have HM := hide M
  have HKN := hide hKn
  have HK0 := hide hK0
  obtain ⟨k, hk⟩ : ∃ k, K n = k := ⟨_, rfl⟩
  have hkb := hKn n (Nat.le_refl _)
  rw [hk] at hkb ⊢
  have HK := hide hk
  clear M hKn hK0 hk e5 e5' b5 b5' Q5
  go_wp2_with fail
  have hQ6 : 0 < n → a' = some ⟨c, 0, none⟩ := HA.out
  refine (heldNet_p a' c n cap' 1 p K w6 (by omega) HK0.out hQ6 HKN.out HM.out).mono ?_
  rintro e w7 ⟨rfl, s7⟩
  rw [HK.out]
  have u7 := u6.trans (sinceMono s7 u6.size)
  have S7 : w.Since w.heap.size w7 := S2.trans (sinceMono u7 S2.size)
  have b7 := b2.keep u7
  have A7 := A2.keep u7
  have e7 := b7.c0
  have hk0 : ¬ ((k : Int) < 0) := by omega
  have hkk : ((k : Int) == (k : Int)) = true := by simp
  clear e6' b6 b6' A6 F HM
  go_wp2_with fail
  refine (RI w7).mono ?_
  rintro e w8 ⟨a2, g2, c2, cap2, p2, rfl, A8', -, -, s8⟩
  have t8 : w8.Since w8.heap.size (w8.alloc (.cells #[.slice a2 n cap2] 24)) := (World.Since.refl _ _).alloc (Nat.le_refl _) _
  have b9' := Box1.new w8 (.slice a2 n cap2) 24
  have u9 := u7.trans (sinceMono (s8.trans (sinceMono t8 s8.size)) u7.size)
  have S9 : w.Since w.heap.size (w8.alloc (.cells #[.slice a2 n cap2] 24)) := S2.trans (sinceMono u9 S2.size)
  have b9 := b2.keep u9
  have A9 := A2.keep u9
  have A9' := A8'.keep t8
  have e9 := b9.c0
  clear A8' e7 b7 A7
  go_wp2_with fail
  generalize w8.alloc (.cells #[.slice a2 n cap2] 24) = w9 at *
  refine (eqNet_true a2 a 0 g2 0 cap2 0 g 0 cap n A w9 (by omega) (by omega) A9' A9).mono ?_
  rintro e w10 ⟨rfl, s10⟩
  have S10 := S9.trans (sinceMono s10 S9.size)
  go_wp2
  go_ret
  exact ⟨rfl, S10⟩

set_option maxHeartbeats 1600000 in
set_option maxRecDepth 100000 in
theorem readNet_long (s : ByteArray) (w : World) (hs : 1048576 < s.size) (hs2 : s.size ≤ 9223372036854775807) :
    Calls Tryz.prog 3 #[.string s] w fun e w' => e = .returned (.bool true) ∧ w.Since w.heap.size w' := by
  have hs' : (1048576 : Int) < (s.size : Int) := by omega
  go_enter Tryz.func3, Tryz.ntmps3
  go_wp2
  go_ret
  exact ⟨rfl, World.Since.refl _ _⟩

end Go.Proofs.YtnogbaapcjjngaaGreatDoor
