import Derived.Test.YtigggjcnnlidgaaW1
import Derived.Test.YtigggjcnnlidgaaW2
import Derived.Test.YtigggjcnnlidgaaW8
namespace Go.Proofs.Ytigggjcnnlidgaa
open Go.RowKit

set_option maxHeartbeats 3200000 in
set_option maxRecDepth 100000 in
theorem natMul_long (a a' : Option Addr) (n cap m cap' : Nat) (w : World) (hn : n ≤ 9223372036854775807) (hm : m ≤ 9223372036854775807) (h : 1048576 < n ∨ 1048576 < m) :
    Calls Try.prog 3 #[.slice a n cap, .slice a' m cap'] w fun e w' => e = .returned (.bool true) ∧ w.Since w.heap.size w' := by
  by_cases h1 : 1048576 < n
  · go_enter Try.func3, Try.ntmps3
    go_wp2
    go_ret
    exact ⟨rfl, World.Since.refl _ _⟩
  · have h2 : 1048576 < m := by omega
    go_enter Try.func3, Try.ntmps3
    go_wp2
    go_ret
    exact ⟨rfl, World.Since.refl _ _⟩

/-- What the law holds in hand behind its two calls: the two answers (g3: the specification's, g6: the function's), the two arguments handed over (x0, x1). -/
structure St (w wk : World) (a3 a6 : Option Addr) (g3 g6 x0 x1 n m t : Nat) (X Y Z : Nat → Nat) : Prop where
  S : w.Since w.heap.size wk
  L3 : Limbs wk a3 g3 0 t Z
  L4 : Limbs wk (some ⟨x0, 0, none⟩) x0 0 n X
  L5 : Limbs wk (some ⟨x1, 0, none⟩) x1 0 m Y
  L6 : Limbs wk a6 g6 0 t Z
  F4 : ∀ o, wk.frozen? ⟨x0, o, none⟩ = false
  F5 : ∀ o, wk.frozen? ⟨x1, o, none⟩ = false
  F6 : 0 < t → ∀ o, wk.frozen? ⟨g6, o, none⟩ = false
  b4 : x0 < wk.heap.size
  b5 : x1 < wk.heap.size

theorem St.keep {w wk wk' : World} {a3 a6 : Option Addr} {g3 g6 x0 x1 n m t : Nat} {X Y Z : Nat → Nat} (h : St w wk a3 a6 g3 g6 x0 x1 n m t X Y Z) (s : wk.Since wk.heap.size wk') : St w wk' a3 a6 g3 g6 x0 x1 n m t X Y Z :=
  ⟨h.S.trans (sinceMono s h.S.size), h.L3.keep s, h.L4.keep s, h.L5.keep s, h.L6.keep s, fun o => by rw [s.frozen (a := ⟨x0, o, none⟩) h.b4]; exact h.F4 o, fun o => by rw [s.frozen (a := ⟨x1, o, none⟩) h.b5]; exact h.F5 o,
    fun h0 o => by rw [s.frozen (a := ⟨g6, o, none⟩) (h.L6.lt h0)]; exact h.F6 h0 o, Nat.lt_of_lt_of_le h.b4 s.size, Nat.lt_of_lt_of_le h.b5 s.size⟩

theorem St.same {w wk wk' : World} {a3 a6 : Option Addr} {g3 g6 x0 x1 n m t : Nat} {X Y Z : Nat → Nat} (h : St w wk a3 a6 g3 g6 x0 x1 n m t X Y Z) (s : Same wk wk') : St w wk' a3 a6 g3 g6 x0 x1 n m t X Y Z := h.keep (s.since _)

set_option maxHeartbeats 3200000 in
set_option maxRecDepth 100000 in
theorem natMul_law (a a' : Option Addr) (b off n cap b' off' m cap' : Nat) (X Y : Nat → Nat) (w : World) (hn : n ≤ 1048576) (hm : m ≤ 1048576) (hX : Limbs w a b off n X) (hY : Limbs w a' b' off' m Y)
    (hXl : ∀ j, j < n → X j < 4294967296) (hYl : ∀ j, j < m → Y j < 4294967296) :
    Calls Try.prog 3 #[.slice a n cap, .slice a' m cap'] w fun e w' => e = .returned (.bool true) ∧ w.Since w.heap.size w' := by
  have hbX : 0 < n → b < w.heap.size := hX.lt
  have hbY : 0 < m → b' < w.heap.size := hY.lt
  go_enter Try.func3, Try.ntmps3
  go_wp2_with fail
  -- w0 := spec.NatMul(toUint32S(aA), toUint32S(aB))
  refine (to_any a b off n cap X _ hn hX).mono ?_
  rintro e w1 ⟨rfl, s1, r1⟩
  go_wp2_with fail
  refine (to_any a' b' off' m cap' Y _ hm (hY.keep s1)).mono ?_
  rintro e w2 ⟨rfl, s2, r2⟩
  go_wp2_with fail
  refine (specNatMul_any _ _ _ 0 n n _ 0 m m X Y _ hn hm ((limbs_row r1).keep s2) (limbs_row r2) hXl hYl).mono ?_
  rintro e w3 ⟨v3, rfl, ⟨a3, g3, m3, c3, Z3, rfl, k31, k32, L3, G3, F3, l3, p3, e3⟩, s3⟩
  have S3 : w.Since w.heap.size w3 := (s1.trans (sinceMono s2 s1.size)).trans (sinceMono s3 (by have := s1.size; have := s2.size; omega))
  have G3' : w.heap.size ≤ g3 := by have := s1.size; have := s2.size; omega
  clear s1 s2 s3 r1 r2 G3
  -- x0, x1, g0 := impl.NatMul(x0, x1)
  go_wp2_with fail
  refine (to_any a b off n cap X _ hn (hX.keep S3)).mono ?_
  rintro e w4 ⟨rfl, s4, r4⟩
  go_wp2_with fail
  refine (to_any a' b' off' m cap' Y _ hm ((hY.keep S3).keep s4)).mono ?_
  rintro e w5 ⟨rfl, s5, r5⟩
  have S5 : w.Since w.heap.size w5 := (S3.trans (sinceMono s4 S3.size)).trans (sinceMono s5 (by have := s4.size; have := S3.size; omega))
  have L4 := (limbs_row r4).keep s5
  have L5 := limbs_row r5
  have F4 : ∀ o, w5.frozen? ⟨w3.heap.size, o, none⟩ = false := fun o => by rw [s5.frozen (a := ⟨w3.heap.size, o, none⟩) r4.lt]; exact r4.frozen o
  have F5 : ∀ o, w5.frozen? ⟨w4.heap.size, o, none⟩ = false := fun o => r5.frozen o
  have L3' := (L3.keep s4).keep s5
  have b3 : 0 < m3 → g3 < w3.heap.size := L3.lt
  have b34 : w3.heap.size < w4.heap.size := r4.lt
  have b45 : w4.heap.size < w5.heap.size := r5.lt
  have b0 := S3.size
  clear r4 r5 s4 s5 L3
  go_wp2_with fail
  refine (implNatMul_any _ _ _ 0 n n _ 0 m m X Y _ hn hm (Nat.le_refl _) (Nat.le_refl _) L4 L5 hXl hYl).mono ?_
  rintro e w6 ⟨v6, rfl, ⟨a6, g6, m6, c6, Z6, rfl, k61, k62, L6, G6, F6, l6, p6, e6⟩, s6⟩
  obtain ⟨em, eZ⟩ := lv_inj l6 l3 p6 p3 (e6.trans e3.symm)
  subst em
  have L6 := L6.congr eZ
  have l3' := hide l3
  have p3' := hide p3
  have e3' := hide e3
  clear l6 p6 e6 eZ l3 p3 e3
  have S6 : w.Since w.heap.size w6 := S5.trans (sinceMono s6 S5.size)
  have b56 := s6.size
  have b6 : 0 < m6 → g6 < w6.heap.size := L6.lt
  have T6 : St w w6 a3 a6 g3 g6 w3.heap.size w4.heap.size n m m6 X Y Z3 := ⟨S6, L3'.keep s6, L4.keep s6, L5.keep s6, L6, fun o => by rw [s6.frozen (a := ⟨w3.heap.size, o, none⟩) (by show w3.heap.size < _; omega)]; exact F4 o,
    fun o => by rw [s6.frozen (a := ⟨w4.heap.size, o, none⟩) b45]; exact F5 o, F6, by omega, by omega⟩
  clear L3' s6 S5 S3 L4 L5 F4 F5 F6 S6 L6
  -- the two answers are one
  go_wp2_with fail
  refine (eq_true a6 a3 g6 0 g3 0 m6 c6 c3 Z3 _ (by omega) T6.L6 T6.L3).mono ?_
  rintro e w7 ⟨rfl, s7⟩
  have T7 := T6.same s7
  clear s7 T6
  -- the arguments are as they were
  go_wp2_with fail
  refine (to_any a b off n cap X _ hn (hX.keep T7.S)).mono ?_
  rintro e w8 ⟨rfl, s8, r8⟩
  have T8 := T7.keep s8
  go_wp2_with fail
  refine (eq_true _ _ w3.heap.size 0 w7.heap.size 0 n n n X _ (by omega) T8.L4 (limbs_row r8)).mono ?_
  rintro e w9 ⟨rfl, s9⟩
  have T9 := T8.same s9
  clear s9 s8 r8 T8 T7
  go_wp2_with fail
  refine (to_any a' b' off' m cap' Y _ hm (hY.keep T9.S)).mono ?_
  rintro e w10 ⟨rfl, s10, r10⟩
  have T10 := T9.keep s10
  go_wp2_with fail
  refine (eq_true _ _ w4.heap.size 0 w9.heap.size 0 m m m Y _ (by omega) T10.L5 (limbs_row r10)).mono ?_
  rintro e w11 ⟨rfl, s11⟩
  have T11 := T10.same s11
  clear s11 s10 r10 T10 T9
  -- marks in the arguments do not reach the answer
  go_wp2_with fail
  refine (mark_any _ w3.heap.size n n X 1 _ (by omega) (by omega) T11.L4 (fun _ => T11.F4)).mono ?_
  rintro e w12 ⟨rfl, s12, -⟩
  go_wp2_with fail
  refine (mark_any _ w4.heap.size m m Y (1 + n) _ (by omega) (by omega) (T11.L5.marked s12 (fun _ => by omega)) (fun _ o => by rw [s12.frozenO (a := ⟨w4.heap.size, o, none⟩) (by show w4.heap.size ≠ _; omega)]; exact T11.F5 o)).mono ?_
  rintro e w13 ⟨rfl, s13, -⟩
  have S13 : w.Since w.heap.size w13 := (T11.S.trans (s12.since b0)).trans (s13.since (by omega))
  have L3 := (T11.L3.marked s12 (fun h => by have := b3 h; omega)).marked s13 (fun h => by have := b3 h; omega)
  have L6 := (T11.L6.marked s12 (fun h => by omega)).marked s13 (fun h => by omega)
  have F6 : 0 < m6 → ∀ o, w13.frozen? ⟨g6, o, none⟩ = false := fun h o => by rw [s13.frozenO (a := ⟨g6, o, none⟩) (by show g6 ≠ _; omega), s12.frozenO (a := ⟨g6, o, none⟩) (by show g6 ≠ _; omega)]; exact T11.F6 h o
  clear s12 s13 T11
  go_wp2_with fail
  refine (eq_true a6 a3 g6 0 g3 0 m6 c6 c3 Z3 _ (by omega) L6 L3).mono ?_
  rintro e w14 ⟨rfl, s14⟩
  have S14 : w.Since w.heap.size w14 := S13.trans (s14.since _)
  have L3 := L3.same s14
  have L6 := L6.same s14
  have F6 : 0 < m6 → ∀ o, w14.frozen? ⟨g6, o, none⟩ = false := fun h o => by rw [s14.frozen]; exact F6 h o
  clear s14 S13
  -- the answer owns its memory
  go_wp2_with fail
  refine (mark_any a6 g6 m6 c6 Z3 1 _ (by omega) (by omega) L6 F6).mono ?_
  rintro e w15 ⟨rfl, s15, L6⟩
  have S15 : w.Since w.heap.size w15 := S14.trans (s15.since (by omega))
  have L3 := L3.marked s15 (fun h => by have := b3 h; omega)
  clear s15 S14 F6
  go_wp2_with fail
  refine (held_any a6 g6 0 m6 c6 1 _ (by omega) (by omega) L6).mono ?_
  rintro e w16 ⟨rfl, rfl⟩
  clear L6
  -- a second call answers the same
  go_wp2_with fail
  refine (to_any a b off n cap X _ hn (hX.keep S15)).mono ?_
  rintro e w17 ⟨rfl, s17, r17⟩
  go_wp2_with fail
  refine (to_any a' b' off' m cap' Y _ hm ((hY.keep S15).keep s17)).mono ?_
  rintro e w18 ⟨rfl, s18, r18⟩
  go_wp2_with fail
  refine (implNatMul_any _ _ _ 0 n n _ 0 m m X Y _ hn hm (Nat.le_refl _) (Nat.le_refl _) ((limbs_row r17).keep s18) (limbs_row r18) hXl hYl).mono ?_
  rintro e w19 ⟨v19, rfl, ⟨a19, g19, m19, c19, Z19, rfl, k191, k192, L19, G19, F19, l19, p19, e19⟩, s19⟩
  obtain ⟨em, eZ⟩ := lv_inj l19 l3'.out p19 p3'.out (e19.trans e3'.out.symm)
  subst em
  have L19 := L19.congr eZ
  have S19 : w.Since w.heap.size w19 := ((S15.trans (sinceMono s17 S15.size)).trans (sinceMono s18 (by have := s17.size; have := S15.size; omega))).trans (sinceMono s19 (by have := s18.size; have := s17.size; have := S15.size; omega))
  have L3 := ((L3.keep s17).keep s18).keep s19
  clear l19 p19 e19 eZ s17 s18 s19 r17 r18 S15
  go_wp2_with fail
  refine (eq_true a19 a3 g19 0 g3 0 m19 c19 c3 Z3 _ (by omega) L19 L3).mono ?_
  rintro e w20 ⟨rfl, s20⟩
  have S20 : w.Since w.heap.size w20 := S19.trans (s20.since _)
  clear s20 S19
  go_wp2
  go_ret
  exact ⟨rfl, S20⟩

end Go.Proofs.Ytigggjcnnlidgaa
