import Derived.Test.YtkhpggnnpfckdaaGreatDoorOwnP18
import Derived.Test.YtkhpggnnpfckdaaGreatDoorOwnP17
import Derived.Test.YtkhpggnnpfckdaaGreatDoorOwnP9
namespace Go.Proofs.YtkhpggnnpfckdaaGreatDoor
open Go.RowKit

theorem Fra.since {w w' : World} {S : Nat → Prop} {B : Nat} (F : Fra w w' S) (h : ∀ k, S k → B ≤ k) : w.Since B w' :=
  ⟨F.os, F.tape, F.output, by rw [F.size]; exact Nat.le_refl _, fun k hk => F.other k (fun h0 => by have := h k h0; omega)⟩

theorem Box1.frame {w w' : World} {S : Nat → Prop} {c : Nat} {x : Value} (h : Box1 w c x) (F : Fra w w' S) (hS : ¬ S c) : Box1 w' c x :=
  ⟨(F.cell (a := ⟨c, 0, none⟩) hS).trans h.c0, fun k => (F.frozen c k).trans (h.f k)⟩

theorem RIn.frame {w w' : World} {S : Nat → Prop} {a b : Option Addr} {ba oa n ca bb ob m cb : Nat} {X Y : Nat → Nat} (R : RIn w a b ba oa n ca bb ob m cb X Y) (F : Fra w w' S) (h1 : 0 < n → ¬ S ba) (h2 : 0 < m → ¬ S bb) : RIn w' a b ba oa n ca bb ob m cb X Y :=
  ⟨R.nc, R.mc, R.ac, R.bc, F.limbs R.LX h1, F.limbs R.LY h2, R.lX, R.lY, R.pX, R.pY, R.m0⟩

theorem RatOs.frame {w w' : World} {S : Nat → Prop} {b n B : Nat} {Q : Nat → Rat} {E : Nat → Nat} (T : RatOs w b n Q E) (F : Fra w w' S) (hB : B ≤ b) (hS : ∀ k, B ≤ k → ¬ S k) : RatOs w' b n Q E := by
  refine ⟨fun i hi => ?_, T.lo, T.mono⟩
  obtain ⟨g, h, a1, n1, k1, a2, n2, k2, X, Y, r⟩ := T.at_ i hi
  have hb := T.base (show i ≤ n by omega)
  have sb : ¬ S b := hS b hB
  exact ⟨g, h, a1, n1, k1, a2, n2, k2, X, Y, (F.cell (a := ⟨b, i * 3, none⟩) sb).trans r.c0, (F.cell (a := ⟨b, i * 3 + 1, none⟩) sb).trans r.c1, (F.cell (a := ⟨b, i * 3 + 2, none⟩) sb).trans r.c2,
    r.R.frame F (fun h0 => hS g (by have := (r.lg h0).1; omega)) (fun h0 => hS h (by have := (r.lh h0).1; omega)), r.v1, r.v2,
    fun h0 => ⟨(r.lg h0).1, (r.lg h0).2.1, fun o => by rw [F.frozen]; exact (r.lg h0).2.2 o⟩, fun h0 => ⟨(r.lh h0).1, (r.lh h0).2.1, fun o => by rw [F.frozen]; exact (r.lh h0).2.2 o⟩, r.ne⟩

/-- What the evaluation of a net answers: m rationals and ok. -/
structure EvR (n : Nat) (A : Nat → AffD) (nx : Nat) (X : Nat → RatD) (m : Nat) (ok : Bool) (Q : Nat → Rat) : Prop where
  c : (EvP n A nx X ∧ m = (A (n - 1)).rows.toNat ∧ ok = true ∧ Q = qLay A (fun i => (X i).q) (n - 1)) ∨ (¬ EvP n A nx X ∧ m = 0 ∧ ok = false)

theorem evR_ex (n : Nat) (A : Nat → AffD) (nx : Nat) (X : Nat → RatD) : ∃ m ok Q, EvR n A nx X m ok Q := by
  by_cases h : EvP n A nx X
  · exact ⟨_, _, _, ⟨.inl ⟨h, rfl, rfl, rfl⟩⟩⟩
  · exact ⟨0, false, fun _ => 0, ⟨.inr ⟨h, rfl, rfl⟩⟩⟩

theorem EvR.bounds {n : Nat} {A : Nat → AffD} {nx : Nat} {X : Nat → RatD} {m : Nat} {ok : Bool} {Q : Nat → Rat} (e : EvR n A nx X m ok Q) {w : World} {lo b off lox bx ox : Nat} {a ax : Option Addr} (H : Affs w lo a b off n A) (HX : Rats w lox ax bx ox nx X) (hz : n + szA A n + (nx + szR X nx) ≤ 1048576) :
    m ≤ 20000 ∧ ∀ i, i < m → Qb (Q i) 1048577 := by
  rcases e.c with ⟨⟨NP, hl, hok⟩, rfl, -, rfl⟩ | ⟨-, rfl, -⟩
  · have n0 := NP.n0
    have hC0 : nx = (A 0).cols.toNat := by omega
    have hsh := NP.shape (n - 1) (by omega)
    refine ⟨by have := hsh.1.2.1; omega, fun i hi => ?_⟩
    rw [qLay_eq]
    exact (net_rowB NP H.aff (by rw [← hC0]; exact hok) (by rw [← hC0]; exact HX.lim) (by rw [← hC0]; omega) (show n - 1 < n by omega)).s i hi _ (Nat.le_refl _)
  · exact ⟨Nat.zero_le _, fun i hi => absurd hi (by omega)⟩

/-- impl.EvalNet, both ways. -/
theorem implEvalNet_u (a ax : Option Addr) (lo b off n cap lox bx ox nx cx : Nat) (A : Nat → AffD) (X : Nat → RatD) (w : World) (m : Nat) (ok : Bool) (Q : Nat → Rat) (hw : 0 < w.heap.size) (hT : Tab w) (hz : n + szA A n + (nx + szR X nx) ≤ 1048576) (hnc : n ≤ cap) (H : Affs w lo a b off n A) (HX : Rats w lox ax bx ox nx X) (hev : EvR n A nx X m ok Q) :
    Calls Tryz.prog 11 #[.agg #[.slice a n cap], .slice ax nx cx] w fun e w' => ∃ a' c E cap', e = .returned (.tuple #[.slice a' m cap', .bool ok]) ∧ (0 < m → a' = some ⟨c, 0, none⟩) ∧ w.heap.size ≤ c ∧
      RatOs w' c m Q E ∧ (0 < m → ∀ o, w'.frozen? ⟨c, o, none⟩ = false) ∧ w.Since w.heap.size w' := by
  rcases hev.c with ⟨ev, rfl, rfl, rfl⟩ | ⟨ev, rfl, rfl⟩
  · refine (implEvalNet_ok a ax lo b off n cap lox bx ox nx cx A X w hw hT hz hnc H HX ev).mono ?_
    rintro e w' ⟨c, E, rfl, l, O, R, -, s⟩
    exact ⟨_, c, E, _, rfl, fun _ => rfl, l, O, fun _ => R.f, s⟩
  · refine (implEvalNet_no a ax lo b off n cap lox bx ox nx cx A X w hw hT hz H HX ev).mono ?_
    rintro e w' ⟨rfl, s⟩
    exact ⟨_, w'.heap.size, fun _ => w'.heap.size + 1, _, rfl, fun h => absurd h (by omega), s.size, ⟨fun i hi => absurd hi (by omega), Nat.lt_succ_self _, fun i hi => absurd hi (by omega)⟩, fun h => absurd h (by omega), s⟩

/-- spec.EvalNet, both ways. -/
theorem specEvalNet_u (a ax : Option Addr) (lo b off n cap lox bx ox nx cx : Nat) (A : Nat → AffD) (X : Nat → RatD) (w : World) (m : Nat) (ok : Bool) (Q : Nat → Rat) (hz : n + szA A n + (nx + szR X nx) ≤ 1048576) (H : Affs w lo a b off n A) (HX : Rats w lox ax bx ox nx X) (hev : EvR n A nx X m ok Q) :
    Calls Tryz.prog 8 #[.agg #[.slice a n cap], .slice ax nx cx] w fun e w' => ∃ a' b' o' cap', e = .returned (.tuple #[.slice a' m cap', .bool ok]) ∧ RatQs w' (fun _ => True) a' b' o' m Q ∧ w.Since w.heap.size w' := by
  rcases hev.c with ⟨ev, rfl, rfl, rfl⟩ | ⟨ev, rfl, rfl⟩
  · exact specEvalNet_ok a ax lo b off n cap lox bx ox nx cx A X w hz H HX ev
  · refine (specEvalNet_no a ax lo b off n cap lox bx ox nx cx A X w hz H HX ev).mono ?_
    rintro e w' ⟨c, rfl, s⟩
    exact ⟨_, 0, 0, _, rfl, fun i hi => absurd hi (by omega), s⟩

/-- The answer as a list of rationals. -/
theorem RatOs.qs' {w : World} {a : Option Addr} {b n : Nat} {Q : Nat → Rat} {E : Nat → Nat} (T : RatOs w b n Q E) (ha : 0 < n → a = some ⟨b, 0, none⟩) : RatQs w (fun _ => True) a b 0 n Q := fun i hi => by
  rw [ha (by omega)]; exact T.qs i hi

end Go.Proofs.YtkhpggnnpfckdaaGreatDoor

namespace Go.Proofs.YtkhpggnnpfckdaaGreatDoor
open Go.RowKit

set_option maxHeartbeats 6400000 in
set_option maxRecDepth 100000 in
theorem evalNet_law (a ax : Option Addr) (lo b off n cap lox bx ox nx cx : Nat) (A : Nat → AffD) (X : Nat → RatD) (w : World) (hw : 0 < w.heap.size) (hT : Tab w) (hz : n + szA A n + (nx + szR X nx) ≤ 1048576) (H : Affs w lo a b off n A) (HX : Rats w lox ax bx ox nx X) :
    Calls Tryz.prog 3 #[.agg #[.slice a n cap], .slice ax nx cx] w fun e w' => e = .returned (.bool true) ∧ w.Since w.heap.size w' := by
  obtain ⟨m, ok, Q, er⟩ := evR_ex n A nx X
  obtain ⟨hm, hq⟩ := er.bounds H HX hz
  have hzz := hide hz
  have sA : w.Since w.heap.size (w.alloc (.cells #[.slice a n cap] 24)) := (World.Since.refl _ _).alloc (Nat.le_refl _) _
  have bA := Box1.new w (.slice a n cap) 24
  have J0 := szNet_any a lo b off n cap 1048576 A _ (by omega) (by omega) (H.keep sA)
  rw [szl_ok (show n + szA A n ≤ 1048576 by omega)] at J0
  have hl : ¬ (((1048576 - (n + szA A n) : Nat) : Int) < 0) := by omega
  go_enter Tryz.func3, Tryz.ntmps3
  go_wp2_with fail
  generalize w.alloc (.cells #[.slice a n cap] 24) = wA at *
  refine J0.mono ?_
  rintro e w0 ⟨rfl, s0⟩
  have S0 : w.Since w.heap.size w0 := sA.trans (sinceMono s0 sA.size)
  have B0 := bA.keep s0
  have J1 := szRatS_any ax lox bx ox nx cx (1048576 - (n + szA A n)) X w0 (by omega) (by omega) (HX.keep S0)
  rw [szl_ok (show nx + szR X nx ≤ 1048576 - (n + szA A n) by omega)] at J1
  clear bA J0
  go_wp2_with fail
  refine J1.mono ?_
  rintro e w1 ⟨rfl, s1⟩
  have S1 : w.Since w.heap.size w1 := S0.trans (sinceMono s1 S0.size)
  have B1 := B0.keep s1
  have b0 := B1.c0
  have hl2 : ¬ (((1048576 - (n + szA A n) - (nx + szR X nx) : Nat) : Int) < 0) := by omega
  clear J1 B0 hl
  -- w0 := spec.EvalNet(toNet(aN), toRatS(aX))
  go_wp2_with fail
  refine (toNet_own a lo b off n cap A w1 (by omega) (by omega) (H.keep S1)).mono ?_
  rintro e w2 ⟨c2, rfl, -, -, -, H2, s2⟩
  have S2 : w.Since w.heap.size w2 := S1.trans (sinceMono s2 S1.size)
  have B2 := B1.keep s2
  clear b0 B1 hl2
  go_wp2_with fail
  refine (toRatS_own ax lox bx ox nx cx X w2 (by omega) (by omega) (HX.keep S2)).mono ?_
  rintro e w3 ⟨c3, rfl, -, -, -, X3, s3⟩
  have S3 : w.Since w.heap.size w3 := S2.trans (sinceMono s3 S2.size)
  have B3 := B2.keep s3
  have H3 := H2.keep s3
  clear B2 H2
  go_wp2_with fail
  refine (specEvalNet_u _ _ _ c2 0 n n _ c3 0 nx nx A X w3 m ok Q hzz.out H3 X3 er).mono ?_
  rintro e w4 ⟨a4, b4, o4, cap4, rfl, Q4, s4⟩
  have S4 : w.Since w.heap.size w4 := S3.trans (sinceMono s4 S3.size)
  have B4 := B3.keep s4
  have b0 := B4.c0
  clear H3 X3 B3
  -- x0 := toNet(aN)
  go_wp2_with fail
  refine (toNet_own a lo b off n cap A w4 (by omega) (by omega) (H.keep S4)).mono ?_
  rintro e w5 ⟨c5, rfl, l5, l5', U5, H5, s5⟩
  have S5 : w.Since w.heap.size w5 := S4.trans (sinceMono s5 S4.size)
  have B5 := B4.keep s5
  clear b0
  have t5 : w5.Since w5.heap.size (w5.alloc (.cells #[.slice (some ⟨c5, 0, none⟩) n n] 33)) := (World.Since.refl _ _).alloc (Nat.le_refl _) _
  have C6 := Box1.new w5 (.slice (some ⟨c5, 0, none⟩) n n) 33
  go_wp2_with fail
  generalize w5.alloc (.cells #[.slice (some ⟨c5, 0, none⟩) n n] 33) = w6 at *
  have S6 : w.Since w.heap.size w6 := S5.trans (sinceMono t5 S5.size)
  have p6 : w4.Since w4.heap.size w6 := s5.trans (sinceMono t5 s5.size)
  have B6 := B5.keep t5
  have H6 := H5.keep t5
  have U6 := U5.keep t5
  have z6 := C6.lt
  clear B5 H5 U5
  -- x1 := toRatS(aX)
  refine (toRatS_own ax lox bx ox nx cx X w6 (by omega) (by omega) (HX.keep S6)).mono ?_
  rintro e w7 ⟨c7, rfl, l7, l7', U7, X7, s7⟩
  have S7 : w.Since w.heap.size w7 := S6.trans (sinceMono s7 S6.size)
  have p7 : w4.Since w4.heap.size w7 := p6.trans (sinceMono s7 p6.size)
  have B7 := B6.keep s7
  have C7 := C6.keep s7
  have H7 := H6.keep s7
  have V7 := U6.keep s7
  have b0 := B7.c0
  have c0 := C7.c0
  clear B6 C6 H6 U6
  -- g0 := impl.EvalNet(x0, x1)
  go_wp2_with fail
  refine (implEvalNet_u _ _ _ c5 0 n n _ c7 0 nx nx A X w7 m ok Q (Nat.lt_of_lt_of_le hw S7.size) (hT.keepN hw S7) hzz.out (Nat.le_refl _) H7 X7 er).mono ?_
  rintro e w8 ⟨a8, c8, E8, cap8, rfl, ha8, l8, O8, f8, s8⟩
  have S8 : w.Since w.heap.size w8 := S7.trans (sinceMono s8 S7.size)
  have p8 : w4.Since w4.heap.size w8 := p7.trans (sinceMono s8 p7.size)
  have B8 := B7.keep s8
  have C8 := C7.keep s8
  have H8 := H7.keep s8
  have V8 := V7.keep s8
  have X8 := X7.keep s8
  have U8 := U7.keep s8
  clear b0 c0 B7 C7 H7 V7 X7 U7
  -- eqRatS(g0, w0)
  go_wp2_with fail
  refine (eqRatS_q a8 a4 c8 0 cap8 b4 o4 cap4 m Q w8 (by omega) hq (O8.qs' ha8) (Q4.keep p8)).mono ?_
  rintro e w9 ⟨rfl, s9⟩
  have q9a : w8.Since w8.heap.size w9 := s9
  have b0 := (B8.keep q9a).c0
  have c0 := (C8.keep q9a).c0
  go_wp2_with fail
  have q9 : w8.Since w8.heap.size w9.drew := s9.trans (sinceMono ((World.Since.refl _ _).drew) s9.size)
  have S9 : w.Since w.heap.size w9.drew := S8.trans (sinceMono q9 S8.size)
  have J2 := toNet_any a lo b off n cap A w9.drew (by omega) (by omega) (H.keep S9)
  go_region_held3 (fun w' => w'.cell? ⟨w.heap.size, 0, none⟩ = some (.slice a n cap) ∧ w'.cell? ⟨w5.heap.size, 0, none⟩ = some (.slice (some ⟨c5, 0, none⟩) n n)) (go_keep)
    (first
      | (go_at_call 9
         with_reducible refine J2.mono ?_
         rintro e w10 ⟨c10, rfl, -, -, H10, s10⟩
         have q10 : w8.Since w8.heap.size w10 := q9.trans (sinceMono s10 q9.size)
         have J3 := eqNet_true _ _ _ c5 0 n _ c10 0 n n A w10 (by omega) (by omega) (H8.keep q10) H10
         have i0 := (B8.keep q10).c0
         have l0 := (C8.keep q10).c0)
      | (go_at_call 13
         with_reducible refine J3.mono ?_
         rintro e w11 ⟨rfl, s11⟩
         have q11 : w8.Since w8.heap.size w11 := q10.trans (sinceMono s11 q10.size)
         have i0' := (B8.keep q11).c0
         have l0' := (C8.keep q11).c0))
  all_goals clear i0 l0 i0' l0' b0 c0 J2 J3
  all_goals go_wp2_with fail
  have S11 : w.Since w.heap.size w11 := S8.trans (sinceMono q11 S8.size)
  -- eqRatS(x1, toRatS(aX))
  refine (toRatS_any ax lox bx ox nx cx X w11 (by omega) (by omega) (HX.keep S11)).mono ?_
  rintro e w12 ⟨c12, rfl, -, -, X12, s12⟩
  have q12 : w8.Since w8.heap.size w12 := q11.trans (sinceMono s12 q11.size)
  go_wp2_with fail
  refine (eqRatS_true _ _ _ c7 0 nx _ c12 0 nx nx X w12 (by omega) (by omega) (X8.keep q12) X12).mono ?_
  rintro e w13 ⟨rfl, s13⟩
  have q13 : w8.Since w8.heap.size w13 := q12.trans (sinceMono s13 q12.size)
  have c0 := (C8.keep q13).c0
  -- markNet(x0, 1)
  go_wp2_with fail
  refine (markNet_own _ _ c5 n n 1 A w13 (by omega) (by omega) (by omega) (V8.keep q13)).mono ?_
  rintro e w15 ⟨k15, h15, rfl, w14, s14, F15⟩
  have q14 : w8.Since w8.heap.size w14 := q13.trans (sinceMono s14 q13.size)
  have z4 : w4.heap.size ≤ w5.heap.size := by omega
  clear c0
  go_wp2_with fail
  -- markRatS(x1, ..)
  refine (markRatS_own _ _ c7 nx nx k15 w15 (by omega) (by omega) ((U8.keep q14).frame F15 (fun k h1 h2 h3 => by have : k < w5.heap.size := h3.2; omega))).mono ?_
  rintro e w16 ⟨k16, h16, rfl, F16⟩
  have hk16 : ¬ ((k16 : Int) < 0) := by omega
  have p14 : w4.Since w4.heap.size w14 := p8.trans (sinceMono q14 p8.size)
  have p16 : w4.Since w4.heap.size w16 := (p14.trans (F15.since (fun k h => h.1))).trans (F16.since (fun k h => by have : w6.heap.size ≤ k := h.1; omega))
  have O16 : RatOs w16 c8 m Q E8 := ((O8.keep q14).frame F15 l8 (fun k h1 h2 => by have : k < w5.heap.size := h2.2; have := s7.size; omega)).frame F16 l8 (fun k h1 h2 => by have : k < w7.heap.size := h2.2; omega)
  have J4 := eqRatS_q a8 a4 c8 0 cap8 b4 o4 cap4 m Q w16 (by omega) hq (O16.qs' ha8) (Q4.keep p16)
  go_wp2_with fail
  refine J4.mono ?_
  rintro e w17 ⟨rfl, s17⟩
  have p17 : w4.Since w4.heap.size w17 := p16.trans (sinceMono s17 p16.size)
  have O17 := O16.keep s17
  have f17 : 0 < m → ∀ o, w17.frozen? ⟨c8, o, none⟩ = false := fun h0 o => by
    obtain ⟨g', h', a1', n1', k1', a2', n2', k2', X', Y', r'⟩ := O16.at_ 0 h0
    obtain ⟨g8, h8, x1', x2', x3', x4', x5', x6', X8', Y8', r8⟩ := O8.at_ 0 h0
    rw [s17.frozen (a := ⟨c8, o, none⟩) r'.lt, F16.frozen, F15.frozen, q14.frozen (a := ⟨c8, o, none⟩) r8.lt]; exact f8 h0 o
  -- markRatS(g0, 1)
  clear J4 hk16
  go_wp2_with fail
  refine (markRatS_any a8 c8 m cap8 E8 1 w17 (by omega) (by omega) ha8 O17.mono O17.lo f17 (O17.own (fun i hi => (hq i hi).more (by omega)))).mono ?_
  rintro e w18 ⟨K18, hK0, hK1, rfl, F18, M18⟩
  have z7 := s7.size
  have p18 : w4.Since w4.heap.size w18 := p17.trans (F18.since (fun k h => by have := O17.lo; have := h.2; rcases this with h1 | h1 <;> omega))
  have hk18 : ¬ ((K18 m : Int) < 0) := by omega
  -- heldRatS(g0, 1)
  go_wp2_with fail
  refine (heldRatS_any a8 c8 m cap8 E8 K18 1 w18 (by omega) (by omega) ha8 hK0 M18).mono ?_
  rintro e w18' ⟨rfl, rfl⟩
  have S18 : w.Since w.heap.size w18' := S4.trans (sinceMono p18 S4.size)
  have B18 : Box1 w18' w.heap.size (.slice a n cap) := B4.keep p18
  have b0 := B18.c0
  go_wp2_with fail
  -- the second time
  refine (toNet_own a lo b off n cap A w18' (by omega) (by omega) (H.keep S18)).mono ?_
  rintro e w19 ⟨c19, rfl, -, -, -, H19, s19⟩
  have S19 : w.Since w.heap.size w19 := S18.trans (sinceMono s19 S18.size)
  clear b0 hk18
  go_wp2_with fail
  refine (toRatS_own ax lox bx ox nx cx X w19 (by omega) (by omega) (HX.keep S19)).mono ?_
  rintro e w20 ⟨c20, rfl, -, -, -, X20, s20⟩
  have S20 : w.Since w.heap.size w20 := S19.trans (sinceMono s20 S19.size)
  have H20 := H19.keep s20
  go_wp2_with fail
  refine (implEvalNet_u _ _ _ c19 0 n n _ c20 0 nx nx A X w20 m ok Q (Nat.lt_of_lt_of_le hw S20.size) (hT.keepN hw S20) hzz.out (Nat.le_refl _) H20 X20 er).mono ?_
  rintro e w21 ⟨a21, c21, E21, cap21, rfl, ha21, l21, O21, f21, s21⟩
  have S21 : w.Since w.heap.size w21 := S20.trans (sinceMono s21 S20.size)
  have p21 : w4.Since w4.heap.size w21 := ((p18.trans (sinceMono s19 p18.size)).trans (sinceMono s20 (Nat.le_trans p18.size s19.size))).trans (sinceMono s21 (Nat.le_trans (Nat.le_trans p18.size s19.size) s20.size))
  go_wp2_with fail
  refine (eqRatS_q a21 a4 c21 0 cap21 b4 o4 cap4 m Q w21 (by omega) hq (O21.qs' ha21) (Q4.keep p21)).mono ?_
  rintro e w22 ⟨rfl, s22⟩
  go_wp2
  go_ret
  exact ⟨rfl, S21.trans (sinceMono s22 S21.size)⟩

set_option maxHeartbeats 1600000 in
set_option maxRecDepth 100000 in
theorem evalNet_long1 (a ax : Option Addr) (lo b off n cap nx cx : Nat) (A : Nat → AffD) (w : World) (hn : n ≤ 9223372036854775807) (hz : 1048576 < n + szA A n) (H : Affs w lo a b off n A) :
    Calls Tryz.prog 3 #[.agg #[.slice a n cap], .slice ax nx cx] w fun e w' => e = .returned (.bool true) ∧ w.Since w.heap.size w' := by
  have sA : w.Since w.heap.size (w.alloc (.cells #[.slice a n cap] 24)) := (World.Since.refl _ _).alloc (Nat.le_refl _) _
  have J0 := szNet_any a lo b off n cap 1048576 A _ (by omega) hn (H.keep sA)
  rw [szl_no hz] at J0
  go_enter Tryz.func3, Tryz.ntmps3
  go_wp2_with fail
  refine J0.mono ?_
  rintro e w1 ⟨rfl, s1⟩
  go_wp2
  go_ret
  exact ⟨rfl, sA.trans (sinceMono s1 sA.size)⟩

set_option maxHeartbeats 1600000 in
set_option maxRecDepth 100000 in
theorem evalNet_long2 (a ax : Option Addr) (lo b off n cap lox bx ox nx cx : Nat) (A : Nat → AffD) (X : Nat → RatD) (w : World) (hz : n + szA A n ≤ 1048576) (hnx : nx ≤ 9223372036854775807) (hz2 : 1048576 < n + szA A n + (nx + szR X nx)) (H : Affs w lo a b off n A) (HX : Rats w lox ax bx ox nx X) :
    Calls Tryz.prog 3 #[.agg #[.slice a n cap], .slice ax nx cx] w fun e w' => e = .returned (.bool true) ∧ w.Since w.heap.size w' := by
  have sA : w.Since w.heap.size (w.alloc (.cells #[.slice a n cap] 24)) := (World.Since.refl _ _).alloc (Nat.le_refl _) _
  have J0 := szNet_any a lo b off n cap 1048576 A _ (by omega) (by omega) (H.keep sA)
  rw [szl_ok hz] at J0
  have hl : ¬ (((1048576 - (n + szA A n) : Nat) : Int) < 0) := by omega
  go_enter Tryz.func3, Tryz.ntmps3
  go_wp2_with fail
  generalize w.alloc (.cells #[.slice a n cap] 24) = wA at *
  refine J0.mono ?_
  rintro e w0 ⟨rfl, s0⟩
  have S0 : w.Since w.heap.size w0 := sA.trans (sinceMono s0 sA.size)
  have J1 := szRatS_any ax lox bx ox nx cx (1048576 - (n + szA A n)) X w0 (by omega) hnx (HX.keep S0)
  rw [szl_no (show 1048576 - (n + szA A n) < nx + szR X nx by omega)] at J1
  clear J0
  go_wp2_with fail
  refine J1.mono ?_
  rintro e w1 ⟨rfl, s1⟩
  go_wp2
  go_ret
  exact ⟨rfl, S0.trans (sinceMono s1 S0.size)⟩

end Go.Proofs.YtkhpggnnpfckdaaGreatDoor
