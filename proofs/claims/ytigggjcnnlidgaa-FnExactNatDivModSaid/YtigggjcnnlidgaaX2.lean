import Derived.Test.YtigggjcnnlidgaaX1
namespace Go.Proofs.Ytigggjcnnlidgaa
open Go.RowKit

set_option maxHeartbeats 6400000 in
set_option maxRecDepth 100000 in
theorem natDivMod_law (a a' : Option Addr) (b off n cap b' off' m cap' : Nat) (X Y : Nat → Nat) (w : World) (hn : n ≤ 1048576) (hm : m ≤ 1048576) (hX : Limbs w a b off n X) (hY : Limbs w a' b' off' m Y)
    (hXl : ∀ j, j < n → X j < 4294967296) (hYl : ∀ j, j < m → Y j < 4294967296) :
    Calls Try.prog 4 #[.slice a n cap, .slice a' m cap'] w fun e w' => e = .returned (.bool true) ∧ w.Since w.heap.size w' := by
  obtain ⟨NQ, hNQ⟩ : ∃ x, x = dq (lv X n) (lv Y m) := ⟨_, rfl⟩
  obtain ⟨NR, hNR⟩ : ∃ x, x = dr (lv X n) (lv Y m) := ⟨_, rfl⟩
  obtain ⟨ok, hok⟩ : ∃ x, x = dok (lv Y m) := ⟨_, rfl⟩
  have spec := fun (a a' : Option Addr) (b off cap b' off' cap' : Nat) (wz : World) hx hy => specDM_all a a' b off n cap b' off' m cap' X Y wz hn hm hx hy hXl hYl
  have impl := fun (b b' : Nat) (wz : World) hx hy => implDM_all (some ⟨b, 0, none⟩) (some ⟨b', 0, none⟩) b n n b' m m X Y wz hn hm (Nat.le_refl _) (Nat.le_refl _) (fun h => by cases h) hx hy hXl hYl
  rw [← hNQ, ← hNR, ← hok] at spec impl
  have SPEC := hide spec
  have IMPL := hide impl
  clear hNQ hNR hok spec impl
  go_enter Try.func4, Try.ntmps4
  go_wp2_with fail
  -- the specification's answers
  refine (to_any a b off n cap X _ hn hX).mono ?_
  rintro e w1 ⟨rfl, s1, r1⟩
  go_wp2_with fail
  refine (to_any a' b' off' m cap' Y _ hm (hY.keep s1)).mono ?_
  rintro e w2 ⟨rfl, s2, r2⟩
  go_wp2_with fail
  refine (SPEC.out _ _ _ 0 n _ 0 m _ ((limbs_row r1).keep s2) (limbs_row r2)).mono ?_
  rintro e w3 ⟨v3, v4, rfl, ⟨a3, g3, m3, c3, Z3, rfl, k31, k32, L3, G3, F3, l3, p3, e3⟩, ⟨a4, g4, m4, c4, Z4, rfl, k41, k42, L4, G4, F4, l4, p4, e4⟩, s3⟩
  have S3 : w.Since w.heap.size w3 := (s1.trans (sinceMono s2 s1.size)).trans (sinceMono s3 (by have := s1.size; have := s2.size; omega))
  have H3 := hide (And.intro l3 (And.intro p3 e3))
  have H4 := hide (And.intro l4 (And.intro p4 e4))
  clear s1 s2 s3 r1 r2 G3 G4 F3 F4 l3 p3 e3 l4 p4 e4
  -- the function's answers
  go_wp2_with fail
  refine (to_any a b off n cap X _ hn (hX.keep S3)).mono ?_
  rintro e w4 ⟨rfl, s4, r4⟩
  go_wp2_with fail
  refine (to_any a' b' off' m cap' Y _ hm ((hY.keep S3).keep s4)).mono ?_
  rintro e w5 ⟨rfl, s5, r5⟩
  have S5 : w.Since w.heap.size w5 := (S3.trans (sinceMono s4 S3.size)).trans (sinceMono s5 (by have := s4.size; have := S3.size; omega))
  have LX := (limbs_row r4).keep s5
  have LY := limbs_row r5
  have FX : ∀ o, w5.frozen? ⟨w3.heap.size, o, none⟩ = false := fun o => by rw [s5.frozen (a := ⟨w3.heap.size, o, none⟩) r4.lt]; exact r4.frozen o
  have FY : ∀ o, w5.frozen? ⟨w4.heap.size, o, none⟩ = false := fun o => r5.frozen o
  have L3' := (L3.keep s4).keep s5
  have L4' := (L4.keep s4).keep s5
  have b3 : 0 < m3 → g3 < w3.heap.size := L3.lt
  have b4 : 0 < m4 → g4 < w3.heap.size := L4.lt
  have b34 : w3.heap.size < w4.heap.size := r4.lt
  have b45 : w4.heap.size < w5.heap.size := r5.lt
  have b0 := S3.size
  clear r4 r5 s4 s5 L3 L4
  go_wp2_with fail
  refine (IMPL.out _ _ _ LX LY).mono ?_
  rintro e w6 ⟨v6, v7, g6, g7, rfl, ⟨a6, m6, c6, Z6, rfl, k61, k62, k63, L6, F6, l6, p6, e6⟩, ⟨a7, m7, c7, Z7, rfl, k71, k72, k73, L7, F7, l7, p7, e7⟩, G6, G7, G67, s6⟩
  obtain ⟨em, eZ⟩ := lv_inj l6 H3.out.1 p6 H3.out.2.1 (e6.trans H3.out.2.2.symm)
  subst em
  obtain ⟨en, eU⟩ := lv_inj l7 H4.out.1 p7 H4.out.2.1 (e7.trans H4.out.2.2.symm)
  subst en
  have L6 := L6.congr eZ
  have L7 := L7.congr eU
  have T6 : St2 w w6 a3 a4 a6 a7 g3 g4 g6 g7 w3.heap.size w4.heap.size n m m6 m7 X Y Z3 Z4 := ⟨S5.trans (sinceMono s6 S5.size), L3'.keep s6, L4'.keep s6, LX.keep s6, LY.keep s6, L6, L7,
    fun o => by rw [s6.frozen (a := ⟨w3.heap.size, o, none⟩) (by show w3.heap.size < _; omega)]; exact FX o, fun o => by rw [s6.frozen (a := ⟨w4.heap.size, o, none⟩) b45]; exact FY o, F6, F7, by have := s6.size; omega, by have := s6.size; omega⟩
  clear l6 p6 e6 eZ l7 p7 e7 eU L3' L4' s6 S5 S3 LX LY FX FY F6 F7 L6 L7
  -- the answers are one
  go_wp2_with fail
  refine (eq_true a6 a3 g6 0 g3 0 m6 c6 c3 Z3 _ (by omega) T6.L6 T6.L3).mono ?_
  rintro e w7 ⟨rfl, s7⟩
  have T7 := T6.same s7
  clear s7 T6
  go_wp2_with fail
  refine (eq_true a7 a4 g7 0 g4 0 m7 c7 c4 Z4 _ (by omega) T7.L7 T7.L4).mono ?_
  rintro e w8 ⟨rfl, s8⟩
  have T8 := T7.same s8
  clear s8 T7
  -- the arguments are as they were
  go_wp2_with fail
  refine (to_any a b off n cap X _ hn (hX.keep T8.S)).mono ?_
  rintro e w9 ⟨rfl, s9, r9⟩
  have T9 := T8.keep s9
  go_wp2_with fail
  refine (eq_true _ _ w3.heap.size 0 w8.heap.size 0 n n n X _ (by omega) T9.LX (limbs_row r9)).mono ?_
  rintro e w10 ⟨rfl, s10⟩
  have T10 := T9.same s10
  clear s10 s9 r9 T9 T8
  go_wp2_with fail
  refine (to_any a' b' off' m cap' Y _ hm (hY.keep T10.S)).mono ?_
  rintro e w11 ⟨rfl, s11, r11⟩
  have T11 := T10.keep s11
  go_wp2_with fail
  refine (eq_true _ _ w4.heap.size 0 w10.heap.size 0 m m m Y _ (by omega) T11.LY (limbs_row r11)).mono ?_
  rintro e w12 ⟨rfl, s12⟩
  have T12 := T11.same s12
  clear s12 s11 r11 T11 T10
  -- marks in the arguments do not reach the answers
  go_wp2_with fail
  refine (mark_any _ w3.heap.size n n X 1 _ (by omega) (by omega) T12.LX (fun _ => T12.FX)).mono ?_
  rintro e w13 ⟨rfl, s13, -⟩
  go_wp2_with fail
  refine (mark_any _ w4.heap.size m m Y (1 + n) _ (by omega) (by omega) (T12.LY.marked s13 (fun _ => by omega)) (fun _ o => by rw [s13.frozenO (a := ⟨w4.heap.size, o, none⟩) (by show w4.heap.size ≠ _; omega)]; exact T12.FY o)).mono ?_
  rintro e w14 ⟨rfl, s14, -⟩
  have S14 : w.Since w.heap.size w14 := (T12.S.trans (s13.since b0)).trans (s14.since (by omega))
  have L3 := (T12.L3.marked s13 (fun h => by have := b3 h; omega)).marked s14 (fun h => by have := b3 h; omega)
  have L4 := (T12.L4.marked s13 (fun h => by have := b4 h; omega)).marked s14 (fun h => by have := b4 h; omega)
  have L6 := (T12.L6.marked s13 (fun h => by omega)).marked s14 (fun h => by omega)
  have L7 := (T12.L7.marked s13 (fun h => by omega)).marked s14 (fun h => by omega)
  have F6 : 0 < m6 → ∀ o, w14.frozen? ⟨g6, o, none⟩ = false := fun h o => by rw [s14.frozenO (a := ⟨g6, o, none⟩) (by show g6 ≠ _; omega), s13.frozenO (a := ⟨g6, o, none⟩) (by show g6 ≠ _; omega)]; exact T12.F6 h o
  have F7 : 0 < m7 → ∀ o, w14.frozen? ⟨g7, o, none⟩ = false := fun h o => by rw [s14.frozenO (a := ⟨g7, o, none⟩) (by show g7 ≠ _; omega), s13.frozenO (a := ⟨g7, o, none⟩) (by show g7 ≠ _; omega)]; exact T12.F7 h o
  clear s13 s14 T12
  go_wp2_with fail
  refine (eq_true a6 a3 g6 0 g3 0 m6 c6 c3 Z3 _ (by omega) L6 L3).mono ?_
  rintro e w15 ⟨rfl, s15⟩
  go_wp2_with fail
  refine (eq_true a7 a4 g7 0 g4 0 m7 c7 c4 Z4 _ (by omega) (L7.same s15) (L4.same s15)).mono ?_
  rintro e w16 ⟨rfl, s16⟩
  have S16 : w.Since w.heap.size w16 := (S14.trans (s15.since _)).trans (s16.since _)
  have L3 := (L3.same s15).same s16
  have L4 := (L4.same s15).same s16
  have L6 := (L6.same s15).same s16
  have L7 := (L7.same s15).same s16
  have F6 : 0 < m6 → ∀ o, w16.frozen? ⟨g6, o, none⟩ = false := fun h o => by rw [s16.frozen, s15.frozen]; exact F6 h o
  have F7 : 0 < m7 → ∀ o, w16.frozen? ⟨g7, o, none⟩ = false := fun h o => by rw [s16.frozen, s15.frozen]; exact F7 h o
  clear s15 s16 S14
  -- the answers own their memory
  go_wp2_with fail
  refine (mark_any a6 g6 m6 c6 Z3 1 _ (by omega) (by omega) L6 F6).mono ?_
  rintro e w17 ⟨rfl, s17, L6⟩
  go_wp2_with fail
  refine (mark_any a7 g7 m7 c7 Z4 (1 + m6) _ (by omega) (by omega) (L7.marked s17 (fun _ => Ne.symm G67)) (fun h o => by rw [s17.frozenO (a := ⟨g7, o, none⟩) (Ne.symm G67)]; exact F7 h o)).mono ?_
  rintro e w18 ⟨rfl, s18, L7⟩
  have S18 : w.Since w.heap.size w18 := (S16.trans (s17.since (by omega))).trans (s18.since (by omega))
  have L3 := (L3.marked s17 (fun h => by have := b3 h; omega)).marked s18 (fun h => by have := b3 h; omega)
  have L4 := (L4.marked s17 (fun h => by have := b4 h; omega)).marked s18 (fun h => by have := b4 h; omega)
  have L6 := L6.marked s18 (fun _ => G67)
  clear s17 s18 S16 F6 F7
  go_wp2_with fail
  refine (held_any a6 g6 0 m6 c6 1 _ (by omega) (by omega) L6).mono ?_
  rintro e w19 ⟨rfl, rfl⟩
  go_wp2_with fail
  refine (held_any a7 g7 0 m7 c7 (1 + m6) _ (by omega) (by omega) L7).mono ?_
  rintro e w20 ⟨rfl, rfl⟩
  clear L6 L7
  -- a second call answers the same
  go_wp2_with fail
  refine (to_any a b off n cap X _ hn (hX.keep S18)).mono ?_
  rintro e w21 ⟨rfl, s21, r21⟩
  go_wp2_with fail
  refine (to_any a' b' off' m cap' Y _ hm ((hY.keep S18).keep s21)).mono ?_
  rintro e w22 ⟨rfl, s22, r22⟩
  go_wp2_with fail
  refine (IMPL.out _ _ _ ((limbs_row r21).keep s22) (limbs_row r22)).mono ?_
  rintro e w23 ⟨v8, v9, g8, g9, rfl, ⟨a8, m8, c8, Z8, rfl, k81, k82, k83, L8, F8, l8, p8, e8⟩, ⟨a9, m9, c9, Z9, rfl, k91, k92, k93, L9, F9, l9, p9, e9⟩, G8, G9, G89, s23⟩
  obtain ⟨em, eZ⟩ := lv_inj l8 H3.out.1 p8 H3.out.2.1 (e8.trans H3.out.2.2.symm)
  subst em
  obtain ⟨en, eU⟩ := lv_inj l9 H4.out.1 p9 H4.out.2.1 (e9.trans H4.out.2.2.symm)
  subst en
  have L8 := L8.congr eZ
  have L9 := L9.congr eU
  have S23 : w.Since w.heap.size w23 := ((S18.trans (sinceMono s21 S18.size)).trans (sinceMono s22 (by have := s21.size; have := S18.size; omega))).trans (sinceMono s23 (by have := s22.size; have := s21.size; have := S18.size; omega))
  have L3 := ((L3.keep s21).keep s22).keep s23
  have L4 := ((L4.keep s21).keep s22).keep s23
  clear l8 p8 e8 eZ l9 p9 e9 eU s21 s22 s23 r21 r22 S18 F8 F9
  go_wp2_with fail
  refine (eq_true a8 a3 g8 0 g3 0 m8 c8 c3 Z3 _ (by omega) L8 L3).mono ?_
  rintro e w24 ⟨rfl, s24⟩
  go_wp2_with fail
  refine (eq_true a9 a4 g9 0 g4 0 m9 c9 c4 Z4 _ (by omega) (L9.same s24) (L4.same s24)).mono ?_
  rintro e w25 ⟨rfl, s25⟩
  have S25 : w.Since w.heap.size w25 := (S23.trans (s24.since _)).trans (s25.since _)
  clear s24 s25 S23
  go_wp2
  go_ret
  exact ⟨rfl, S25⟩

end Go.Proofs.Ytigggjcnnlidgaa
