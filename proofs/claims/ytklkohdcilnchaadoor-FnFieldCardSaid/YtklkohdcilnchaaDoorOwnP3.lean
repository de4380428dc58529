import Derived.Test.YtklkohdcilnchaaDoorOwnP2
import Derived.Test.YtklkohdcilnchaaDoorOwnP1
import Derived.Test.YtklkohdcilnchaaDoorG1P8
namespace Go.Proofs.YtklkohdcilnchaaDoor
open Go.RowKit

theorem lv_pow {X : Nat → Nat} {n k : Nat} (h : ∀ j, j < n → X j < 4294967296) (hk : n ≤ k) : lv X n < 4294967296 ^ k := by
  have h1 := lv_lt X n h
  rw [Nat.pow_mul, show (2 : Nat) ^ 32 = 4294967296 by decide] at h1
  exact Nat.lt_of_lt_of_le h1 (Nat.pow_le_pow_right (by decide) hk)

theorem ratOk_swap {f : Bool} {X Y : Nat → Nat} {n m : Nat} (h0 : 0 < n) (ok : ratOkB f X n Y m = true) : ratOkB f Y m X n = true := by
  unfold ratOkB at *
  simp only [Bool.and_eq_true, bne_iff_ne, Bool.not_eq_true', beq_iff_eq] at *
  obtain ⟨⟨⟨⟨h1, h2⟩, h3⟩, -⟩, h5⟩ := ok
  refine ⟨⟨⟨⟨h2, h1⟩, by omega⟩, ?_⟩, by rw [Nat.gcd_comm]; exact h5⟩
  have : (m == 0) = false := by simp; omega
  rw [this, Bool.and_false]

/-- Two struct answers that lie in boxes. -/
theorem results_two3 {fn : Func} {p q : Tmp} (h : fn.results = #[.cell p 25, .cell q 25]) (tmps : Array Value) (w : World) (c d : Nat) (x y z x' y' z' : Value) (hp : tmps.getD p undef = .pointer (some ⟨c, 0, none⟩)) (hq : tmps.getD q undef = .pointer (some ⟨d, 0, none⟩)) (B : Box3 w c x y z) (B' : Box3 w d x' y' z') :
    (results fn tmps).run Tryd.prog w = .ok (.tuple #[.agg #[x, y, z], .agg #[x', y', z']]) w := by
  have hp' : tmps[p]?.getD undef = .pointer (some ⟨c, 0, none⟩) := by simpa using hp
  have hq' : tmps[q]?.getD undef = .pointer (some ⟨d, 0, none⟩) := by simpa using hq
  have hl := run_loadVar_mid (P := Tryd.prog) w c 0 25 [x, y, z] _ (fun j v hv => by
    rcases j with _ | _ | _ | j
    · simp at hv; subst hv; exact B.c0
    · simp at hv; subst hv; exact B.c1
    · simp at hv; subst hv; exact B.c2
    · simp at hv) Tryd.underlying25 rfl ratInfo
  have hl' := run_loadVar_mid (P := Tryd.prog) w d 0 25 [x', y', z'] _ (fun j v hv => by
    rcases j with _ | _ | _ | j
    · simp at hv; subst hv; exact B'.c0
    · simp at hv; subst hv; exact B'.c1
    · simp at hv; subst hv; exact B'.c2
    · simp at hv) Tryd.underlying25 rfl ratInfo
  simp [results, h, hp', hq', asAddr, hl, hl']

set_option maxHeartbeats 3200000 in
set_option maxRecDepth 100000 in
theorem l1DrawPair_any (c : Nat) (a : Option Addr) (b off n cap : Nat) (X : Nat → Nat) (w : World) (hn : n ≤ 1048576) (R : Rd w c a b off n cap X) (hbl : 0 < n → b < w.heap.size) :
    Calls Tryd.prog 22 #[.pointer (some ⟨c, 0, none⟩)] w fun e w' => ∃ v v', e = .returned (.tuple #[v, v']) ∧ RatS w' v w.heap.size 32 ∧ RatS w' v' w.heap.size 32 ∧ Oth c w w' := by
  have sA : w.Since w.heap.size ((w.alloc (.cells #[.bool false, .slice none 0 0, .slice none 0 0] 25)).alloc (.cells #[.bool false, .slice none 0 0, .slice none 0 0] 25)) := ((World.Since.refl _ _).alloc (Nat.le_refl _) _).alloc (by simp) _
  have zA : ((w.alloc (.cells #[.bool false, .slice none 0 0, .slice none 0 0] 25)).alloc (.cells #[.bool false, .slice none 0 0, .slice none 0 0] 25)).heap.size = w.heap.size + 1 + 1 := by simp
  have rA : Box3 ((w.alloc (.cells #[.bool false, .slice none 0 0, .slice none 0 0] 25)).alloc (.cells #[.bool false, .slice none 0 0, .slice none 0 0] 25)) w.heap.size (.bool false) (.slice none 0 0) (.slice none 0 0) := (Box3.new w _ _ _ _).keep ((World.Since.refl _ _).alloc (Nat.le_refl _) _)
  have rB : Box3 ((w.alloc (.cells #[.bool false, .slice none 0 0, .slice none 0 0] 25)).alloc (.cells #[.bool false, .slice none 0 0, .slice none 0 0] 25)) (w.heap.size + 1) (.bool false) (.slice none 0 0) (.slice none 0 0) := by
    have := Box3.new (w.alloc (.cells #[.bool false, .slice none 0 0, .slice none 0 0] 25)) (.bool false) (.slice none 0 0) (.slice none 0 0) 25
    simpa using this
  have HZA := hide zA
  clear zA
  have rl := R.lt
  have RA := R.keep sA
  go_enter Tryd.func22, Tryd.ntmps22
  go_wp2_with fail
  generalize ((w.alloc (.cells #[.bool false, .slice none 0 0, .slice none 0 0] 25)).alloc (.cells #[.bool false, .slice none 0 0, .slice none 0 0] 25)) = wA at *
  have zA := HZA.out
  refine (next_any c a b off n cap X wA hn RA).mono ?_
  rintro e w1 ⟨k, rfl, hk, R1, O1⟩
  have rA1 := rA.oth O1 (by omega)
  have rB1 := rB.oth O1 (by omega)
  have O01 := (Oth.ofSince c sA).trans O1
  have z1 := O1.size
  clear RA O1 sA rA rB
  go_wp2_with fail
  refine (l1DrawAny_any c a b off n cap X w1 hn R1 (fun h => by have := hbl h; omega)).mono ?_
  rintro e w2 ⟨v2, rfl, ⟨f1, a1, n1, c1, b1, m1, d1, g1, h1, X1, Y1, rfl, RR1, k11, k12, k13, k14⟩, R2, O2⟩
  have O02 := O01.trans O2
  have t3 : w2.Since w2.heap.size (w2.alloc (.cells #[.bool f1, .slice a1 n1 c1, .slice b1 m1 d1] 25)) := (World.Since.refl _ _).alloc (Nat.le_refl _) _
  have A3 := Box3.new w2 (.bool f1) (.slice a1 n1 c1) (.slice b1 m1 d1) 25
  have rA3 := (rA1.oth O2 (by omega)).keep t3
  have rB3 := (rB1.oth O2 (by omega)).keep t3
  have R3 := R2.keep t3
  have RR3 := RR1.keep t3
  have O03 := O02.trans (Oth.ofSince c t3)
  have z2 := O2.size
  have z3 := t3.size
  have rbl := rB1.lt
  clear rA1 rB1 R1 O01 R2 O2 O02 RR1 t3
  have al := A3.lt
  have hne1 : w2.heap.size ≠ w.heap.size := by omega
  have hne2 : w2.heap.size ≠ w.heap.size + 1 := by omega
  have hne3 : w.heap.size ≠ w2.heap.size := by omega
  have hne4 : w.heap.size + 1 ≠ w2.heap.size := by omega
  have hne5 : w.heap.size + 1 ≠ w.heap.size := by omega
  have SF : RatS (w2.alloc (.cells #[.bool f1, .slice a1 n1 c1, .slice b1 m1 d1] 25)) (.agg #[.bool f1, .slice a1 n1 c1, .slice b1 m1 d1]) (w.heap.size + 1 + 1) 13 := ⟨f1, a1, n1, c1, b1, m1, d1, g1, h1, X1, Y1, rfl, RR3, k11, k12, fun h0 => by have := k13 h0; omega, fun h0 => by have := k14 h0; omega⟩
  by_cases q0 : (k : Int) % 8 = 0
  · have q0' : ((k : Int) % 8 == 0) = true := by simp [q0]
    have J1 := l1Copy_opt f1 a1 b1 g1 0 n1 c1 h1 0 m1 d1 X1 Y1 (w2.alloc (.cells #[.bool f1, .slice a1 n1 c1, .slice b1 m1 d1] 25)).drew (by omega) (by omega) RR3.nc RR3.mc RR3.ac RR3.bc RR3.LX RR3.LY
    have kk := A3.cells
    go_wp2_with fail
    go_region_held3 (fun w' => w'.cell? ⟨w2.heap.size, 0, none⟩ = some (.bool f1) ∧ w'.cell? ⟨w2.heap.size, 1, none⟩ = some (.slice a1 n1 c1) ∧ w'.cell? ⟨w2.heap.size, 2, none⟩ = some (.slice b1 m1 d1)) (go_keep)
      (first
       | (go_at_call 57
          with_reducible refine J1.mono ?_
          rintro e w6 ⟨g6, h6, c6, d6, rfl, k61, k62, L6, L6', -, -, k63, k64, k65, s6⟩
          have s6' : (w2.alloc (.cells #[.bool f1, .slice a1 n1 c1, .slice b1 m1 d1] 25)).Since (w2.alloc (.cells #[.bool f1, .slice a1 n1 c1, .slice b1 m1 d1] 25)).heap.size w6 := ⟨s6.os, s6.tape, s6.output, s6.size, s6.block⟩
          have A6 := A3.keep s6'
          have rA6 := rA3.keep s6'
          have rB6 := rB3.keep s6'
          have S16 := SF.keep s6'
          have O06 := O03.trans (Oth.ofSince c s6')
          have S26 : RatS w6 (.agg #[.bool f1, .slice (some ⟨g6, 0, none⟩) n1 c6, .slice (some ⟨h6, 0, none⟩) m1 d6]) (w.heap.size + 1 + 1) 13 := ⟨f1, _, n1, c6, _, m1, d6, g6, h6, X1, Y1, rfl, ⟨k61, k62, fun h => (by cases h), fun h => (by cases h), L6, L6', RR3.lX, RR3.lY⟩, k11, k12, fun _ => by simp at k63; omega, fun _ => by simp at k63; omega⟩
          have kk := A6.cells
          have ua0 := rA6.c0
          have ufa0 := rA6.f 0
          have ua1 := rA6.c1
          have ufa1 := rA6.f 1
          have ua2 := rA6.c2
          have ufa2 := rA6.f 2
          have ub0 := rB6.c0
          have ufb0 := rB6.f 0
          have ub1 := rB6.c1
          have ufb1 := rB6.f 1
          have ub2 := rB6.c2
          have ufb2 := rB6.f 2))
    all_goals
      go_wp2
      have rC := ((rA6.set0 (.bool f1)).set1 (.slice a1 n1 c1)).set2 (.slice b1 m1 d1)
      have M1 : Marked w6 ((((w6).setCell ⟨w.heap.size, 0, none⟩ (.bool f1)).setCell ⟨w.heap.size, 1, none⟩ (.slice a1 n1 c1)).setCell ⟨w.heap.size, 2, none⟩ (.slice b1 m1 d1)) w.heap.size := (((Marked.refl w6 _).setCell 0 (.bool f1)).setCell 1 (.slice a1 n1 c1)).setCell 2 (.slice b1 m1 d1)
      have rD := (((rB6.marked M1 hne5).set0 (.bool f1)).set1 (.slice (some ⟨g6, 0, none⟩) n1 c6)).set2 (.slice (some ⟨h6, 0, none⟩) m1 d6)
      have M2 : Marked ((((w6).setCell ⟨w.heap.size, 0, none⟩ (.bool f1)).setCell ⟨w.heap.size, 1, none⟩ (.slice a1 n1 c1)).setCell ⟨w.heap.size, 2, none⟩ (.slice b1 m1 d1)) _ (w.heap.size + 1) := (((Marked.refl _ _).setCell 0 (.bool f1)).setCell 1 (.slice (some ⟨g6, 0, none⟩) n1 c6)).setCell 2 (.slice (some ⟨h6, 0, none⟩) m1 d6)
      have rC' := rC.marked M2 hne5.symm
      refine bodyPost_ret (results_two3 rfl _ _ _ _ _ _ _ _ _ _ rfl rfl rC' rD) rfl ?_
      exact ⟨_, _, rfl, ((S16.oth (Oth.ofMarked M1) (by omega)).oth (Oth.ofMarked M2) (by omega)).more (by omega) (by omega), ((S26.oth (Oth.ofMarked M1) (by omega)).oth (Oth.ofMarked M2) (by omega)).more (by omega) (by omega), oth_new (oth_new O06 M1 (Nat.le_refl _)) M2 (by omega)⟩
  have p0 : ((k : Int) % 8 == 0) = false := by simp [q0]
  by_cases q1 : (k : Int) % 8 = 1
  · have q1' : ((k : Int) % 8 == 1) = true := by simp [q1]
    have e0 := A3.c0
    have e1 := A3.c1
    have e2 := A3.c2
    go_wp2_with fail
    clear e0 e1 e2
    generalize (w2.alloc (.cells #[.bool f1, .slice a1 n1 c1, .slice b1 m1 d1] 25)) = w3 at *
    generalize hcA : w2.heap.size = cA at *
    have J := specRatOk_any f1 a1 b1 g1 0 n1 c1 h1 0 m1 d1 X1 Y1 w3 (by omega) (by omega) RR3.LX RR3.LY RR3.lX RR3.lY
    by_cases ok : ratOkB f1 X1 n1 Y1 m1 = true
    · rw [ok] at J
      refine J.mono ?_
      rintro e w4 ⟨rfl, s4⟩
      have A4 := A3.keep s4
      have rA4 := rA3.keep s4
      have rB4 := rB3.keep s4
      have R4 := R3.keep s4
      have RR4 := RR3.keep s4
      have O04 := O03.trans (Oth.ofSince c s4)
      have z4 := s4.size
      have SF4 := SF.keep s4
      clear J
      have J1 := l1Neg_opt f1 a1 b1 g1 0 n1 c1 h1 0 m1 d1 X1 Y1 w4.drew (by omega) (by omega) RR4.nc RR4.mc RR4.ac RR4.bc RR4.LX RR4.LY
      have kk := A4.cells
      go_wp2_with fail
      go_region_held3 (fun w' => w'.cell? ⟨cA, 0, none⟩ = some (.bool f1) ∧ w'.cell? ⟨cA, 1, none⟩ = some (.slice a1 n1 c1) ∧ w'.cell? ⟨cA, 2, none⟩ = some (.slice b1 m1 d1)) (go_keep)
        (first
         | (go_at_call 58
            with_reducible refine J1.mono ?_
            rintro e w6 ⟨g6, h6, c6, d6, rfl, k61, k62, L6, L6', k63, k64, k65, s6⟩
            have s6' : w4.Since w4.heap.size w6 := ⟨s6.os, s6.tape, s6.output, s6.size, s6.block⟩
            have A6 := A4.keep s6'
            have rA6 := rA4.keep s6'
            have rB6 := rB4.keep s6'
            have S16 := SF4.keep s6'
            have O06 := O04.trans (Oth.ofSince c s6')
            have k63 : w4.heap.size ≤ g6 := k63
            have S26 : RatS w6 (.agg #[.bool (!f1 && decide (0 < n1)), .slice (some ⟨g6, 0, none⟩) n1 c6, .slice (some ⟨h6, 0, none⟩) m1 d6]) (w.heap.size + 1 + 1) 13 := ⟨_, _, n1, c6, _, m1, d6, g6, h6, X1, Y1, rfl, ⟨k61, k62, fun h => (by cases h), fun h => (by cases h), L6, L6', RR3.lX, RR3.lY⟩, k11, k12, fun _ => by omega, fun _ => by omega⟩
            have kk := A6.cells
            have ua0 := rA6.c0
            have ufa0 := rA6.f 0
            have ua1 := rA6.c1
            have ufa1 := rA6.f 1
            have ua2 := rA6.c2
            have ufa2 := rA6.f 2
            have ub0 := rB6.c0
            have ufb0 := rB6.f 0
            have ub1 := rB6.c1
            have ufb1 := rB6.f 1
            have ub2 := rB6.c2
            have ufb2 := rB6.f 2))
      all_goals
        go_wp2
        have rC := ((rA6.set0 (.bool f1)).set1 (.slice a1 n1 c1)).set2 (.slice b1 m1 d1)
        have M1 : Marked w6 ((((w6).setCell ⟨w.heap.size, 0, none⟩ (.bool f1)).setCell ⟨w.heap.size, 1, none⟩ (.slice a1 n1 c1)).setCell ⟨w.heap.size, 2, none⟩ (.slice b1 m1 d1)) w.heap.size := (((Marked.refl w6 _).setCell 0 (.bool f1)).setCell 1 (.slice a1 n1 c1)).setCell 2 (.slice b1 m1 d1)
        have rD := (((rB6.marked M1 hne5).set0 (.bool (!f1 && decide (0 < n1)))).set1 (.slice (some ⟨g6, 0, none⟩) n1 c6)).set2 (.slice (some ⟨h6, 0, none⟩) m1 d6)
        have M2 : Marked ((((w6).setCell ⟨w.heap.size, 0, none⟩ (.bool f1)).setCell ⟨w.heap.size, 1, none⟩ (.slice a1 n1 c1)).setCell ⟨w.heap.size, 2, none⟩ (.slice b1 m1 d1)) _ (w.heap.size + 1) := (((Marked.refl _ _).setCell 0 (.bool (!f1 && decide (0 < n1)))).setCell 1 (.slice (some ⟨g6, 0, none⟩) n1 c6)).setCell 2 (.slice (some ⟨h6, 0, none⟩) m1 d6)
        have rC' := rC.marked M2 hne5.symm
        refine bodyPost_ret (results_two3 rfl _ _ _ _ _ _ _ _ _ _ rfl rfl rC' rD) rfl ?_
        exact ⟨_, _, rfl, ((S16.oth (Oth.ofMarked M1) (by omega)).oth (Oth.ofMarked M2) (by omega)).more (by omega) (by omega), ((S26.oth (Oth.ofMarked M1) (by omega)).oth (Oth.ofMarked M2) (by omega)).more (by omega) (by omega), oth_new (oth_new O06 M1 (Nat.le_refl _)) M2 (by omega)⟩
    · have ok' : ratOkB f1 X1 n1 Y1 m1 = false := by simpa using ok
      rw [ok'] at J
      refine J.mono ?_
      rintro e w4 ⟨rfl, s4⟩
      have A4 := A3.keep s4
      have rA4 := rA3.keep s4
      have rB4 := rB3.keep s4
      have R4 := R3.keep s4
      have RR4 := RR3.keep s4
      have O04 := O03.trans (Oth.ofSince c s4)
      have z4 := s4.size
      have SF4 := SF.keep s4
      clear J
      have p2 : ((k : Int) % 8 == 2) = false := by simp; omega
      have p3 : ((k : Int) % 8 == 3) = false := by simp; omega
      go_wp2_with fail
      refine (l1DrawAny_any c a b off n cap X w4 hn R4 (fun h => by have := hbl h; omega)).mono ?_
      rintro e w5 ⟨v5, rfl, ⟨f2, a2, n2, c2, b2, m2, d2, g2, h2, X2, Y2, rfl, RS5, k21, k22, k23, k24⟩, R5, O5⟩
      have al4 := A4.lt
      have SG5 : RatS w5 (.agg #[.bool f2, .slice a2 n2 c2, .slice b2 m2 d2]) (w.heap.size + 1 + 1) 13 := ⟨f2, a2, n2, c2, b2, m2, d2, g2, h2, X2, Y2, rfl, RS5, k21, k22, fun h0 => by have := k23 h0; omega, fun h0 => by have := k24 h0; omega⟩
      have A5 := A4.oth O5 (by omega)
      have rA5 := rA4.oth O5 (by omega)
      have rB5 := rB4.oth O5 (by omega)
      have SF5 := SF4.oth O5 (by omega)
      have RR5 : RRaw w5 a1 b1 g1 0 n1 c1 h1 0 m1 d1 X1 Y1 := ⟨RR4.nc, RR4.mc, RR4.ac, RR4.bc, RR4.LX.oth O5 (fun h0 => by have := k13 h0; omega), RR4.LY.oth O5 (fun h0 => by have := k14 h0; omega), RR4.lX, RR4.lY⟩
      have O05 := O04.trans O5
      have z5 := O5.size
      have s7 : w5.Since w5.heap.size (w5.alloc (.cells #[.bool f2, .slice a2 n2 c2, .slice b2 m2 d2] 25)) := (World.Since.refl _ _).alloc (Nat.le_refl _) _
      have B7 := Box3.new w5 (.bool f2) (.slice a2 n2 c2) (.slice b2 m2 d2) 25
      have A7 := A5.keep s7
      have rA7 := rA5.keep s7
      have rB7 := rB5.keep s7
      have R7 := R5.keep s7
      have RR7 := RR5.keep s7
      have O07 := O05.trans (Oth.ofSince c s7)
      have z7 := s7.size
      have SF7 := SF5.keep s7
      have SG7 := SG5.keep s7
      have RS7 := RS5.keep s7
      have bl7 := B7.lt
      clear A4 rA4 rB4 SF4 RR4 O04 R4 O5 A5 rA5 rB5 R5 RR5 O05 SF5 SG5 RS5 s7
      have hne6 : w5.heap.size ≠ w.heap.size := by omega
      have hne7 : w5.heap.size ≠ w.heap.size + 1 := by omega
      have hne8 : w.heap.size ≠ w5.heap.size := by omega
      have hne9 : w.heap.size + 1 ≠ w5.heap.size := by omega
      go_wp2_with fail
      generalize (w5.alloc (.cells #[.bool f2, .slice a2 n2 c2, .slice b2 m2 d2] 25)) = w7 at *
      generalize hcB : w5.heap.size = cB at *
      have kk := And.intro A7.cells B7.cells
      have ua0 := rA7.c0
      have ufa0 := rA7.f 0
      have ua1 := rA7.c1
      have ufa1 := rA7.f 1
      have ua2 := rA7.c2
      have ufa2 := rA7.f 2
      have ub0 := rB7.c0
      have ufb0 := rB7.f 0
      have ub1 := rB7.c1
      have ufb1 := rB7.f 1
      have ub2 := rB7.c2
      have ufb2 := rB7.f 2
      go_region_held3 (fun w' => w'.cell? ⟨cA, 0, none⟩ = some (.bool f1) ∧ w'.cell? ⟨cA, 1, none⟩ = some (.slice a1 n1 c1) ∧ w'.cell? ⟨cA, 2, none⟩ = some (.slice b1 m1 d1) ∧ w'.cell? ⟨cB, 0, none⟩ = some (.bool f2) ∧ w'.cell? ⟨cB, 1, none⟩ = some (.slice a2 n2 c2) ∧ w'.cell? ⟨cB, 2, none⟩ = some (.slice b2 m2 d2)) (go_keep) (fail)
      all_goals
        go_wp2
        have rC := ((rA7.set0 (.bool f1)).set1 (.slice a1 n1 c1)).set2 (.slice b1 m1 d1)
        have M1 : Marked w7 ((((w7).setCell ⟨w.heap.size, 0, none⟩ (.bool f1)).setCell ⟨w.heap.size, 1, none⟩ (.slice a1 n1 c1)).setCell ⟨w.heap.size, 2, none⟩ (.slice b1 m1 d1)) w.heap.size := (((Marked.refl w7 _).setCell 0 (.bool f1)).setCell 1 (.slice a1 n1 c1)).setCell 2 (.slice b1 m1 d1)
        have rD := (((rB7.marked M1 hne5).set0 (.bool f2)).set1 (.slice a2 n2 c2)).set2 (.slice b2 m2 d2)
        have M2 : Marked ((((w7).setCell ⟨w.heap.size, 0, none⟩ (.bool f1)).setCell ⟨w.heap.size, 1, none⟩ (.slice a1 n1 c1)).setCell ⟨w.heap.size, 2, none⟩ (.slice b1 m1 d1)) _ (w.heap.size + 1) := (((Marked.refl _ _).setCell 0 (.bool f2)).setCell 1 (.slice a2 n2 c2)).setCell 2 (.slice b2 m2 d2)
        have rC' := rC.marked M2 hne5.symm
        refine bodyPost_ret (results_two3 rfl _ _ _ _ _ _ _ _ _ _ rfl rfl rC'.drew rD.drew) rfl ?_
        exact ⟨_, _, rfl, ((SF7.oth (Oth.ofMarked M1) (by omega)).oth (Oth.ofMarked M2) (by omega)).more (by omega) (by omega) |>.keep (since_drew (World.Since.refl _ _)), ((SG7.oth (Oth.ofMarked M1) (by omega)).oth (Oth.ofMarked M2) (by omega)).more (by omega) (by omega) |>.keep (since_drew (World.Since.refl _ _)), (oth_new (oth_new O07 M1 (Nat.le_refl _)) M2 (by omega)).drew⟩
  have p1 : ((k : Int) % 8 == 1) = false := by simp [q1]
  go_wp2_with fail
  generalize (w2.alloc (.cells #[.bool f1, .slice a1 n1 c1, .slice b1 m1 d1] 25)) = w3 at *
  generalize hcA : w2.heap.size = cA at *
  have SF3 := SF
  clear SF
  go_wp2_with fail
  refine (l1DrawAny_any c a b off n cap X w3 hn R3 (fun h => by have := hbl h; omega)).mono ?_
  rintro e w5 ⟨v5, rfl, ⟨f2, a2, n2, c2, b2, m2, d2, g2, h2, X2, Y2, rfl, RS5, k21, k22, k23, k24⟩, R5, O5⟩
  have al3 := A3.lt
  have SG5 : RatS w5 (.agg #[.bool f2, .slice a2 n2 c2, .slice b2 m2 d2]) (w.heap.size + 1 + 1) 13 := ⟨f2, a2, n2, c2, b2, m2, d2, g2, h2, X2, Y2, rfl, RS5, k21, k22, fun h0 => by have := k23 h0; omega, fun h0 => by have := k24 h0; omega⟩
  have A5 := A3.oth O5 (by omega)
  have rA5 := rA3.oth O5 (by omega)
  have rB5 := rB3.oth O5 (by omega)
  have SF5 := SF3.oth O5 (by omega)
  have RR5 : RRaw w5 a1 b1 g1 0 n1 c1 h1 0 m1 d1 X1 Y1 := ⟨RR3.nc, RR3.mc, RR3.ac, RR3.bc, RR3.LX.oth O5 (fun h0 => by have := k13 h0; omega), RR3.LY.oth O5 (fun h0 => by have := k14 h0; omega), RR3.lX, RR3.lY⟩
  have O05 := O03.trans O5
  have z5 := O5.size
  have s7 : w5.Since w5.heap.size (w5.alloc (.cells #[.bool f2, .slice a2 n2 c2, .slice b2 m2 d2] 25)) := (World.Since.refl _ _).alloc (Nat.le_refl _) _
  have B7 := Box3.new w5 (.bool f2) (.slice a2 n2 c2) (.slice b2 m2 d2) 25
  have A7 := A5.keep s7
  have rA7 := rA5.keep s7
  have rB7 := rB5.keep s7
  have R7 := R5.keep s7
  have RR7 := RR5.keep s7
  have O07 := O05.trans (Oth.ofSince c s7)
  have z7 := s7.size
  have SF7 := SF5.keep s7
  have SG7 := SG5.keep s7
  have RS7 := RS5.keep s7
  have bl7 := B7.lt
  clear A3 rA3 rB3 SF3 RR3 O03 R3 O5 A5 rA5 rB5 R5 RR5 O05 SF5 SG5 RS5 s7
  have hne6 : w5.heap.size ≠ w.heap.size := by omega
  have hne7 : w5.heap.size ≠ w.heap.size + 1 := by omega
  have hne8 : w.heap.size ≠ w5.heap.size := by omega
  have hne9 : w.heap.size + 1 ≠ w5.heap.size := by omega
  by_cases r2 : (k : Int) % 8 = 2
  · have r2' : ((k : Int) % 8 == 2) = true := by simp [r2]
    have r3' : ((k : Int) % 8 == 3) = false := by simp; omega
    have e0 := A7.c0
    have e1 := A7.c1
    have e2 := A7.c2
    go_wp2_with fail
    clear e0 e1 e2
    generalize (w5.alloc (.cells #[.bool f2, .slice a2 n2 c2, .slice b2 m2 d2] 25)) = w7 at *
    generalize hcB : w5.heap.size = cB at *
    have J := specRatOk_any f1 a1 b1 g1 0 n1 c1 h1 0 m1 d1 X1 Y1 w7 (by omega) (by omega) RR7.LX RR7.LY RR7.lX RR7.lY
    by_cases ok1 : ratOkB f1 X1 n1 Y1 m1 = true
    · rw [ok1] at J
      refine J.mono ?_
      rintro e w8 ⟨rfl, s8⟩
      have A8 := A7.keep s8
      have rA8 := rA7.keep s8
      have rB8 := rB7.keep s8
      have RR8 := RR7.keep s8
      have O08 := O07.trans (Oth.ofSince c s8)
      have z8 := s8.size
      have SF8 := SF7.keep s8
      have SG8 := SG7.keep s8
      have RS8 := RS7.keep s8
      have B8 := B7.keep s8
      clear J A7 rA7 rB7 RR7 O07 SF7 SG7 RS7 B7 s8
      have i0 := B8.c0
      have i1 := B8.c1
      have i2 := B8.c2
      go_wp2_with fail
      clear i0 i1 i2
      have J := specRatOk_any f2 a2 b2 g2 0 n2 c2 h2 0 m2 d2 X2 Y2 w8 (by omega) (by omega) RS8.LX RS8.LY RS8.lX RS8.lY
      by_cases ok2 : ratOkB f2 X2 n2 Y2 m2 = true
      · rw [ok2] at J
        refine J.mono ?_
        rintro e w9 ⟨rfl, s9⟩
        have A9 := A8.keep s9
        have rA9 := rA8.keep s9
        have rB9 := rB8.keep s9
        have RR9 := RR8.keep s9
        have O09 := O08.trans (Oth.ofSince c s9)
        have z9 := s9.size
        have SF9 := SF8.keep s9
        have SG9 := SG8.keep s9
        have RS9 := RS8.keep s9
        have B9 := B8.keep s9
        clear J A8 rA8 rB8 RR8 O08 SF8 SG8 RS8 B8 s9
        by_cases hn2 : 0 < n2
        · have hn2' : (0 : Int) < (n2 : Int) := by omega
          have i0 := B9.c0
          have i1 := B9.c1
          have i2 := B9.c2
          go_wp2_with fail
          clear i0 i1 i2
          obtain rfl : a2 = some ⟨g2, 0, none⟩ := by have := (RS9.LX 0 hn2).1; simpa using this
          have RI2 := RS9.ok ok2
          obtain rfl : b2 = some ⟨h2, 0, none⟩ := by have := (RS9.LY 0 RI2.m0).1; simpa using this
          have RI1 := RR9.ok ok1
          have J1 := l1Inv_any f2 ⟨g2, 0, none⟩ ⟨h2, 0, none⟩ g2 0 n2 c2 h2 0 m2 d2 X2 Y2 w9.drew (by omega) (by omega) RS9.nc RS9.mc RS9.LX RS9.LY
          have kk := And.intro A9.cells B9.cells
          have z9' := rB9.lt
          go_region_held3 (fun w' => w'.cell? ⟨cA, 0, none⟩ = some (.bool f1) ∧ w'.cell? ⟨cA, 1, none⟩ = some (.slice a1 n1 c1) ∧ w'.cell? ⟨cA, 2, none⟩ = some (.slice b1 m1 d1) ∧ w'.cell? ⟨cB, 0, none⟩ = some (.bool f2) ∧ w'.cell? ⟨cB, 1, none⟩ = some (.slice (some ⟨g2, 0, none⟩) n2 c2) ∧ w'.cell? ⟨cB, 2, none⟩ = some (.slice (some ⟨h2, 0, none⟩) m2 d2)) (go_keep)
            (first
             | (go_at_call 59
                with_reducible refine J1.mono ?_
                rintro e w10 ⟨i1', i2', gi, hi', ci, di, rfl, v1, v2, v3, v4, LI1, LI2, -, -, -, s10⟩
                have s10' : w9.Since w9.heap.size w10 := ⟨s10.os, s10.tape, s10.output, s10.size, s10.block⟩
                have A10 := A9.keep s10'
                have B10 := B9.keep s10'
                have kk := And.intro A10.cells B10.cells
                have RJ : RIn w10 i2' i1' hi' 0 m2 di gi 0 n2 ci Y2 X2 := ⟨v2, v1, v4, v3, LI2, LI1, RI2.lY, RI2.lX, RI2.pY, RI2.pX, hn2⟩
                obtain ⟨q1', hq1, e11, e12⟩ := rat_of_ok (RI1.keep s10') ok1
                obtain ⟨q2', hq2, e21, e22⟩ := rat_of_ok RJ (ratOk_swap hn2 ok2)
                have Q1 : Qb q1' 13 := ⟨by rw [e11]; exact lv_pow RI1.lX k11, by rw [e12]; exact lv_pow RI1.lY k12⟩
                have Q2 : Qb q2' 13 := ⟨by rw [e21]; exact lv_pow RI2.lY k22, by rw [e22]; exact lv_pow RI2.lX k21⟩
                have J2 := l1Add_q Q1 Q2 (by omega) hq1 hq2
                have HQ := hide (Q1.add Q2)
                clear e11 e12 e21 e22 hq1 hq2 Q1 Q2)
             | (go_at_call 55
                with_reducible refine J2.mono ?_
                rintro e w6 ⟨v6, rfl, HV, s6⟩
                have S26 : RatS w6 v6 w10.heap.size 27 := HV.shape HQ.out.1 HQ.out.2
                have s6' : w9.Since w9.heap.size w6 := s10'.trans (sinceMono s6 s10'.size)
                obtain ⟨f6, a6, n6, c6, b6, m6, d6, g6, h6, X6, Y6, rfl, RR6, k61, k62, k63, k64⟩ := S26
                have z10 := s10'.size
                have S26 : RatS w6 (.agg #[.bool f6, .slice a6 n6 c6, .slice b6 m6 d6]) (w.heap.size + 1 + 1) 27 := ⟨f6, a6, n6, c6, b6, m6, d6, g6, h6, X6, Y6, rfl, RR6, k61, k62, fun h0 => by have := k63 h0; omega, fun h0 => by have := k64 h0; omega⟩
                have A6 := A9.keep s6'
                have B6 := B9.keep s6'
                have rA6 := rA9.keep s6'
                have rB6 := rB9.keep s6'
                have S16 := SF9.keep s6'
                have O06 := O09.trans (Oth.ofSince c s6')
                have kk := And.intro A6.cells B6.cells
                have ua0 := rA6.c0
                have ufa0 := rA6.f 0
                have ua1 := rA6.c1
                have ufa1 := rA6.f 1
                have ua2 := rA6.c2
                have ufa2 := rA6.f 2
                have ub0 := rB6.c0
                have ufb0 := rB6.f 0
                have ub1 := rB6.c1
                have ufb1 := rB6.f 1
                have ub2 := rB6.c2
                have ufb2 := rB6.f 2))
          all_goals
            go_wp2
            have rC := ((rA6.set0 (.bool f1)).set1 (.slice a1 n1 c1)).set2 (.slice b1 m1 d1)
            have M1 : Marked w6 ((((w6).setCell ⟨w.heap.size, 0, none⟩ (.bool f1)).setCell ⟨w.heap.size, 1, none⟩ (.slice a1 n1 c1)).setCell ⟨w.heap.size, 2, none⟩ (.slice b1 m1 d1)) w.heap.size := (((Marked.refl w6 _).setCell 0 (.bool f1)).setCell 1 (.slice a1 n1 c1)).setCell 2 (.slice b1 m1 d1)
            have rD := (((rB6.marked M1 hne5).set0 (.bool f6)).set1 (.slice a6 n6 c6)).set2 (.slice b6 m6 d6)
            have M2 : Marked ((((w6).setCell ⟨w.heap.size, 0, none⟩ (.bool f1)).setCell ⟨w.heap.size, 1, none⟩ (.slice a1 n1 c1)).setCell ⟨w.heap.size, 2, none⟩ (.slice b1 m1 d1)) _ (w.heap.size + 1) := (((Marked.refl _ _).setCell 0 (.bool f6)).setCell 1 (.slice a6 n6 c6)).setCell 2 (.slice b6 m6 d6)
            have rC' := rC.marked M2 hne5.symm
            refine bodyPost_ret (results_two3 rfl _ _ _ _ _ _ _ _ _ _ rfl rfl rC' rD) rfl ?_
            exact ⟨_, _, rfl, ((S16.oth (Oth.ofMarked M1) (by omega)).oth (Oth.ofMarked M2) (by omega)).more (by omega) (by omega), ((S26.oth (Oth.ofMarked M1) (by omega)).oth (Oth.ofMarked M2) (by omega)).more (by omega) (by omega), oth_new (oth_new O06 M1 (Nat.le_refl _)) M2 (by omega)⟩
        · have hn2' : ¬ (0 : Int) < (n2 : Int) := by omega
          have i0 := B9.c0
          have i1 := B9.c1
          have i2 := B9.c2
          go_wp2_with fail
          clear i0 i1 i2
          have kk := And.intro A9.cells B9.cells
          have ua0 := rA9.c0
          have ufa0 := rA9.f 0
          have ua1 := rA9.c1
          have ufa1 := rA9.f 1
          have ua2 := rA9.c2
          have ufa2 := rA9.f 2
          have ub0 := rB9.c0
          have ufb0 := rB9.f 0
          have ub1 := rB9.c1
          have ufb1 := rB9.f 1
          have ub2 := rB9.c2
          have ufb2 := rB9.f 2
          go_region_held3 (fun w' => w'.cell? ⟨cA, 0, none⟩ = some (.bool f1) ∧ w'.cell? ⟨cA, 1, none⟩ = some (.slice a1 n1 c1) ∧ w'.cell? ⟨cA, 2, none⟩ = some (.slice b1 m1 d1) ∧ w'.cell? ⟨cB, 0, none⟩ = some (.bool f2) ∧ w'.cell? ⟨cB, 1, none⟩ = some (.slice a2 n2 c2) ∧ w'.cell? ⟨cB, 2, none⟩ = some (.slice b2 m2 d2)) (go_keep) (fail)
          all_goals
            go_wp2
            have rC := ((rA9.set0 (.bool f1)).set1 (.slice a1 n1 c1)).set2 (.slice b1 m1 d1)
            have M1 : Marked w9 ((((w9).setCell ⟨w.heap.size, 0, none⟩ (.bool f1)).setCell ⟨w.heap.size, 1, none⟩ (.slice a1 n1 c1)).setCell ⟨w.heap.size, 2, none⟩ (.slice b1 m1 d1)) w.heap.size := (((Marked.refl w9 _).setCell 0 (.bool f1)).setCell 1 (.slice a1 n1 c1)).setCell 2 (.slice b1 m1 d1)
            have rD := (((rB9.marked M1 hne5).set0 (.bool f2)).set1 (.slice a2 n2 c2)).set2 (.slice b2 m2 d2)
            have M2 : Marked ((((w9).setCell ⟨w.heap.size, 0, none⟩ (.bool f1)).setCell ⟨w.heap.size, 1, none⟩ (.slice a1 n1 c1)).setCell ⟨w.heap.size, 2, none⟩ (.slice b1 m1 d1)) _ (w.heap.size + 1) := (((Marked.refl _ _).setCell 0 (.bool f2)).setCell 1 (.slice a2 n2 c2)).setCell 2 (.slice b2 m2 d2)
            have rC' := rC.marked M2 hne5.symm
            refine bodyPost_ret (results_two3 rfl _ _ _ _ _ _ _ _ _ _ rfl rfl rC'.drew rD.drew) rfl ?_
            exact ⟨_, _, rfl, ((SF9.oth (Oth.ofMarked M1) (by omega)).oth (Oth.ofMarked M2) (by omega)).more (by omega) (by omega) |>.keep (since_drew (World.Since.refl _ _)), ((SG9.oth (Oth.ofMarked M1) (by omega)).oth (Oth.ofMarked M2) (by omega)).more (by omega) (by omega) |>.keep (since_drew (World.Since.refl _ _)), (oth_new (oth_new O09 M1 (Nat.le_refl _)) M2 (by omega)).drew⟩
      · have ok2' : ratOkB f2 X2 n2 Y2 m2 = false := by simpa using ok2
        rw [ok2'] at J
        refine J.mono ?_
        rintro e w9 ⟨rfl, s9⟩
        have A9 := A8.keep s9
        have rA9 := rA8.keep s9
        have rB9 := rB8.keep s9
        have RR9 := RR8.keep s9
        have O09 := O08.trans (Oth.ofSince c s9)
        have z9 := s9.size
        have SF9 := SF8.keep s9
        have SG9 := SG8.keep s9
        have RS9 := RS8.keep s9
        have B9 := B8.keep s9
        clear J A8 rA8 rB8 RR8 O08 SF8 SG8 RS8 B8 s9
        go_wp2_with fail
        have kk := And.intro A9.cells B9.cells
        have ua0 := rA9.c0
        have ufa0 := rA9.f 0
        have ua1 := rA9.c1
        have ufa1 := rA9.f 1
        have ua2 := rA9.c2
        have ufa2 := rA9.f 2
        have ub0 := rB9.c0
        have ufb0 := rB9.f 0
        have ub1 := rB9.c1
        have ufb1 := rB9.f 1
        have ub2 := rB9.c2
        have ufb2 := rB9.f 2
        go_region_held3 (fun w' => w'.cell? ⟨cA, 0, none⟩ = some (.bool f1) ∧ w'.cell? ⟨cA, 1, none⟩ = some (.slice a1 n1 c1) ∧ w'.cell? ⟨cA, 2, none⟩ = some (.slice b1 m1 d1) ∧ w'.cell? ⟨cB, 0, none⟩ = some (.bool f2) ∧ w'.cell? ⟨cB, 1, none⟩ = some (.slice a2 n2 c2) ∧ w'.cell? ⟨cB, 2, none⟩ = some (.slice b2 m2 d2)) (go_keep) (fail)
        all_goals
          go_wp2
          have rC := ((rA9.set0 (.bool f1)).set1 (.slice a1 n1 c1)).set2 (.slice b1 m1 d1)
          have M1 : Marked w9 ((((w9).setCell ⟨w.heap.size, 0, none⟩ (.bool f1)).setCell ⟨w.heap.size, 1, none⟩ (.slice a1 n1 c1)).setCell ⟨w.heap.size, 2, none⟩ (.slice b1 m1 d1)) w.heap.size := (((Marked.refl w9 _).setCell 0 (.bool f1)).setCell 1 (.slice a1 n1 c1)).setCell 2 (.slice b1 m1 d1)
          have rD := (((rB9.marked M1 hne5).set0 (.bool f2)).set1 (.slice a2 n2 c2)).set2 (.slice b2 m2 d2)
          have M2 : Marked ((((w9).setCell ⟨w.heap.size, 0, none⟩ (.bool f1)).setCell ⟨w.heap.size, 1, none⟩ (.slice a1 n1 c1)).setCell ⟨w.heap.size, 2, none⟩ (.slice b1 m1 d1)) _ (w.heap.size + 1) := (((Marked.refl _ _).setCell 0 (.bool f2)).setCell 1 (.slice a2 n2 c2)).setCell 2 (.slice b2 m2 d2)
          have rC' := rC.marked M2 hne5.symm
          refine bodyPost_ret (results_two3 rfl _ _ _ _ _ _ _ _ _ _ rfl rfl rC'.drew rD.drew) rfl ?_
          exact ⟨_, _, rfl, ((SF9.oth (Oth.ofMarked M1) (by omega)).oth (Oth.ofMarked M2) (by omega)).more (by omega) (by omega) |>.keep (since_drew (World.Since.refl _ _)), ((SG9.oth (Oth.ofMarked M1) (by omega)).oth (Oth.ofMarked M2) (by omega)).more (by omega) (by omega) |>.keep (since_drew (World.Since.refl _ _)), (oth_new (oth_new O09 M1 (Nat.le_refl _)) M2 (by omega)).drew⟩
    · have ok1' : ratOkB f1 X1 n1 Y1 m1 = false := by simpa using ok1
      rw [ok1'] at J
      refine J.mono ?_
      rintro e w8 ⟨rfl, s8⟩
      have A8 := A7.keep s8
      have rA8 := rA7.keep s8
      have rB8 := rB7.keep s8
      have RR8 := RR7.keep s8
      have O08 := O07.trans (Oth.ofSince c s8)
      have z8 := s8.size
      have SF8 := SF7.keep s8
      have SG8 := SG7.keep s8
      have RS8 := RS7.keep s8
      have B8 := B7.keep s8
      clear J A7 rA7 rB7 RR7 O07 SF7 SG7 RS7 B7 s8
      go_wp2_with fail
      have kk := And.intro A8.cells B8.cells
      have ua0 := rA8.c0
      have ufa0 := rA8.f 0
      have ua1 := rA8.c1
      have ufa1 := rA8.f 1
      have ua2 := rA8.c2
      have ufa2 := rA8.f 2
      have ub0 := rB8.c0
      have ufb0 := rB8.f 0
      have ub1 := rB8.c1
      have ufb1 := rB8.f 1
      have ub2 := rB8.c2
      have ufb2 := rB8.f 2
      go_region_held3 (fun w' => w'.cell? ⟨cA, 0, none⟩ = some (.bool f1) ∧ w'.cell? ⟨cA, 1, none⟩ = some (.slice a1 n1 c1) ∧ w'.cell? ⟨cA, 2, none⟩ = some (.slice b1 m1 d1) ∧ w'.cell? ⟨cB, 0, none⟩ = some (.bool f2) ∧ w'.cell? ⟨cB, 1, none⟩ = some (.slice a2 n2 c2) ∧ w'.cell? ⟨cB, 2, none⟩ = some (.slice b2 m2 d2)) (go_keep) (fail)
      all_goals
        go_wp2
        have rC := ((rA8.set0 (.bool f1)).set1 (.slice a1 n1 c1)).set2 (.slice b1 m1 d1)
        have M1 : Marked w8 ((((w8).setCell ⟨w.heap.size, 0, none⟩ (.bool f1)).setCell ⟨w.heap.size, 1, none⟩ (.slice a1 n1 c1)).setCell ⟨w.heap.size, 2, none⟩ (.slice b1 m1 d1)) w.heap.size := (((Marked.refl w8 _).setCell 0 (.bool f1)).setCell 1 (.slice a1 n1 c1)).setCell 2 (.slice b1 m1 d1)
        have rD := (((rB8.marked M1 hne5).set0 (.bool f2)).set1 (.slice a2 n2 c2)).set2 (.slice b2 m2 d2)
        have M2 : Marked ((((w8).setCell ⟨w.heap.size, 0, none⟩ (.bool f1)).setCell ⟨w.heap.size, 1, none⟩ (.slice a1 n1 c1)).setCell ⟨w.heap.size, 2, none⟩ (.slice b1 m1 d1)) _ (w.heap.size + 1) := (((Marked.refl _ _).setCell 0 (.bool f2)).setCell 1 (.slice a2 n2 c2)).setCell 2 (.slice b2 m2 d2)
        have rC' := rC.marked M2 hne5.symm
        refine bodyPost_ret (results_two3 rfl _ _ _ _ _ _ _ _ _ _ rfl rfl rC'.drew rD.drew) rfl ?_
        exact ⟨_, _, rfl, ((SF8.oth (Oth.ofMarked M1) (by omega)).oth (Oth.ofMarked M2) (by omega)).more (by omega) (by omega) |>.keep (since_drew (World.Since.refl _ _)), ((SG8.oth (Oth.ofMarked M1) (by omega)).oth (Oth.ofMarked M2) (by omega)).more (by omega) (by omega) |>.keep (since_drew (World.Since.refl _ _)), (oth_new (oth_new O08 M1 (Nat.le_refl _)) M2 (by omega)).drew⟩
  have r2' : ((k : Int) % 8 == 2) = false := by simp [r2]
  by_cases r3 : (k : Int) % 8 = 3
  · have r3' : ((k : Int) % 8 == 3) = true := by simp [r3]
    have e0 := A7.c0
    have e1 := A7.c1
    have e2 := A7.c2
    by_cases hm1 : 0 < m1
    · have hm1' : (0 : Int) < (m1 : Int) := by omega
      go_wp2_with fail
      clear e0 e1 e2
      generalize (w5.alloc (.cells #[.bool f2, .slice a2 n2 c2, .slice b2 m2 d2] 25)) = w7 at *
      generalize hcB : w5.heap.size = cB at *
      have J := specRatOk_any f1 a1 b1 g1 0 n1 c1 h1 0 m1 d1 X1 Y1 w7 (by omega) (by omega) RR7.LX RR7.LY RR7.lX RR7.lY
      by_cases ok1 : ratOkB f1 X1 n1 Y1 m1 = true
      · rw [ok1] at J
        refine J.mono ?_
        rintro e w8 ⟨rfl, s8⟩
        have A8 := A7.keep s8
        have rA8 := rA7.keep s8
        have rB8 := rB7.keep s8
        have RR8 := RR7.keep s8
        have O08 := O07.trans (Oth.ofSince c s8)
        have z8 := s8.size
        have SF8 := SF7.keep s8
        have SG8 := SG7.keep s8
        have RS8 := RS7.keep s8
        have B8 := B7.keep s8
        clear J A7 rA7 rB7 RR7 O07 SF7 SG7 RS7 B7 s8
        have i0 := B8.c0
        have i1 := B8.c1
        have i2 := B8.c2
        go_wp2_with fail
        clear i0 i1 i2
        have J := specRatOk_any f2 a2 b2 g2 0 n2 c2 h2 0 m2 d2 X2 Y2 w8 (by omega) (by omega) RS8.LX RS8.LY RS8.lX RS8.lY
        by_cases ok2 : ratOkB f2 X2 n2 Y2 m2 = true
        · rw [ok2] at J
          refine J.mono ?_
          rintro e w9 ⟨rfl, s9⟩
          have A9 := A8.keep s9
          have rA9 := rA8.keep s9
          have rB9 := rB8.keep s9
          have RR9 := RR8.keep s9
          have O09 := O08.trans (Oth.ofSince c s9)
          have z9 := s9.size
          have SF9 := SF8.keep s9
          have SG9 := SG8.keep s9
          have RS9 := RS8.keep s9
          have B9 := B8.keep s9
          clear J A8 rA8 rB8 RR8 O08 SF8 SG8 RS8 B8 s9
          go_wp2_with fail
          have J1 := l1Bits_any a2 g2 0 n2 c2 X2 w9.drew (by omega) RS9.LX RS9.lX
          have RI1 := RR9.ok ok1
          have hden := RI1.den
          have kk := And.intro A9.cells B9.cells
          have z9' := rB9.lt
          have LY9 := RR9.LY
          have lY9 := RR9.lY
          go_region_held3 (fun w' => w'.cell? ⟨cA, 0, none⟩ = some (.bool f1) ∧ w'.cell? ⟨cA, 1, none⟩ = some (.slice a1 n1 c1) ∧ w'.cell? ⟨cA, 2, none⟩ = some (.slice b1 m1 d1) ∧ w'.cell? ⟨cB, 0, none⟩ = some (.bool f2) ∧ w'.cell? ⟨cB, 1, none⟩ = some (.slice a2 n2 c2) ∧ w'.cell? ⟨cB, 2, none⟩ = some (.slice b2 m2 d2)) (go_keep)
            (first
             | (go_at_call 31
                first
                | (with_reducible refine J1.mono ?_
                   rintro e w10 ⟨a10, g10, m10, c10, B10', rfl, k101, k102, L10, -, p10, -, s10⟩
                   have s10' : w9.Since w9.heap.size w10 := ⟨s10.os, s10.tape, s10.output, s10.size, s10.block⟩
                   have kk := And.intro (A9.keep s10').cells (B9.keep s10').cells
                   have T10 : Tr w10 (.slice a10 m10 c10) m10 B10' := ⟨a10, g10, 0, c10, rfl, k101, L10, p10⟩
                   have J2 := l1Bits_any b1 h1 0 m1 d1 Y1 w10 (by omega) (LY9.keep s10') lY9)
                | (with_reducible refine J2.mono ?_
                   rintro e w11 ⟨a11, g11, m11, c11, B11', rfl, k111, k112, L11, -, p11, e11, s11⟩
                   have s11' : w9.Since w9.heap.size w11 := s10'.trans (sinceMono s11 s10'.size)
                   have kk := And.intro (A9.keep s11').cells (B9.keep s11').cells
                   have T11 : Tr w11 (.slice a11 m11 c11) m11 B11' := ⟨a11, g11, 0, c11, rfl, k111, L11, p11⟩
                   have J3 := l1Make_any f2 _ _ m10 m11 B10' B11' w11 (by omega) (by omega) (T10.keep s11) T11 (by rw [e11]; exact hden)
                   have HB1 := hide (bv_lim B10' (k := 13) (show m10 ≤ 32 * 13 by omega))
                   have HB2 := hide (bv_lim B11' (k := 13) (show m11 ≤ 32 * 13 by omega))))
             | (go_at_call 60
                with_reducible refine J3.mono ?_
                rintro e w6 ⟨v6, rfl, HV, s6⟩
                have S26 : RatS w6 v6 w11.heap.size 13 := HV.shape (lt_div HB1.out) (lt_div HB2.out)
                have s6' : w9.Since w9.heap.size w6 := s11'.trans (sinceMono s6 s11'.size)
                obtain ⟨f6, a6, n6, c6, b6, m6, d6, g6, h6, X6, Y6, rfl, RR6, k61, k62, k63, k64⟩ := S26
                have z10 := s11'.size
                have S26 : RatS w6 (.agg #[.bool f6, .slice a6 n6 c6, .slice b6 m6 d6]) (w.heap.size + 1 + 1) 27 := ⟨f6, a6, n6, c6, b6, m6, d6, g6, h6, X6, Y6, rfl, RR6, by omega, by omega, fun h0 => by have := k63 h0; omega, fun h0 => by have := k64 h0; omega⟩
                have A6 := A9.keep s6'
                have B6 := B9.keep s6'
                have rA6 := rA9.keep s6'
                have rB6 := rB9.keep s6'
                have S16 := SF9.keep s6'
                have O06 := O09.trans (Oth.ofSince c s6')
                have kk := And.intro A6.cells B6.cells
                have ua0 := rA6.c0
                have ufa0 := rA6.f 0
                have ua1 := rA6.c1
                have ufa1 := rA6.f 1
                have ua2 := rA6.c2
                have ufa2 := rA6.f 2
                have ub0 := rB6.c0
                have ufb0 := rB6.f 0
                have ub1 := rB6.c1
                have ufb1 := rB6.f 1
                have ub2 := rB6.c2
                have ufb2 := rB6.f 2))
          all_goals
            go_wp2
            have rC := ((rA6.set0 (.bool f1)).set1 (.slice a1 n1 c1)).set2 (.slice b1 m1 d1)
            have M1 : Marked w6 ((((w6).setCell ⟨w.heap.size, 0, none⟩ (.bool f1)).setCell ⟨w.heap.size, 1, none⟩ (.slice a1 n1 c1)).setCell ⟨w.heap.size, 2, none⟩ (.slice b1 m1 d1)) w.heap.size := (((Marked.refl w6 _).setCell 0 (.bool f1)).setCell 1 (.slice a1 n1 c1)).setCell 2 (.slice b1 m1 d1)
            have rD := (((rB6.marked M1 hne5).set0 (.bool f6)).set1 (.slice a6 n6 c6)).set2 (.slice b6 m6 d6)
            have M2 : Marked ((((w6).setCell ⟨w.heap.size, 0, none⟩ (.bool f1)).setCell ⟨w.heap.size, 1, none⟩ (.slice a1 n1 c1)).setCell ⟨w.heap.size, 2, none⟩ (.slice b1 m1 d1)) _ (w.heap.size + 1) := (((Marked.refl _ _).setCell 0 (.bool f6)).setCell 1 (.slice a6 n6 c6)).setCell 2 (.slice b6 m6 d6)
            have rC' := rC.marked M2 hne5.symm
            refine bodyPost_ret (results_two3 rfl _ _ _ _ _ _ _ _ _ _ rfl rfl rC' rD) rfl ?_
            exact ⟨_, _, rfl, ((S16.oth (Oth.ofMarked M1) (by omega)).oth (Oth.ofMarked M2) (by omega)).more (by omega) (by omega), ((S26.oth (Oth.ofMarked M1) (by omega)).oth (Oth.ofMarked M2) (by omega)).more (by omega) (by omega), oth_new (oth_new O06 M1 (Nat.le_refl _)) M2 (by omega)⟩
        · have ok2' : ratOkB f2 X2 n2 Y2 m2 = false := by simpa using ok2
          rw [ok2'] at J
          refine J.mono ?_
          rintro e w9 ⟨rfl, s9⟩
          have A9 := A8.keep s9
          have rA9 := rA8.keep s9
          have rB9 := rB8.keep s9
          have RR9 := RR8.keep s9
          have O09 := O08.trans (Oth.ofSince c s9)
          have z9 := s9.size
          have SF9 := SF8.keep s9
          have SG9 := SG8.keep s9
          have RS9 := RS8.keep s9
          have B9 := B8.keep s9
          clear J A8 rA8 rB8 RR8 O08 SF8 SG8 RS8 B8 s9
          go_wp2_with fail
          have kk := And.intro A9.cells B9.cells
          have ua0 := rA9.c0
          have ufa0 := rA9.f 0
          have ua1 := rA9.c1
          have ufa1 := rA9.f 1
          have ua2 := rA9.c2
          have ufa2 := rA9.f 2
          have ub0 := rB9.c0
          have ufb0 := rB9.f 0
          have ub1 := rB9.c1
          have ufb1 := rB9.f 1
          have ub2 := rB9.c2
          have ufb2 := rB9.f 2
          go_region_held3 (fun w' => w'.cell? ⟨cA, 0, none⟩ = some (.bool f1) ∧ w'.cell? ⟨cA, 1, none⟩ = some (.slice a1 n1 c1) ∧ w'.cell? ⟨cA, 2, none⟩ = some (.slice b1 m1 d1) ∧ w'.cell? ⟨cB, 0, none⟩ = some (.bool f2) ∧ w'.cell? ⟨cB, 1, none⟩ = some (.slice a2 n2 c2) ∧ w'.cell? ⟨cB, 2, none⟩ = some (.slice b2 m2 d2)) (go_keep) (fail)
          all_goals
            go_wp2
            have rC := ((rA9.set0 (.bool f1)).set1 (.slice a1 n1 c1)).set2 (.slice b1 m1 d1)
            have M1 : Marked w9 ((((w9).setCell ⟨w.heap.size, 0, none⟩ (.bool f1)).setCell ⟨w.heap.size, 1, none⟩ (.slice a1 n1 c1)).setCell ⟨w.heap.size, 2, none⟩ (.slice b1 m1 d1)) w.heap.size := (((Marked.refl w9 _).setCell 0 (.bool f1)).setCell 1 (.slice a1 n1 c1)).setCell 2 (.slice b1 m1 d1)
            have rD := (((rB9.marked M1 hne5).set0 (.bool f2)).set1 (.slice a2 n2 c2)).set2 (.slice b2 m2 d2)
            have M2 : Marked ((((w9).setCell ⟨w.heap.size, 0, none⟩ (.bool f1)).setCell ⟨w.heap.size, 1, none⟩ (.slice a1 n1 c1)).setCell ⟨w.heap.size, 2, none⟩ (.slice b1 m1 d1)) _ (w.heap.size + 1) := (((Marked.refl _ _).setCell 0 (.bool f2)).setCell 1 (.slice a2 n2 c2)).setCell 2 (.slice b2 m2 d2)
            have rC' := rC.marked M2 hne5.symm
            refine bodyPost_ret (results_two3 rfl _ _ _ _ _ _ _ _ _ _ rfl rfl rC'.drew rD.drew) rfl ?_
            exact ⟨_, _, rfl, ((SF9.oth (Oth.ofMarked M1) (by omega)).oth (Oth.ofMarked M2) (by omega)).more (by omega) (by omega) |>.keep (since_drew (World.Since.refl _ _)), ((SG9.oth (Oth.ofMarked M1) (by omega)).oth (Oth.ofMarked M2) (by omega)).more (by omega) (by omega) |>.keep (since_drew (World.Since.refl _ _)), (oth_new (oth_new O09 M1 (Nat.le_refl _)) M2 (by omega)).drew⟩
      · have ok1' : ratOkB f1 X1 n1 Y1 m1 = false := by simpa using ok1
        rw [ok1'] at J
        refine J.mono ?_
        rintro e w8 ⟨rfl, s8⟩
        have A8 := A7.keep s8
        have rA8 := rA7.keep s8
        have rB8 := rB7.keep s8
        have RR8 := RR7.keep s8
        have O08 := O07.trans (Oth.ofSince c s8)
        have z8 := s8.size
        have SF8 := SF7.keep s8
        have SG8 := SG7.keep s8
        have RS8 := RS7.keep s8
        have B8 := B7.keep s8
        clear J A7 rA7 rB7 RR7 O07 SF7 SG7 RS7 B7 s8
        go_wp2_with fail
        have kk := And.intro A8.cells B8.cells
        have ua0 := rA8.c0
        have ufa0 := rA8.f 0
        have ua1 := rA8.c1
        have ufa1 := rA8.f 1
        have ua2 := rA8.c2
        have ufa2 := rA8.f 2
        have ub0 := rB8.c0
        have ufb0 := rB8.f 0
        have ub1 := rB8.c1
        have ufb1 := rB8.f 1
        have ub2 := rB8.c2
        have ufb2 := rB8.f 2
        go_region_held3 (fun w' => w'.cell? ⟨cA, 0, none⟩ = some (.bool f1) ∧ w'.cell? ⟨cA, 1, none⟩ = some (.slice a1 n1 c1) ∧ w'.cell? ⟨cA, 2, none⟩ = some (.slice b1 m1 d1) ∧ w'.cell? ⟨cB, 0, none⟩ = some (.bool f2) ∧ w'.cell? ⟨cB, 1, none⟩ = some (.slice a2 n2 c2) ∧ w'.cell? ⟨cB, 2, none⟩ = some (.slice b2 m2 d2)) (go_keep) (fail)
        all_goals
          go_wp2
          have rC := ((rA8.set0 (.bool f1)).set1 (.slice a1 n1 c1)).set2 (.slice b1 m1 d1)
          have M1 : Marked w8 ((((w8).setCell ⟨w.heap.size, 0, none⟩ (.bool f1)).setCell ⟨w.heap.size, 1, none⟩ (.slice a1 n1 c1)).setCell ⟨w.heap.size, 2, none⟩ (.slice b1 m1 d1)) w.heap.size := (((Marked.refl w8 _).setCell 0 (.bool f1)).setCell 1 (.slice a1 n1 c1)).setCell 2 (.slice b1 m1 d1)
          have rD := (((rB8.marked M1 hne5).set0 (.bool f2)).set1 (.slice a2 n2 c2)).set2 (.slice b2 m2 d2)
          have M2 : Marked ((((w8).setCell ⟨w.heap.size, 0, none⟩ (.bool f1)).setCell ⟨w.heap.size, 1, none⟩ (.slice a1 n1 c1)).setCell ⟨w.heap.size, 2, none⟩ (.slice b1 m1 d1)) _ (w.heap.size + 1) := (((Marked.refl _ _).setCell 0 (.bool f2)).setCell 1 (.slice a2 n2 c2)).setCell 2 (.slice b2 m2 d2)
          have rC' := rC.marked M2 hne5.symm
          refine bodyPost_ret (results_two3 rfl _ _ _ _ _ _ _ _ _ _ rfl rfl rC'.drew rD.drew) rfl ?_
          exact ⟨_, _, rfl, ((SF8.oth (Oth.ofMarked M1) (by omega)).oth (Oth.ofMarked M2) (by omega)).more (by omega) (by omega) |>.keep (since_drew (World.Since.refl _ _)), ((SG8.oth (Oth.ofMarked M1) (by omega)).oth (Oth.ofMarked M2) (by omega)).more (by omega) (by omega) |>.keep (since_drew (World.Since.refl _ _)), (oth_new (oth_new O08 M1 (Nat.le_refl _)) M2 (by omega)).drew⟩
    · have hm1' : ¬ (0 : Int) < (m1 : Int) := by omega
      go_wp2_with fail
      clear e0 e1 e2
      generalize (w5.alloc (.cells #[.bool f2, .slice a2 n2 c2, .slice b2 m2 d2] 25)) = w7 at *
      generalize hcB : w5.heap.size = cB at *
      have kk := And.intro A7.cells B7.cells
      have ua0 := rA7.c0
      have ufa0 := rA7.f 0
      have ua1 := rA7.c1
      have ufa1 := rA7.f 1
      have ua2 := rA7.c2
      have ufa2 := rA7.f 2
      have ub0 := rB7.c0
      have ufb0 := rB7.f 0
      have ub1 := rB7.c1
      have ufb1 := rB7.f 1
      have ub2 := rB7.c2
      have ufb2 := rB7.f 2
      go_region_held3 (fun w' => w'.cell? ⟨cA, 0, none⟩ = some (.bool f1) ∧ w'.cell? ⟨cA, 1, none⟩ = some (.slice a1 n1 c1) ∧ w'.cell? ⟨cA, 2, none⟩ = some (.slice b1 m1 d1) ∧ w'.cell? ⟨cB, 0, none⟩ = some (.bool f2) ∧ w'.cell? ⟨cB, 1, none⟩ = some (.slice a2 n2 c2) ∧ w'.cell? ⟨cB, 2, none⟩ = some (.slice b2 m2 d2)) (go_keep) (fail)
      all_goals
        go_wp2
        have rC := ((rA7.set0 (.bool f1)).set1 (.slice a1 n1 c1)).set2 (.slice b1 m1 d1)
        have M1 : Marked w7 ((((w7).setCell ⟨w.heap.size, 0, none⟩ (.bool f1)).setCell ⟨w.heap.size, 1, none⟩ (.slice a1 n1 c1)).setCell ⟨w.heap.size, 2, none⟩ (.slice b1 m1 d1)) w.heap.size := (((Marked.refl w7 _).setCell 0 (.bool f1)).setCell 1 (.slice a1 n1 c1)).setCell 2 (.slice b1 m1 d1)
        have rD := (((rB7.marked M1 hne5).set0 (.bool f2)).set1 (.slice a2 n2 c2)).set2 (.slice b2 m2 d2)
        have M2 : Marked ((((w7).setCell ⟨w.heap.size, 0, none⟩ (.bool f1)).setCell ⟨w.heap.size, 1, none⟩ (.slice a1 n1 c1)).setCell ⟨w.heap.size, 2, none⟩ (.slice b1 m1 d1)) _ (w.heap.size + 1) := (((Marked.refl _ _).setCell 0 (.bool f2)).setCell 1 (.slice a2 n2 c2)).setCell 2 (.slice b2 m2 d2)
        have rC' := rC.marked M2 hne5.symm
        refine bodyPost_ret (results_two3 rfl _ _ _ _ _ _ _ _ _ _ rfl rfl rC'.drew rD.drew) rfl ?_
        exact ⟨_, _, rfl, ((SF7.oth (Oth.ofMarked M1) (by omega)).oth (Oth.ofMarked M2) (by omega)).more (by omega) (by omega) |>.keep (since_drew (World.Since.refl _ _)), ((SG7.oth (Oth.ofMarked M1) (by omega)).oth (Oth.ofMarked M2) (by omega)).more (by omega) (by omega) |>.keep (since_drew (World.Since.refl _ _)), (oth_new (oth_new O07 M1 (Nat.le_refl _)) M2 (by omega)).drew⟩
  have r3' : ((k : Int) % 8 == 3) = false := by simp [r3]
  go_wp2_with fail
  generalize (w5.alloc (.cells #[.bool f2, .slice a2 n2 c2, .slice b2 m2 d2] 25)) = w7 at *
  generalize hcB : w5.heap.size = cB at *
  have kk := And.intro A7.cells B7.cells
  have ua0 := rA7.c0
  have ufa0 := rA7.f 0
  have ua1 := rA7.c1
  have ufa1 := rA7.f 1
  have ua2 := rA7.c2
  have ufa2 := rA7.f 2
  have ub0 := rB7.c0
  have ufb0 := rB7.f 0
  have ub1 := rB7.c1
  have ufb1 := rB7.f 1
  have ub2 := rB7.c2
  have ufb2 := rB7.f 2
  go_region_held3 (fun w' => w'.cell? ⟨cA, 0, none⟩ = some (.bool f1) ∧ w'.cell? ⟨cA, 1, none⟩ = some (.slice a1 n1 c1) ∧ w'.cell? ⟨cA, 2, none⟩ = some (.slice b1 m1 d1) ∧ w'.cell? ⟨cB, 0, none⟩ = some (.bool f2) ∧ w'.cell? ⟨cB, 1, none⟩ = some (.slice a2 n2 c2) ∧ w'.cell? ⟨cB, 2, none⟩ = some (.slice b2 m2 d2)) (go_keep) (fail)
  all_goals
    go_wp2
    have rC := ((rA7.set0 (.bool f1)).set1 (.slice a1 n1 c1)).set2 (.slice b1 m1 d1)
    have M1 : Marked w7 ((((w7).setCell ⟨w.heap.size, 0, none⟩ (.bool f1)).setCell ⟨w.heap.size, 1, none⟩ (.slice a1 n1 c1)).setCell ⟨w.heap.size, 2, none⟩ (.slice b1 m1 d1)) w.heap.size := (((Marked.refl w7 _).setCell 0 (.bool f1)).setCell 1 (.slice a1 n1 c1)).setCell 2 (.slice b1 m1 d1)
    have rD := (((rB7.marked M1 hne5).set0 (.bool f2)).set1 (.slice a2 n2 c2)).set2 (.slice b2 m2 d2)
    have M2 : Marked ((((w7).setCell ⟨w.heap.size, 0, none⟩ (.bool f1)).setCell ⟨w.heap.size, 1, none⟩ (.slice a1 n1 c1)).setCell ⟨w.heap.size, 2, none⟩ (.slice b1 m1 d1)) _ (w.heap.size + 1) := (((Marked.refl _ _).setCell 0 (.bool f2)).setCell 1 (.slice a2 n2 c2)).setCell 2 (.slice b2 m2 d2)
    have rC' := rC.marked M2 hne5.symm
    refine bodyPost_ret (results_two3 rfl _ _ _ _ _ _ _ _ _ _ rfl rfl rC'.drew rD.drew) rfl ?_
    exact ⟨_, _, rfl, ((SF7.oth (Oth.ofMarked M1) (by omega)).oth (Oth.ofMarked M2) (by omega)).more (by omega) (by omega) |>.keep (since_drew (World.Since.refl _ _)), ((SG7.oth (Oth.ofMarked M1) (by omega)).oth (Oth.ofMarked M2) (by omega)).more (by omega) (by omega) |>.keep (since_drew (World.Since.refl _ _)), (oth_new (oth_new O07 M1 (Nat.le_refl _)) M2 (by omega)).drew⟩

end Go.Proofs.YtklkohdcilnchaaDoor

namespace Go.Proofs.YtklkohdcilnchaaDoor
open Go.RowKit

set_option maxHeartbeats 1600000 in
set_option maxRecDepth 100000 in
theorem drawRatAdd_any (a : Option Addr) (b off n cap : Nat) (X : Nat → Nat) (w : World) (hn : n ≤ 1048576) (hC : Code w a b off n X) :
    Calls Tryd.prog 5 #[.slice a n cap] w fun e w' => ∃ v1 v2, e = .returned (.tuple #[v1, v2]) ∧ RatS w' v1 w.heap.size 32 ∧ RatS w' v2 w.heap.size 32 ∧ w.Since w.heap.size w' := by
  have sA : w.Since w.heap.size ((w.alloc (.cells #[.bool false, .slice none 0 0, .slice none 0 0] 25)).alloc (.cells #[.bool false, .slice none 0 0, .slice none 0 0] 25)) := ((World.Since.refl _ _).alloc (Nat.le_refl _) _).alloc (by simp) _
  have zA : ((w.alloc (.cells #[.bool false, .slice none 0 0, .slice none 0 0] 25)).alloc (.cells #[.bool false, .slice none 0 0, .slice none 0 0] 25)).heap.size = w.heap.size + 1 + 1 := by simp
  have rA : Box3 ((w.alloc (.cells #[.bool false, .slice none 0 0, .slice none 0 0] 25)).alloc (.cells #[.bool false, .slice none 0 0, .slice none 0 0] 25)) w.heap.size (.bool false) (.slice none 0 0) (.slice none 0 0) := (Box3.new w _ _ _ _).keep ((World.Since.refl _ _).alloc (Nat.le_refl _) _)
  have rB : Box3 ((w.alloc (.cells #[.bool false, .slice none 0 0, .slice none 0 0] 25)).alloc (.cells #[.bool false, .slice none 0 0, .slice none 0 0] 25)) (w.heap.size + 1) (.bool false) (.slice none 0 0) (.slice none 0 0) := by
    have := Box3.new (w.alloc (.cells #[.bool false, .slice none 0 0, .slice none 0 0] 25)) (.bool false) (.slice none 0 0) (.slice none 0 0) 25
    simpa using this
  have HZA := hide zA
  clear zA
  have hbl := hC.lt
  go_enter Tryd.func5, Tryd.ntmps5
  go_wp2_with fail
  generalize ((w.alloc (.cells #[.bool false, .slice none 0 0, .slice none 0 0] 25)).alloc (.cells #[.bool false, .slice none 0 0, .slice none 0 0] 25)) = wA at *
  have zA1 : w.heap.size + 1 < wA.heap.size := by have := HZA.out; omega
  clear HZA
  refine (l1Open_any a b off n cap X wA (hC.keep sA)).mono ?_
  rintro e w1 ⟨rfl, R1, s1⟩
  have rA1 := rA.keep s1
  have rB1 := rB.keep s1
  have z1 := s1.size
  have hc1 := R1.lt
  go_wp2_with fail
  refine (l1DrawPair_any wA.heap.size a b off n cap X w1 hn R1 (fun h => by have := hbl h; omega)).mono ?_
  rintro e w2 ⟨v, v', rfl, ⟨f1, a1, n1, c1, b1, m1, d1, g1, h1, X1, Y1, rfl, RR1, k11, k12, k13, k14⟩, ⟨f2, a2, n2, c2, b2, m2, d2, g2, h2, X2, Y2, rfl, RR2, k21, k22, k23, k24⟩, O2⟩
  have S1 : RatS w2 (.agg #[.bool f1, .slice a1 n1 c1, .slice b1 m1 d1]) w1.heap.size 32 := ⟨f1, a1, n1, c1, b1, m1, d1, g1, h1, X1, Y1, rfl, RR1, k11, k12, k13, k14⟩
  have S2 : RatS w2 (.agg #[.bool f2, .slice a2 n2 c2, .slice b2 m2 d2]) w1.heap.size 32 := ⟨f2, a2, n2, c2, b2, m2, d2, g2, h2, X2, Y2, rfl, RR2, k21, k22, k23, k24⟩
  have rA2 := rA1.oth O2 (by omega)
  have rB2 := rB1.oth O2 (by omega)
  have S02 : w.Since w.heap.size w2 := (sA.trans (sinceMono s1 sA.size)).trans (sinceMono (O2.since (by omega)) (by omega))
  have hne5 : w.heap.size + 1 ≠ w.heap.size := by omega
  have ua0 := rA2.c0
  have ufa0 := rA2.f 0
  have ua1 := rA2.c1
  have ufa1 := rA2.f 1
  have ua2 := rA2.c2
  have ufa2 := rA2.f 2
  have ub0 := rB2.c0
  have ufb0 := rB2.f 0
  have ub1 := rB2.c1
  have ufb1 := rB2.f 1
  have ub2 := rB2.c2
  have ufb2 := rB2.f 2
  go_wp2
  have rC := ((rA2.set0 (.bool f1)).set1 (.slice a1 n1 c1)).set2 (.slice b1 m1 d1)
  have M1 : Marked w2 (((w2.setCell ⟨w.heap.size, 0, none⟩ (.bool f1)).setCell ⟨w.heap.size, 1, none⟩ (.slice a1 n1 c1)).setCell ⟨w.heap.size, 2, none⟩ (.slice b1 m1 d1)) w.heap.size := (((Marked.refl w2 _).setCell 0 (.bool f1)).setCell 1 (.slice a1 n1 c1)).setCell 2 (.slice b1 m1 d1)
  have rD := (((rB2.marked M1 hne5).set0 (.bool f2)).set1 (.slice a2 n2 c2)).set2 (.slice b2 m2 d2)
  have M2 : Marked (((w2.setCell ⟨w.heap.size, 0, none⟩ (.bool f1)).setCell ⟨w.heap.size, 1, none⟩ (.slice a1 n1 c1)).setCell ⟨w.heap.size, 2, none⟩ (.slice b1 m1 d1)) _ (w.heap.size + 1) := (((Marked.refl _ _).setCell 0 (.bool f2)).setCell 1 (.slice a2 n2 c2)).setCell 2 (.slice b2 m2 d2)
  have rC' := rC.marked M2 hne5.symm
  refine bodyPost_ret (results_two3 rfl _ _ _ _ _ _ _ _ _ _ rfl rfl rC' rD) rfl ?_
  exact ⟨_, _, rfl, ((S1.oth (Oth.ofMarked M1) (by omega)).oth (Oth.ofMarked M2) (by omega)).more (by omega) (by omega), ((S2.oth (Oth.ofMarked M1) (by omega)).oth (Oth.ofMarked M2) (by omega)).more (by omega) (by omega), (S02.trans (M1.since (Nat.le_refl _))).trans (M2.since (by omega))⟩

set_option maxHeartbeats 1600000 in
set_option maxRecDepth 100000 in
theorem drawRatText_any (a : Option Addr) (b off n cap : Nat) (X : Nat → Nat) (w : World) (hn : n ≤ 1048576) (hC : Code w a b off n X) :
    Calls Tryd.prog 6 #[.slice a n cap] w fun e w' => ∃ v, e = .returned v ∧ RatS w' v w.heap.size 32 ∧ w.Since w.heap.size w' := by
  have sA : w.Since w.heap.size (w.alloc (.cells #[.bool false, .slice none 0 0, .slice none 0 0] 25)) := (World.Since.refl _ _).alloc (Nat.le_refl _) _
  have rA := Box3.new w (.bool false) (.slice none 0 0) (.slice none 0 0) 25
  have hbl := hC.lt
  go_enter Tryd.func6, Tryd.ntmps6
  go_wp2_with fail
  generalize (w.alloc (.cells #[.bool false, .slice none 0 0, .slice none 0 0] 25)) = wA at *
  have bl := rA.lt
  refine (l1Open_any a b off n cap X wA (hC.keep sA)).mono ?_
  rintro e w1 ⟨rfl, R1, s1⟩
  have rA1 := rA.keep s1
  have z1 := s1.size
  have hc1 := R1.lt
  go_wp2_with fail
  refine (l1DrawAny_any wA.heap.size a b off n cap X w1 hn R1 (fun h => by have := hbl h; omega)).mono ?_
  rintro e w2 ⟨v, rfl, ⟨f1, a1, n1, c1, b1, m1, d1, g1, h1, X1, Y1, rfl, RR1, k11, k12, k13, k14⟩, -, O2⟩
  have S1 : RatS w2 (.agg #[.bool f1, .slice a1 n1 c1, .slice b1 m1 d1]) w1.heap.size 13 := ⟨f1, a1, n1, c1, b1, m1, d1, g1, h1, X1, Y1, rfl, RR1, k11, k12, k13, k14⟩
  have rA2 := rA1.oth O2 (by omega)
  have S02 : w.Since w.heap.size w2 := (sA.trans (sinceMono s1 sA.size)).trans (sinceMono (O2.since (by omega)) (by omega))
  have ua0 := rA2.c0
  have ufa0 := rA2.f 0
  have ua1 := rA2.c1
  have ufa1 := rA2.f 1
  have ua2 := rA2.c2
  have ufa2 := rA2.f 2
  go_wp2
  have rC := ((rA2.set0 (.bool f1)).set1 (.slice a1 n1 c1)).set2 (.slice b1 m1 d1)
  have M1 : Marked w2 _ w.heap.size := (((Marked.refl w2 _).setCell 0 (.bool f1)).setCell 1 (.slice a1 n1 c1)).setCell 2 (.slice b1 m1 d1)
  refine bodyPost_ret (results_box3 rfl _ _ _ _ _ _ rfl rC) rfl ?_
  exact ⟨_, rfl, (S1.oth (Oth.ofMarked M1) (by omega)).more (by omega) (by omega), S02.trans (M1.since (Nat.le_refl _))⟩

end Go.Proofs.YtklkohdcilnchaaDoor

namespace Go.Proofs.YtklkohdcilnchaaDoor
open Go.RowKit

/-- A whole number as a Rat: its lists are not nil. -/
def WholeV (w : World) (v : Value) (N M : Nat) : Prop :=
  ∃ g n c h X Y, v = .agg #[.bool false, .slice (some ⟨g, 0, none⟩) n c, .slice (some ⟨h, 0, none⟩) 1 1] ∧ n ≤ c ∧ n ≤ M ∧ Limbs w (some ⟨g, 0, none⟩) g 0 n X ∧ (∀ j, j < n → X j < 4294967296) ∧ (0 < n → X (n - 1) ≠ 0) ∧ lv X n = N ∧ Limbs w (some ⟨h, 0, none⟩) h 0 1 Y ∧ Y 0 = 1

set_option maxHeartbeats 1600000 in
set_option maxRecDepth 100000 in
theorem lwWhole_any (a : Option Addr) (b n cap : Nat) (X : Nat → Nat) (w : World) (hn : n ≤ 1024) (hnc : n ≤ cap) (hX : Limbs w a b 0 n X) (lX : ∀ j, j < n → X j < 4294967296) :
    Calls Tryd.prog 17 #[.slice a n cap] w fun e w' => ∃ v, e = .returned v ∧ WholeV w' v (lv X n) n ∧ w.Since w.heap.size w' := by
  obtain ⟨i0, hi, hz0, hz1, hz2⟩ := info_parts Tryd.info43
  have sA : w.Since w.heap.size (w.alloc (.cells #[.bool false, .slice none 0 0, .slice none 0 0] 25)) := (World.Since.refl _ _).alloc (Nat.le_refl _) _
  have rA := Box3.new w (.bool false) (.slice none 0 0) (.slice none 0 0) 25
  have tB : (w.alloc (.cells #[.bool false, .slice none 0 0, .slice none 0 0] 25)).Since (w.alloc (.cells #[.bool false, .slice none 0 0, .slice none 0 0] 25)).heap.size ((w.alloc (.cells #[.bool false, .slice none 0 0, .slice none 0 0] 25)).alloc (.cells #[] 43)) := (World.Since.refl _ _).alloc (Nat.le_refl _) _
  have SB := sA.trans (sinceMono tB sA.size)
  have own1 := World.ownsRow_made (e := 43) (size := 1) (w.alloc (.cells #[.bool false, .slice none 0 0, .slice none 0 0] 25)) #[] 0 (Nat.le_refl _) (by decide) rfl
  have zA : (w.alloc (.cells #[.bool false, .slice none 0 0, .slice none 0 0] 25)).heap.size = w.heap.size + 1 := by simp
  rw [zA] at own1
  have HZA := hide zA
  clear zA
  have FIN : ∀ (v' : Value) (w2 : World) (k : Nat), tlen (nz X) k = tlen (nz X) n → (k = 0 ∨ nz X (k - 1) = true) → k ≤ n → v' ≠ .slice none 0 0 → w2.ownsRow (w.heap.size + 1) 43 1 v' k (ll X k) → Hid (∃ g c, v' = .slice (some ⟨g, 0, none⟩) k c ∧ k ≤ c ∧ g < w2.heap.size ∧ w.heap.size < g ∧ Limbs w2 (some ⟨g, 0, none⟩) g 0 k X ∧ (0 < k → X (k - 1) ≠ 0) ∧ lv X k = lv X n) := by
    intro v' w2 k ht hk hkn hv ho
    obtain ⟨g, c, rfl, h1, h2, h3, h4, -⟩ := own_limbs_some ho hv
    have e : k = tlen (nz X) k := by
      rcases hk with rfl | hk
      · rfl
      · cases k with
        | zero => rfl
        | succ k => rw [tlen_true (by omega) hk]
    refine ⟨g, c, rfl, h1, h3, by omega, h4, fun h0 => ?_, ?_⟩
    · rcases hk with rfl | hk
      · omega
      · simpa [nz] using hk
    · rw [e, ht, lv_tlen]
  go_enter Tryd.func17, Tryd.ntmps17
  go_wp2
  go_loop [3] (fun i => ∃ k : Nat, k ≤ n ∧ i = .int .i64 k ∧ Hid (tlen (nz X) k = tlen (nz X) n)) (fun i => (intOf i).toNat)
  case atStart => exact ⟨n, Nat.le_refl _, rfl, hide rfl⟩
  case round =>
    obtain ⟨k, hk, rfl, HT⟩ := hrel
    by_cases hlt : 0 < k
    · obtain ⟨rfl, hc⟩ := hX (k - 1) (by omega)
      have sA : w.Since w.heap.size (w.alloc (.cells #[.bool false, .slice none 0 0, .slice none 0 0] 25)) := (World.Since.refl _ _).alloc (Nat.le_refl _) _
      have hc' : (w.alloc (.cells #[.bool false, .slice none 0 0, .slice none 0 0] 25)).cell? ⟨b, k - 1, none⟩ = some (.int .u32 (X (k - 1))) := by have := (sA.cell (a := ⟨b, 0 + (k - 1), none⟩) (hX.lt (by omega))).trans hc; simpa using this
      by_cases hB : X (k - 1) = 0
      · rw [hB] at hc'
        have HB : Hid (nz X (k - 1) = false) := by simp [Hid, nz, hB]
        clear hB hc
        go_wp2
        go_round
        case rel => exact ⟨k - 1, by omega, by go_num, hide ((tlen_false hlt HB.out).trans HT.out)⟩
        case measure => simp [intOf]; omega
      · have HB : Hid (nz X (k - 1) = true) := by simp [Hid, nz, hB]
        have hne : ((X (k - 1) : Int) == 0) = false := by simp; omega
        clear hB hc
        have hXB := hX.keep SB
        go_wp2_with (at_builtin; refine wpList_append_own _ rfl _ _ 23 rfl (w.heap.size + 1) 43 i0 (.int .u32 0) 1 4 Tryd.underlying23 hi hz0 hz1 hz2 rfl (by decide) _ 0 [] rfl own1 ⟨b, 0, none⟩ k cap (ll X k) rfl (by rw [ll_len]; omega) (limbs_news (hXB.take hk)) (ll_one X k) (by unfold maxLen; omega) (by omega) (by simp) ?_)
        intro v' w2 hown' hgrow hnn
        have S2 : w.Since w.heap.size w2 := SB.grown hgrow SB.size (fun q hq => by have := (own1.lt q hq).1; omega)
        have r2 : Box3 w2 w.heap.size (.bool false) (.slice none 0 0) (.slice none 0 0) := (rA.keep tB).ofBlock (hgrow.block w.heap.size (rA.keep tB).lt (fun e => by have := (own1.lt _ e.symm).1; omega))
        obtain ⟨g, c, rfl, v1, v2, v3, L2, t2, e2⟩ := (FIN v' w2 k HT.out (Or.inr HB.out) hk hnn hown').out
        clear hgrow hown' hnn own1 FIN
        have t3 : w2.Since w2.heap.size (w2.alloc (.cells #[.int .u32 1] 43)) := (World.Since.refl _ _).alloc (Nat.le_refl _) _
        have r3 := r2.keep t3
        have u0 := r3.c0
        have u1 := r3.c1
        have u2 := r3.c2
        have uf0 := r3.f 0
        have uf1 := r3.f 1
        have uf2 := r3.f 2
        have o3 : Limbs (w2.alloc (.cells #[.int .u32 1] 43)) (some ⟨w2.heap.size, 0, none⟩) w2.heap.size 0 1 (fun _ => 1) := fun j hj => ⟨rfl, by rw [show 0 + j = 0 by omega]; exact World.cell?_alloc_new w2 _ _ 0⟩
        have E2 := hide e2
        clear e2
        go_wp2
        have rl := r2.lt
        have rC := ((r3.set0 (.bool false)).set1 (.slice (some ⟨g, 0, none⟩) k c)).set2 (.slice (some ⟨w2.heap.size, 0, none⟩) 1 1)
        refine bodyPost_ret (results_box3 rfl _ _ _ _ _ _ rfl rC) rfl ?_
        have M := (((Marked.refl (w2.alloc (.cells #[.int .u32 1] 43)) w.heap.size).setCell 0 (.bool false)).setCell 1 (.slice (some ⟨g, 0, none⟩) k c)).setCell 2 (.slice (some ⟨w2.heap.size, 0, none⟩) 1 1)
        exact ⟨_, rfl, ⟨g, k, c, w2.heap.size, X, fun _ => 1, rfl, v1, by omega, (L2.keep t3).marked M (fun _ => by omega), fun j hj => lX j (by omega), t2, E2.out, o3.marked M (fun _ => by omega), rfl⟩, (S2.trans (sinceMono t3 S2.size)).trans (M.since (Nat.le_refl _))⟩
    · have e : k = 0 := by omega
      subst e
      have sC : w.Since w.heap.size (((w.alloc (.cells #[.bool false, .slice (some ⟨w.heap.size + 1, 0, none⟩) 0 0, .slice (some ⟨w.heap.size + 1 + 1, 0, none⟩) 1 1] 25)).alloc (.cells #[] 43)).alloc (.cells #[.int .u32 1] 43)) := (((World.Since.refl _ _).alloc (Nat.le_refl _) _).alloc (by simp) _).alloc (by simp; omega) _
      have bC : Box3 (((w.alloc (.cells #[.bool false, .slice (some ⟨w.heap.size + 1, 0, none⟩) 0 0, .slice (some ⟨w.heap.size + 1 + 1, 0, none⟩) 1 1] 25)).alloc (.cells #[] 43)).alloc (.cells #[.int .u32 1] 43)) w.heap.size (.bool false) (.slice (some ⟨w.heap.size + 1, 0, none⟩) 0 0) (.slice (some ⟨w.heap.size + 1 + 1, 0, none⟩) 1 1) := ((Box3.new w _ _ _ _).keep ((World.Since.refl _ _).alloc (Nat.le_refl _) _)).keep ((World.Since.refl _ _).alloc (Nat.le_refl _) _)
      have oC : Limbs (((w.alloc (.cells #[.bool false, .slice (some ⟨w.heap.size + 1, 0, none⟩) 0 0, .slice (some ⟨w.heap.size + 1 + 1, 0, none⟩) 1 1] 25)).alloc (.cells #[] 43)).alloc (.cells #[.int .u32 1] 43)) (some ⟨w.heap.size + 1 + 1, 0, none⟩) (w.heap.size + 1 + 1) 0 1 (fun _ => 1) := fun j hj => ⟨rfl, by
        rw [show 0 + j = 0 by omega]
        have := World.cell?_alloc_new ((w.alloc (.cells #[.bool false, .slice (some ⟨w.heap.size + 1, 0, none⟩) 0 0, .slice (some ⟨w.heap.size + 1 + 1, 0, none⟩) 1 1] 25)).alloc (.cells #[] 43)) #[.int .u32 1] 43 0
        simpa using this⟩
      have hl : lv X n = 0 := by rw [← lv_tlen X n, ← HT.out]; rfl
      have HL := hide hl
      clear hl own1 FIN
      cases a with
      | some x =>
        go_wp2
        refine bodyPost_ret (results_box3 rfl _ _ _ _ _ _ rfl bC) rfl ?_
        exact ⟨_, rfl, ⟨w.heap.size + 1, 0, 0, w.heap.size + 1 + 1, X, fun _ => 1, rfl, Nat.le_refl _, Nat.zero_le _, fun j hj => absurd hj (by omega), fun j hj => absurd hj (by omega), fun h => absurd h (by omega), HL.out.symm, oC, rfl⟩, sC⟩
      | none =>
        go_wp2
        refine bodyPost_ret (results_box3 rfl _ _ _ _ _ _ rfl bC) rfl ?_
        exact ⟨_, rfl, ⟨w.heap.size + 1, 0, 0, w.heap.size + 1 + 1, X, fun _ => 1, rfl, Nat.le_refl _, Nat.zero_le _, fun j hj => absurd hj (by omega), fun j hj => absurd hj (by omega), fun h => absurd h (by omega), HL.out.symm, oC, rfl⟩, sC⟩

end Go.Proofs.YtklkohdcilnchaaDoor

namespace Go.Proofs.YtklkohdcilnchaaDoor
open Go.RowKit

set_option maxHeartbeats 1600000 in
set_option maxRecDepth 100000 in
/-- l1Same of two Rats that hold the same. -/
theorem l1Same_true (f : Bool) (a b a' b' : Option Addr) (g h g' h' n c m d c' d' : Nat) (X Y : Nat → Nat) (w : World) (hn : n ≤ 1048576) (hm : m ≤ 1048576) (hX : Limbs w a g 0 n X) (hY : Limbs w b h 0 m Y) (hX' : Limbs w a' g' 0 n X) (hY' : Limbs w b' h' 0 m Y) :
    Calls Tryd.prog 39 #[.agg #[.bool f, .slice a n c, .slice b m d], .agg #[.bool f, .slice a' n c', .slice b' m d']] w fun e w' => e = .returned (.bool true) ∧ w.Since w.heap.size w' := by
  have sA : w.Since w.heap.size ((w.alloc (.cells #[.bool f, .slice a n c, .slice b m d] 25)).alloc (.cells #[.bool f, .slice a' n c', .slice b' m d'] 25)) := ((World.Since.refl _ _).alloc (Nat.le_refl _) _).alloc (by simp) _
  have oA : Box3 ((w.alloc (.cells #[.bool f, .slice a n c, .slice b m d] 25)).alloc (.cells #[.bool f, .slice a' n c', .slice b' m d'] 25)) w.heap.size (.bool f) (.slice a n c) (.slice b m d) := (Box3.new w _ _ _ _).keep ((World.Since.refl _ _).alloc (Nat.le_refl _) _)
  have pA : Box3 ((w.alloc (.cells #[.bool f, .slice a n c, .slice b m d] 25)).alloc (.cells #[.bool f, .slice a' n c', .slice b' m d'] 25)) (w.heap.size + 1) (.bool f) (.slice a' n c') (.slice b' m d') := by
    have := Box3.new (w.alloc (.cells #[.bool f, .slice a n c, .slice b m d] 25)) (.bool f) (.slice a' n c') (.slice b' m d') 25
    simpa using this
  have kA := And.intro oA.cells pA.cells
  go_enter Tryd.func39, Tryd.ntmps39
  go_wp2
  generalize ((w.alloc (.cells #[.bool f, .slice a n c, .slice b m d] 25)).alloc (.cells #[.bool f, .slice a' n c', .slice b' m d'] 25)) = w1 at *
  go_loopw [5] (fun t wr => ∃ k : Nat, k ≤ n ∧ t = .int .i64 k ∧ Same w1 wr) (fun t _ => n - (intOf t).toNat)
  case atStart => exact ⟨0, Nat.zero_le _, rfl, Same.refl _⟩
  case round =>
    obtain ⟨k, hk, rfl, sm⟩ := hrel
    have q1 : wr.cell? ⟨w.heap.size, 1, none⟩ = some (.slice a n c) := by rw [sm.cell]; exact oA.c1
    have q2 : wr.cell? ⟨w.heap.size + 1, 1, none⟩ = some (.slice a' n c') := by rw [sm.cell]; exact pA.c1
    by_cases hlt : k < n
    · obtain ⟨rfl, x1⟩ := hX k hlt
      obtain ⟨rfl, x2⟩ := hX' k hlt
      have y1 := (sA.cell (a := ⟨_, _, none⟩) (World.block_lt_of_cell? _ _ x1)).trans x1
      have y2 := (sA.cell (a := ⟨_, _, none⟩) (World.block_lt_of_cell? _ _ x2)).trans x2
      rw [← sm.cell] at y1 y2
      rw [Nat.zero_add] at y1 y2
      have hlt' : (k : Int) < (n : Int) := by omega
      clear x1 x2
      go_wp2
      go_quiet (fail)
      go_wp2
      go_roundw
      case rel => exact ⟨k + 1, by omega, by go_num, sm.drewN _⟩
      case measure => simp [intOf]; omega
    · have q0 := q1
      have k1 := And.intro oA.cells pA.cells
      have q3 : wr.cell? ⟨w.heap.size, 2, none⟩ = some (.slice b m d) := by rw [sm.cell]; exact oA.c2
      go_wp2
      go_loopw [6] (fun t wr => ∃ k : Nat, k ≤ m ∧ t = .int .i64 k ∧ Same w1 wr) (fun t _ => m - (intOf t).toNat)
      case atStart => exact ⟨0, Nat.zero_le _, rfl, sm⟩
      case round =>
        obtain ⟨k, hk, rfl, sm⟩ := hrel
        have q1 : wr.cell? ⟨w.heap.size, 2, none⟩ = some (.slice b m d) := by rw [sm.cell]; exact oA.c2
        have q2 : wr.cell? ⟨w.heap.size + 1, 2, none⟩ = some (.slice b' m d') := by rw [sm.cell]; exact pA.c2
        by_cases hlt : k < m
        · obtain ⟨rfl, x1⟩ := hY k hlt
          obtain ⟨rfl, x2⟩ := hY' k hlt
          have y1 := (sA.cell (a := ⟨_, _, none⟩) (World.block_lt_of_cell? _ _ x1)).trans x1
          have y2 := (sA.cell (a := ⟨_, _, none⟩) (World.block_lt_of_cell? _ _ x2)).trans x2
          rw [← sm.cell] at y1 y2
          rw [Nat.zero_add] at y1 y2
          have hlt' : (k : Int) < (m : Int) := by omega
          clear x1 x2
          go_wp2
          go_quiet (fail)
          go_wp2
          go_roundw
          case rel => exact ⟨k + 1, by omega, by go_num, sm.drewN _⟩
          case measure => simp [intOf]; omega
        · go_wp2
          go_ret
          exact ⟨rfl, sA.trans (sinceMono (sm.since w1.heap.size) sA.size)⟩

set_option maxHeartbeats 800000 in
set_option maxRecDepth 100000 in
theorem same_true (f : Bool) (a b a' b' : Option Addr) (g h g' h' n c m d c' d' : Nat) (X Y : Nat → Nat) (w : World) (hn : n ≤ 1048576) (hm : m ≤ 1048576) (hX : Limbs w a g 0 n X) (hY : Limbs w b h 0 m Y) (hX' : Limbs w a' g' 0 n X) (hY' : Limbs w b' h' 0 m Y) :
    Calls Tryd.prog 11 #[.agg #[.bool f, .slice a n c, .slice b m d], .agg #[.bool f, .slice a' n c', .slice b' m d']] w fun e w' => e = .returned (.bool true) ∧ w.Since w.heap.size w' := by
  have sA : w.Since w.heap.size ((w.alloc (.cells #[.bool f, .slice a n c, .slice b m d] 25)).alloc (.cells #[.bool f, .slice a' n c', .slice b' m d'] 25)) := ((World.Since.refl _ _).alloc (Nat.le_refl _) _).alloc (by simp) _
  have oA : Box3 ((w.alloc (.cells #[.bool f, .slice a n c, .slice b m d] 25)).alloc (.cells #[.bool f, .slice a' n c', .slice b' m d'] 25)) w.heap.size (.bool f) (.slice a n c) (.slice b m d) := (Box3.new w _ _ _ _).keep ((World.Since.refl _ _).alloc (Nat.le_refl _) _)
  have pA : Box3 ((w.alloc (.cells #[.bool f, .slice a n c, .slice b m d] 25)).alloc (.cells #[.bool f, .slice a' n c', .slice b' m d'] 25)) (w.heap.size + 1) (.bool f) (.slice a' n c') (.slice b' m d') := by
    have := Box3.new (w.alloc (.cells #[.bool f, .slice a n c, .slice b m d] 25)) (.bool f) (.slice a' n c') (.slice b' m d') 25
    simpa using this
  have kA := And.intro oA.cells pA.cells
  go_enter Tryd.func11, Tryd.ntmps11
  go_wp2_with fail
  generalize ((w.alloc (.cells #[.bool f, .slice a n c, .slice b m d] 25)).alloc (.cells #[.bool f, .slice a' n c', .slice b' m d'] 25)) = w1 at *
  refine (l1Same_true f a b a' b' g h g' h' n c m d c' d' X Y w1 hn hm (hX.keep sA) (hY.keep sA) (hX'.keep sA) (hY'.keep sA)).mono ?_
  rintro e w2 ⟨rfl, s2⟩
  go_wp2
  go_ret
  exact ⟨rfl, sA.trans (sinceMono s2 sA.size)⟩

end Go.Proofs.YtklkohdcilnchaaDoor

namespace Go.Proofs.YtklkohdcilnchaaDoor
open Go.RowKit

set_option maxHeartbeats 1600000 in
set_option maxRecDepth 100000 in
/-- l1Same of two Rats that hold the same. -/
theorem l1Same_off (f : Bool) (a b a' b' : Option Addr) (g oa h ob g' oa' h' ob' n c m d c' d' : Nat) (X Y : Nat → Nat) (w : World) (hn : n ≤ 1048576) (hm : m ≤ 1048576) (hX : Limbs w a g oa n X) (hY : Limbs w b h ob m Y) (hX' : Limbs w a' g' oa' n X) (hY' : Limbs w b' h' ob' m Y) :
    Calls Tryd.prog 39 #[.agg #[.bool f, .slice a n c, .slice b m d], .agg #[.bool f, .slice a' n c', .slice b' m d']] w fun e w' => e = .returned (.bool true) ∧ w.Since w.heap.size w' := by
  have sA : w.Since w.heap.size ((w.alloc (.cells #[.bool f, .slice a n c, .slice b m d] 25)).alloc (.cells #[.bool f, .slice a' n c', .slice b' m d'] 25)) := ((World.Since.refl _ _).alloc (Nat.le_refl _) _).alloc (by simp) _
  have oA : Box3 ((w.alloc (.cells #[.bool f, .slice a n c, .slice b m d] 25)).alloc (.cells #[.bool f, .slice a' n c', .slice b' m d'] 25)) w.heap.size (.bool f) (.slice a n c) (.slice b m d) := (Box3.new w _ _ _ _).keep ((World.Since.refl _ _).alloc (Nat.le_refl _) _)
  have pA : Box3 ((w.alloc (.cells #[.bool f, .slice a n c, .slice b m d] 25)).alloc (.cells #[.bool f, .slice a' n c', .slice b' m d'] 25)) (w.heap.size + 1) (.bool f) (.slice a' n c') (.slice b' m d') := by
    have := Box3.new (w.alloc (.cells #[.bool f, .slice a n c, .slice b m d] 25)) (.bool f) (.slice a' n c') (.slice b' m d') 25
    simpa using this
  have kA := And.intro oA.cells pA.cells
  go_enter Tryd.func39, Tryd.ntmps39
  go_wp2
  generalize ((w.alloc (.cells #[.bool f, .slice a n c, .slice b m d] 25)).alloc (.cells #[.bool f, .slice a' n c', .slice b' m d'] 25)) = w1 at *
  go_loopw [5] (fun t wr => ∃ k : Nat, k ≤ n ∧ t = .int .i64 k ∧ Same w1 wr) (fun t _ => n - (intOf t).toNat)
  case atStart => exact ⟨0, Nat.zero_le _, rfl, Same.refl _⟩
  case round =>
    obtain ⟨k, hk, rfl, sm⟩ := hrel
    have q1 : wr.cell? ⟨w.heap.size, 1, none⟩ = some (.slice a n c) := by rw [sm.cell]; exact oA.c1
    have q2 : wr.cell? ⟨w.heap.size + 1, 1, none⟩ = some (.slice a' n c') := by rw [sm.cell]; exact pA.c1
    by_cases hlt : k < n
    · obtain ⟨rfl, x1⟩ := hX k hlt
      obtain ⟨rfl, x2⟩ := hX' k hlt
      have y1 := (sA.cell (a := ⟨_, _, none⟩) (World.block_lt_of_cell? _ _ x1)).trans x1
      have y2 := (sA.cell (a := ⟨_, _, none⟩) (World.block_lt_of_cell? _ _ x2)).trans x2
      rw [← sm.cell] at y1 y2
      have hlt' : (k : Int) < (n : Int) := by omega
      clear x1 x2
      go_wp2
      go_quiet (fail)
      go_wp2
      go_roundw
      case rel => exact ⟨k + 1, by omega, by go_num, sm.drewN _⟩
      case measure => simp [intOf]; omega
    · have q0 := q1
      have k1 := And.intro oA.cells pA.cells
      have q3 : wr.cell? ⟨w.heap.size, 2, none⟩ = some (.slice b m d) := by rw [sm.cell]; exact oA.c2
      go_wp2
      go_loopw [6] (fun t wr => ∃ k : Nat, k ≤ m ∧ t = .int .i64 k ∧ Same w1 wr) (fun t _ => m - (intOf t).toNat)
      case atStart => exact ⟨0, Nat.zero_le _, rfl, sm⟩
      case round =>
        obtain ⟨k, hk, rfl, sm⟩ := hrel
        have q1 : wr.cell? ⟨w.heap.size, 2, none⟩ = some (.slice b m d) := by rw [sm.cell]; exact oA.c2
        have q2 : wr.cell? ⟨w.heap.size + 1, 2, none⟩ = some (.slice b' m d') := by rw [sm.cell]; exact pA.c2
        by_cases hlt : k < m
        · obtain ⟨rfl, x1⟩ := hY k hlt
          obtain ⟨rfl, x2⟩ := hY' k hlt
          have y1 := (sA.cell (a := ⟨_, _, none⟩) (World.block_lt_of_cell? _ _ x1)).trans x1
          have y2 := (sA.cell (a := ⟨_, _, none⟩) (World.block_lt_of_cell? _ _ x2)).trans x2
          rw [← sm.cell] at y1 y2
          have hlt' : (k : Int) < (m : Int) := by omega
          clear x1 x2
          go_wp2
          go_quiet (fail)
          go_wp2
          go_roundw
          case rel => exact ⟨k + 1, by omega, by go_num, sm.drewN _⟩
          case measure => simp [intOf]; omega
        · go_wp2
          go_ret
          exact ⟨rfl, sA.trans (sinceMono (sm.since w1.heap.size) sA.size)⟩

set_option maxHeartbeats 800000 in
set_option maxRecDepth 100000 in
theorem same_off (f : Bool) (a b a' b' : Option Addr) (g oa h ob g' oa' h' ob' n c m d c' d' : Nat) (X Y : Nat → Nat) (w : World) (hn : n ≤ 1048576) (hm : m ≤ 1048576) (hX : Limbs w a g oa n X) (hY : Limbs w b h ob m Y) (hX' : Limbs w a' g' oa' n X) (hY' : Limbs w b' h' ob' m Y) :
    Calls Tryd.prog 11 #[.agg #[.bool f, .slice a n c, .slice b m d], .agg #[.bool f, .slice a' n c', .slice b' m d']] w fun e w' => e = .returned (.bool true) ∧ w.Since w.heap.size w' := by
  have sA : w.Since w.heap.size ((w.alloc (.cells #[.bool f, .slice a n c, .slice b m d] 25)).alloc (.cells #[.bool f, .slice a' n c', .slice b' m d'] 25)) := ((World.Since.refl _ _).alloc (Nat.le_refl _) _).alloc (by simp) _
  have oA : Box3 ((w.alloc (.cells #[.bool f, .slice a n c, .slice b m d] 25)).alloc (.cells #[.bool f, .slice a' n c', .slice b' m d'] 25)) w.heap.size (.bool f) (.slice a n c) (.slice b m d) := (Box3.new w _ _ _ _).keep ((World.Since.refl _ _).alloc (Nat.le_refl _) _)
  have pA : Box3 ((w.alloc (.cells #[.bool f, .slice a n c, .slice b m d] 25)).alloc (.cells #[.bool f, .slice a' n c', .slice b' m d'] 25)) (w.heap.size + 1) (.bool f) (.slice a' n c') (.slice b' m d') := by
    have := Box3.new (w.alloc (.cells #[.bool f, .slice a n c, .slice b m d] 25)) (.bool f) (.slice a' n c') (.slice b' m d') 25
    simpa using this
  have kA := And.intro oA.cells pA.cells
  go_enter Tryd.func11, Tryd.ntmps11
  go_wp2_with fail
  generalize ((w.alloc (.cells #[.bool f, .slice a n c, .slice b m d] 25)).alloc (.cells #[.bool f, .slice a' n c', .slice b' m d'] 25)) = w1 at *
  refine (l1Same_off f a b a' b' g oa h ob g' oa' h' ob' n c m d c' d' X Y w1 hn hm (hX.keep sA) (hY.keep sA) (hX'.keep sA) (hY'.keep sA)).mono ?_
  rintro e w2 ⟨rfl, s2⟩
  go_wp2
  go_ret
  exact ⟨rfl, sA.trans (sinceMono s2 sA.size)⟩

set_option maxHeartbeats 800000 in
set_option maxRecDepth 100000 in
theorem lwZero_any (w : World) : Calls Tryd.prog 14 #[] w fun e w' => ∃ v, e = .returned v ∧ RatV w' v false 0 1 w.heap.size 4194304 ∧ w.Since w.heap.size w' := by
  have sA : w.Since w.heap.size (((w.alloc (.cells #[.bool false, .slice (some ⟨w.heap.size + 1, 0, none⟩) 0 0, .slice (some ⟨w.heap.size + 1 + 1, 0, none⟩) 1 1] 25)).alloc (.cells #[] 43)).alloc (.cells #[.int .u32 1] 43)) :=
    (((World.Since.refl _ _).alloc (Nat.le_refl _) _).alloc (by simp) _).alloc (by simp; omega) _
  have bA : Box3 (((w.alloc (.cells #[.bool false, .slice (some ⟨w.heap.size + 1, 0, none⟩) 0 0, .slice (some ⟨w.heap.size + 1 + 1, 0, none⟩) 1 1] 25)).alloc (.cells #[] 43)).alloc (.cells #[.int .u32 1] 43)) w.heap.size (.bool false) (.slice (some ⟨w.heap.size + 1, 0, none⟩) 0 0) (.slice (some ⟨w.heap.size + 1 + 1, 0, none⟩) 1 1) :=
    ((Box3.new w _ _ _ _).keep ((World.Since.refl _ _).alloc (Nat.le_refl _) _)).keep ((World.Since.refl _ _).alloc (Nat.le_refl _) _)
  have n1 := natAt_one ((w.alloc (.cells #[.bool false, .slice (some ⟨w.heap.size + 1, 0, none⟩) 0 0, .slice (some ⟨w.heap.size + 1 + 1, 0, none⟩) 1 1] 25)).alloc (.cells #[] 43))
  rw [show ((w.alloc (.cells #[.bool false, .slice (some ⟨w.heap.size + 1, 0, none⟩) 0 0, .slice (some ⟨w.heap.size + 1 + 1, 0, none⟩) 1 1] 25)).alloc (.cells #[] 43)).heap.size = w.heap.size + 1 + 1 by simp] at n1
  go_enter Tryd.func14, Tryd.ntmps14
  go_wp2
  refine bodyPost_ret (results_box3 rfl _ _ _ _ _ _ rfl bA) rfl ?_
  exact ⟨_, rfl, ⟨_, _, w.heap.size + 1, w.heap.size + 1 + 1, rfl, natAt_empty _ _ _ _ _, n1, by omega, by omega, by omega⟩, sA⟩


/-- A Rat in a box. -/
structure BR (w : World) (c : Nat) (x y z : Value) (q : Rat) : Prop where
  box : Box3 w c x y z
  rd : RatR w (.agg #[x, y, z]) q

theorem BR.keep {w w' : World} {c : Nat} {x y z : Value} {q : Rat} (h : BR w c x y z q) (s : w.Since w.heap.size w') : BR w' c x y z q := ⟨h.box.keep s, h.rd.keep s⟩
theorem BR.cells {w : World} {c : Nat} {x y z : Value} {q : Rat} (h : BR w c x y z q) : w.cell? ⟨c, 0, none⟩ = some x ∧ w.cell? ⟨c, 1, none⟩ = some y ∧ w.cell? ⟨c, 2, none⟩ = some z := h.box.cells

theorem same_q {v v' : Value} {q : Rat} {k : Nat} {w : World} (hq : Qb q k) (hk : k ≤ 1048576) (R : RatR w v q) (R' : RatR w v' q) :
    Calls Tryd.prog 11 #[v, v'] w fun e w' => e = .returned (.bool true) ∧ w.Since w.heap.size w' := by
  obtain ⟨a, n, ca, b, m, cb, ba, oa, bb, ob, X, Y, rfl, R, x1, x2⟩ := R
  obtain ⟨a', n', ca', b', m', cb', ba', oa', bb', ob', X', Y', rfl, R', y1, y2⟩ := R'
  have n1 := lv_lim R.pX (by rw [x1]; exact hq.1)
  have n2 := lv_lim R.pY (by rw [x2]; exact hq.2)
  obtain ⟨rfl, eX⟩ := lv_inj R'.lX R.lX R'.pX R.pX (y1.trans x1.symm)
  obtain ⟨rfl, eY⟩ := lv_inj R'.lY R.lY R'.pY R.pY (y2.trans x2.symm)
  exact same_off (qn q) a b a' b' ba oa bb ob ba' oa' bb' ob' _ ca _ cb ca' cb' X Y w (by omega) (by omega) R.LX R.LY (R'.LX.congr eX) (R'.LY.congr eY)

theorem lwZero_q (w : World) : Calls Tryd.prog 14 #[] w fun e w' => ∃ v, e = .returned v ∧ RatR w' v 0 ∧ w.Since w.heap.size w' :=
  (lwZero_any w).mono fun _ _ ⟨v, h1, h2, h3⟩ => ⟨v, h1, RatV.read (q := 0) h2, h3⟩

end Go.Proofs.YtklkohdcilnchaaDoor
