import Derived.Test.YtklkohdcilnchaaDoorOwnP1
import Derived.Test.YtklkohdcilnchaaDoorG1P6
import Derived.Deep.Onto
import Derived.Deep.AppendLies
import Derived.Deep.RegionHeld3
import Derived.Test.YtklkohdcilnchaaDoorG1P7
namespace Go.Proofs.YtklkohdcilnchaaDoor
open Go.RowKit

/-- A Rat in new memory, valid or not. -/
def RatS (w : World) (v : Value) (B k : Nat) : Prop := ∃ f a n ca b m cb g h X Y, v = .agg #[.bool f, .slice a n ca, .slice b m cb] ∧ RRaw w a b g 0 n ca h 0 m cb X Y ∧ n ≤ k ∧ m ≤ k ∧ (0 < n → B ≤ g) ∧ (0 < m → B ≤ h)

theorem RatS.keep {w w' : World} {v : Value} {B k : Nat} (h : RatS w v B k) (s : w.Since w.heap.size w') : RatS w' v B k := by
  obtain ⟨f, a, n, ca, b, m, cb, g, h, X, Y, h1, h2, h3⟩ := h
  exact ⟨f, a, n, ca, b, m, cb, g, h, X, Y, h1, h2.keep s, h3⟩
theorem RatS.oth {w w' : World} {v : Value} {B k c : Nat} (h : RatS w v B k) (s : Oth c w w') (hc : c < B) : RatS w' v B k := by
  obtain ⟨f, a, n, ca, b, m, cb, g, h, X, Y, h1, h2, h3, h4, h5, h6⟩ := h
  exact ⟨f, a, n, ca, b, m, cb, g, h, X, Y, h1, ⟨h2.nc, h2.mc, h2.ac, h2.bc, h2.LX.oth s (fun h0 => by have := h5 h0; omega), h2.LY.oth s (fun h0 => by have := h6 h0; omega), h2.lX, h2.lY⟩, h3, h4, h5, h6⟩
theorem RatS.more {w : World} {v : Value} {B B' k l : Nat} (h : RatS w v B k) (hk : k ≤ l) (hB : B' ≤ B) : RatS w v B' l := by
  obtain ⟨f, a, n, ca, b, m, cb, g, h, X, Y, h1, h2, h3, h4, h5, h6⟩ := h
  exact ⟨f, a, n, ca, b, m, cb, g, h, X, Y, h1, h2, by omega, by omega, fun h0 => by have := h5 h0; omega, fun h0 => by have := h6 h0; omega⟩
theorem RatV.shape {w : World} {v : Value} {f : Bool} {N D B M k : Nat} (h : RatV w v f N D B M) (hN : N < 4294967296 ^ k) (hD : D < 4294967296 ^ k) : RatS w v B k := by
  obtain ⟨v1, v2, g, h', rfl, ⟨a, n, ca, X, rfl, n1, -, n3, n4, -, n6, n7, n8⟩, ⟨b, m, cb, Y, rfl, m1, -, m3, m4, -, m6, m7, m8⟩, b1, b2, -⟩ := h
  exact ⟨f, a, n, ca, b, m, cb, g, h', X, Y, rfl, ⟨n1, m1, n3, m3, n4, m4, n6, m6⟩, lv_lim n7 (by rw [n8]; exact hN), lv_lim m7 (by rw [m8]; exact hD), fun _ => b1, fun _ => b2⟩

theorem lt_div {a b c : Nat} (h : a < c) : a / b < c := Nat.lt_of_le_of_lt (Nat.div_le_self _ _) h

theorem Bits.oth' {w w' : World} {a : Option Addr} {b off n c : Nat} {B : Nat → Bool} (h : Bits w a b off n B) (s : Oth c w w') (hne : 0 < n → b ≠ c) : Bits w' a b off n B :=
  fun j hj => ⟨(h j hj).1, (s.cell (a := ⟨b, off + j, none⟩) (h.lt (by omega)) (hne (by omega))).trans (h j hj).2⟩
theorem Rd.marked {w w' : World} {c d : Nat} {a : Option Addr} {b off n cap : Nat} {X : Nat → Nat} (h : Rd w c a b off n cap X) (M : Marked w w' d) (hc : c ≠ d) (hb : 0 < n → b ≠ d) : Rd w' c a b off n cap X := by
  have O := Oth.ofMarked M
  obtain ⟨p, hp, h1⟩ := h.c1
  exact ⟨(O.cell (a := ⟨c, 0, none⟩) h.lt hc).trans h.c0, ⟨p, hp, (O.cell (a := ⟨c, 1, none⟩) h.lt hc).trans h1⟩, fun k => (O.frozen (a := ⟨c, k, none⟩) h.lt hc).trans (h.f k), h.code.oth O hb, h.ne⟩
theorem oth_new {w w1 w2 : World} {c d : Nat} (h : Oth c w w1) (M : Marked w1 w2 d) (hd : w.heap.size ≤ d) : Oth c w w2 :=
  ⟨M.os.trans h.os, M.tape.trans h.tape, M.output.trans h.output, by rw [M.size]; exact h.size, fun k hk hne => (M.other k (by omega)).trans (h.block k hk hne)⟩
theorem bv_lim (B : Nat → Bool) {m k : Nat} (h : m ≤ 32 * k) : bv B m < 4294967296 ^ k := by
  have h3 : (2 : Nat) ^ (32 * k) = 4294967296 ^ k := by rw [Nat.pow_mul, show (2 : Nat) ^ 32 = 4294967296 by decide]
  rw [← h3]
  exact Nat.lt_of_lt_of_le (bv_lt B m) (Nat.pow_le_pow_right (by decide) h)

set_option maxHeartbeats 1600000 in
set_option maxRecDepth 100000 in
theorem l1Frac_any (n : Int) (d0 : Int) (w : World) (h1 : -100000 ≤ n) (h2 : n ≤ 100000) (hd : 0 < d0) (hd2 : d0 ≤ 100000) :
    Calls Tryd.prog 86 #[.int .i64 n, .int .i64 d0] w fun e w' => ∃ v, e = .returned v ∧ RatS w' v w.heap.size 1 ∧ w.Since w.heap.size w' := by
  obtain ⟨d, rfl⟩ : ∃ d : Nat, d0 = (d : Int) := ⟨d0.toNat, by omega⟩
  have sA : w.Since w.heap.size (w.alloc (.cells #[.bool false, .slice none 0 0, .slice none 0 0] 25)) := (World.Since.refl _ _).alloc (Nat.le_refl _) _
  have rA := Box3.new w (.bool false) (.slice none 0 0) (.slice none 0 0) 25
  by_cases hn : n < 0
  · obtain ⟨m, hm, hm0⟩ : ∃ m : Nat, n = -(m : Int) ∧ 0 < m := ⟨n.natAbs, by omega, by omega⟩
    subst hm
    go_enter Tryd.func86, Tryd.ntmps86
    go_wp2_with fail
    generalize (w.alloc (.cells #[.bool false, .slice none 0 0, .slice none 0 0] 25)) = wA at *
    refine (l1MakeSmall_any true m d wA (by omega) (by omega) (by omega)).mono ?_
    rintro e w6 ⟨v, rfl, HV, s6⟩
    have HS := HV.shape (k := 1) (lt_div (by omega)) (lt_div (by omega))
    have r6 := rA.keep s6
    have rl := rA.lt
    have S6 : w.Since w.heap.size w6 := sA.trans (sinceMono s6 sA.size)
    clear HV
    obtain ⟨f6, a6, q6, c6, b6, m6, d6, g6, h6, X6, Y6, rfl, RR6, k61, k62, k63, k64⟩ := HS
    have u0 := r6.c0
    have u1 := r6.c1
    have u2 := r6.c2
    have uf0 := r6.f 0
    have uf1 := r6.f 1
    have uf2 := r6.f 2
    go_wp2
    have rC := ((r6.set0 (.bool f6)).set1 (.slice a6 q6 c6)).set2 (.slice b6 m6 d6)
    refine bodyPost_ret (results_box3 rfl _ _ _ _ _ _ rfl rC) rfl ?_
    have M : Marked w6 _ w.heap.size := (((Marked.refl w6 _).setCell 0 (.bool f6)).setCell 1 (.slice a6 q6 c6)).setCell 2 (.slice b6 m6 d6)
    have zM := M.size
    have SH : RatS w6 (.agg #[.bool f6, .slice a6 q6 c6, .slice b6 m6 d6]) _ _ := ⟨f6, a6, q6, c6, b6, m6, d6, g6, h6, X6, Y6, rfl, RR6, k61, k62, k63, k64⟩
    exact ⟨_, rfl, (SH.oth (Oth.ofMarked M) (by omega)).more (Nat.le_refl _) (by omega), S6.trans (M.since (Nat.le_refl _))⟩
  · obtain ⟨m, hm⟩ : ∃ m : Nat, n = (m : Int) := ⟨n.toNat, by omega⟩
    subst hm
    go_enter Tryd.func86, Tryd.ntmps86
    go_wp2_with fail
    generalize (w.alloc (.cells #[.bool false, .slice none 0 0, .slice none 0 0] 25)) = wA at *
    refine (l1MakeSmall_any false m d wA (by omega) (by omega) (by omega)).mono ?_
    rintro e w6 ⟨v, rfl, HV, s6⟩
    have HS := HV.shape (k := 1) (lt_div (by omega)) (lt_div (by omega))
    have r6 := rA.keep s6
    have rl := rA.lt
    have S6 : w.Since w.heap.size w6 := sA.trans (sinceMono s6 sA.size)
    clear HV
    obtain ⟨f6, a6, q6, c6, b6, m6, d6, g6, h6, X6, Y6, rfl, RR6, k61, k62, k63, k64⟩ := HS
    have u0 := r6.c0
    have u1 := r6.c1
    have u2 := r6.c2
    have uf0 := r6.f 0
    have uf1 := r6.f 1
    have uf2 := r6.f 2
    go_wp2
    have rC := ((r6.set0 (.bool f6)).set1 (.slice a6 q6 c6)).set2 (.slice b6 m6 d6)
    refine bodyPost_ret (results_box3 rfl _ _ _ _ _ _ rfl rC) rfl ?_
    have M : Marked w6 _ w.heap.size := (((Marked.refl w6 _).setCell 0 (.bool f6)).setCell 1 (.slice a6 q6 c6)).setCell 2 (.slice b6 m6 d6)
    have zM := M.size
    have SH : RatS w6 (.agg #[.bool f6, .slice a6 q6 c6, .slice b6 m6 d6]) _ _ := ⟨f6, a6, q6, c6, b6, m6, d6, g6, h6, X6, Y6, rfl, RR6, k61, k62, k63, k64⟩
    exact ⟨_, rfl, (SH.oth (Oth.ofMarked M) (by omega)).more (Nat.le_refl _) (by omega), S6.trans (M.since (Nat.le_refl _))⟩

set_option maxHeartbeats 1600000 in
set_option maxRecDepth 100000 in
theorem l1DrawBig_any (c : Nat) (a : Option Addr) (b off n cap : Nat) (X : Nat → Nat) (w : World) (hn : n ≤ 1048576) (R : Rd w c a b off n cap X) (hbl : 0 < n → b < w.heap.size) :
    Calls Tryd.prog 62 #[.pointer (some ⟨c, 0, none⟩)] w fun e w' => ∃ v, e = .returned v ∧ RatS w' v w.heap.size 11 ∧ Rd w' c a b off n cap X ∧ Oth c w w' := by
  have sA : w.Since w.heap.size (w.alloc (.cells #[.bool false, .slice none 0 0, .slice none 0 0] 25)) := (World.Since.refl _ _).alloc (Nat.le_refl _) _
  have rA := Box3.new w (.bool false) (.slice none 0 0) (.slice none 0 0) 25
  have rl := R.lt
  have bl := rA.lt
  have RA := R.keep sA
  go_enter Tryd.func62, Tryd.ntmps62
  go_wp2_with fail
  generalize (w.alloc (.cells #[.bool false, .slice none 0 0, .slice none 0 0] 25)) = wA at *
  have zA := sA.size
  refine (next_any c a b off n cap X wA hn RA).mono ?_
  rintro e w1 ⟨k, rfl, hk, R1, O1⟩
  have r1 := rA.oth O1 (by omega)
  have O01 := (Oth.ofSince c sA).trans O1
  have z1 := O1.size
  clear RA O1
  go_wp2_with fail
  refine (l1DrawNat_any c a b off n cap X w1 hn R1 (fun h => by have := hbl h; omega)).mono ?_
  rintro e w2 ⟨g1, t1, c1, D1, rfl, k11, k12, L1, l1, k13, k14, R2, O2⟩
  have r2 := r1.oth O2 (by omega)
  have O02 := O01.trans O2
  have z2 := O2.size
  clear R1 r1 O2 O01
  go_wp2_with fail
  refine (l1Bits_any (some ⟨g1, 0, none⟩) g1 0 t1 c1 D1 w2 (by omega) L1 l1).mono ?_
  rintro e w3 ⟨a3, g3, m3, c3, B3, rfl, k31, k32, L3, k33, k34, e3, s3⟩
  have r3 := r2.keep s3
  have R3 := R2.keep s3
  have O03 := O02.trans (Oth.ofSince c s3)
  have z3 := s3.size
  have HB3 := hide (bv_lim B3 (k := 11) (show m3 ≤ 32 * 11 by omega))
  have h3g : 0 < m3 → c ≠ g3 := fun h => by have := k33 h; omega
  clear R2 r2 O02 k33 e3 L1
  go_wp2_with fail
  refine (l1DrawNat_any c a b off n cap X w3 hn R3 (fun h => by have := hbl h; omega)).mono ?_
  rintro e w4 ⟨g4, t4, c4, D4, rfl, k41, k42, L4, l4, k43, k44, R4, O4⟩
  have r4 := r3.oth O4 (by omega)
  have O04 := O03.trans O4
  have z4 := O4.size
  have T4 : Tr w4 (.slice a3 m3 c3) m3 B3 := ⟨a3, g3, 0, c3, rfl, k31, L3.oth' O4 (fun h => (h3g h).symm), k34⟩
  clear R3 r3 O4 O03 L3 k34
  go_wp2_with fail
  refine (l1Bits_any (some ⟨g4, 0, none⟩) g4 0 t4 c4 D4 w4 (by omega) L4 l4).mono ?_
  rintro e w5 ⟨a5, g5, m5, c5, B5, rfl, k51, k52, L5, -, k54, e5, s5⟩
  have T5 : Tr w5 (.slice a5 m5 c5) m5 B5 := ⟨a5, g5, 0, c5, rfl, k51, L5, k54⟩
  have r5 := r4.keep s5
  have R5 := R4.keep s5
  have T53 := T4.keep s5
  have O05 := O04.trans (Oth.ofSince c s5)
  have z5 := s5.size
  have HB5 := hide (bv_lim B5 (k := 11) (show m5 ≤ 32 * 11 by omega))
  clear R4 r4 O04 L5 k54 e5 L4 T4
  by_cases h0 : m5 = 0
  · subst h0
    go_wp2_with fail
    refine (l1BitsOf_any 1 _ (by decide)).mono ?_
    rintro e w6 ⟨v6, t6, B6, rfl, k6, T6, e6, s6⟩
    have r6 := r5.keep s6
    have R6 := R5.keep s6
    have T63 := T53.keep s6
    have O06 := O05.trans (Oth.ofSince c s6)
    have z6 := s6.size
    have JM := fun ng => l1Make_any ng _ _ m3 t6 B3 B6 w6 (by omega) (by omega) T63 T6 (by rw [e6]; decide)
    rw [e6] at JM
    clear e6 T6 T63 T53 R5 r5 O05
    go_wp2_with fail
    refine (JM _).mono ?_
    clear JM
    rintro e w7 ⟨v, rfl, HV, s7⟩
    have HS := HV.shape (k := 11) (lt_div HB3.out) (lt_div (by decide))
    have r7 := r6.keep s7
    have R7 := R6.keep s7
    have O07 := O06.trans (Oth.ofSince c s7)
    have z7 := s7.size
    clear HV s7 r6 R6 O06
    obtain ⟨f6, a6, q6, c6, b6, m6, d6, g6, h6, X6, Y6, rfl, RR6, k61, k62, k63, k64⟩ := HS
    have u0 := r7.c0
    have u1 := r7.c1
    have u2 := r7.c2
    have uf0 := r7.f 0
    have uf1 := r7.f 1
    have uf2 := r7.f 2
    go_wp2
    have rC := ((r7.set0 (.bool f6)).set1 (.slice a6 q6 c6)).set2 (.slice b6 m6 d6)
    refine bodyPost_ret (results_box3 rfl _ _ _ _ _ _ rfl rC) rfl ?_
    have M : Marked w7 _ w.heap.size := (((Marked.refl w7 _).setCell 0 (.bool f6)).setCell 1 (.slice a6 q6 c6)).setCell 2 (.slice b6 m6 d6)
    have zM := M.size
    have SH : RatS w7 (.agg #[.bool f6, .slice a6 q6 c6, .slice b6 m6 d6]) _ _ := ⟨f6, a6, q6, c6, b6, m6, d6, g6, h6, X6, Y6, rfl, RR6, k61, k62, k63, k64⟩
    exact ⟨_, rfl, (SH.oth (Oth.ofMarked M) (by omega)).more (Nat.le_refl _) (by omega), R7.marked M (by omega) (fun h => by have := hbl h; omega), oth_new O07 M (Nat.le_refl _)⟩
  · have h0' : ((m5 : Int) == 0) = false := by simp; omega
    have hp := bv_pos (Nat.pos_of_ne_zero h0) (by obtain ⟨_, _, _, _, h1, _, _, h4⟩ := T5; exact h4 (Nat.pos_of_ne_zero h0))
    have JM := fun ng => l1Make_any ng _ _ m3 m5 B3 B5 w5 (by omega) (by omega) T53 T5 hp
    clear hp T5 T53
    go_wp2_with fail
    refine (JM _).mono ?_
    clear JM
    rintro e w7 ⟨v, rfl, HV, s7⟩
    have HS := HV.shape (k := 11) (lt_div HB3.out) (lt_div HB5.out)
    have r7 := r5.keep s7
    have R7 := R5.keep s7
    have O07 := O05.trans (Oth.ofSince c s7)
    have z7 := s7.size
    clear HV s7 r5 R5 O05
    obtain ⟨f6, a6, q6, c6, b6, m6, d6, g6, h6, X6, Y6, rfl, RR6, k61, k62, k63, k64⟩ := HS
    have u0 := r7.c0
    have u1 := r7.c1
    have u2 := r7.c2
    have uf0 := r7.f 0
    have uf1 := r7.f 1
    have uf2 := r7.f 2
    go_wp2
    have rC := ((r7.set0 (.bool f6)).set1 (.slice a6 q6 c6)).set2 (.slice b6 m6 d6)
    refine bodyPost_ret (results_box3 rfl _ _ _ _ _ _ rfl rC) rfl ?_
    have M : Marked w7 _ w.heap.size := (((Marked.refl w7 _).setCell 0 (.bool f6)).setCell 1 (.slice a6 q6 c6)).setCell 2 (.slice b6 m6 d6)
    have zM := M.size
    have SH : RatS w7 (.agg #[.bool f6, .slice a6 q6 c6, .slice b6 m6 d6]) _ _ := ⟨f6, a6, q6, c6, b6, m6, d6, g6, h6, X6, Y6, rfl, RR6, k61, k62, k63, k64⟩
    exact ⟨_, rfl, (SH.oth (Oth.ofMarked M) (by omega)).more (Nat.le_refl _) (by omega), R7.marked M (by omega) (fun h => by have := hbl h; omega), oth_new O07 M (Nat.le_refl _)⟩

set_option maxHeartbeats 1600000 in
set_option maxRecDepth 100000 in
theorem l1DrawRat_any (c : Nat) (a : Option Addr) (b off n cap : Nat) (X : Nat → Nat) (w : World) (hn : n ≤ 1048576) (R : Rd w c a b off n cap X) (hbl : 0 < n → b < w.heap.size) :
    Calls Tryd.prog 61 #[.pointer (some ⟨c, 0, none⟩)] w fun e w' => ∃ v, e = .returned v ∧ RatS w' v w.heap.size 11 ∧ Rd w' c a b off n cap X ∧ Oth c w w' := by
  have sA : w.Since w.heap.size (w.alloc (.cells #[.bool false, .slice none 0 0, .slice none 0 0] 25)) := (World.Since.refl _ _).alloc (Nat.le_refl _) _
  have rA := Box3.new w (.bool false) (.slice none 0 0) (.slice none 0 0) 25
  have rl := R.lt
  have bl := rA.lt
  have RA := R.keep sA
  go_enter Tryd.func61, Tryd.ntmps61
  go_wp2_with fail
  generalize (w.alloc (.cells #[.bool false, .slice none 0 0, .slice none 0 0] 25)) = wA at *
  have zA := sA.size
  refine (next_any c a b off n cap X wA hn RA).mono ?_
  rintro e w1 ⟨k, rfl, hk, R1, O1⟩
  have r1 := rA.oth O1 (by omega)
  have O01 := (Oth.ofSince c sA).trans O1
  have z1 := O1.size
  clear RA O1 sA
  by_cases q1 : (252 : Int) ≤ k
  · go_wp2_with fail
    refine (l1DrawBig_any c a b off n cap X w1 hn R1 (fun h => by have := hbl h; omega)).mono ?_
    rintro e w7 ⟨v, rfl, HS, R7, O7⟩
    have r7 := r1.oth O7 (by omega)
    have O07 := O01.trans O7
    have z7 := O7.size
    clear O7
    obtain ⟨f6, a6, q6, c6, b6, m6, d6, g6, h6, X6, Y6, rfl, RR6, k61, k62, k63, k64⟩ := HS
    have u0 := r7.c0
    have u1 := r7.c1
    have u2 := r7.c2
    have uf0 := r7.f 0
    have uf1 := r7.f 1
    have uf2 := r7.f 2
    go_wp2
    have rC := ((r7.set0 (.bool f6)).set1 (.slice a6 q6 c6)).set2 (.slice b6 m6 d6)
    refine bodyPost_ret (results_box3 rfl _ _ _ _ _ _ rfl rC) rfl ?_
    have M : Marked w7 _ w.heap.size := (((Marked.refl w7 _).setCell 0 (.bool f6)).setCell 1 (.slice a6 q6 c6)).setCell 2 (.slice b6 m6 d6)
    have zM := M.size
    have SH : RatS w7 (.agg #[.bool f6, .slice a6 q6 c6, .slice b6 m6 d6]) _ _ := ⟨f6, a6, q6, c6, b6, m6, d6, g6, h6, X6, Y6, rfl, RR6, k61, k62, k63, k64⟩
    exact ⟨_, rfl, (SH.oth (Oth.ofMarked M) (by omega)).more (by omega) (by omega), R7.marked M (by omega) (fun h => by have := hbl h; omega), oth_new O07 M (Nat.le_refl _)⟩
  by_cases q2 : (232 : Int) ≤ k
  · go_wp2_with fail
    refine (next_any c a b off n cap X w1 hn R1).mono ?_
    rintro e w2 ⟨k2, rfl, hk2, R2, O2⟩
    have r2 := r1.oth O2 (by omega)
    have O02 := O01.trans O2
    have z2 := O2.size
    clear R1 r1 O01 O2
    go_wp2_with fail
    refine (next_any c a b off n cap X w2 hn R2).mono ?_
    rintro e w3 ⟨k3, rfl, hk3, R3, O3⟩
    have r3 := r2.oth O3 (by omega)
    have O03 := O02.trans O3
    have z3 := O3.size
    clear R2 r2 O02 O3
    go_wp2_with fail
    refine (l1Frac_any _ _ w3 (by omega) (by omega) (by omega) (by omega)).mono ?_
    rintro e w7 ⟨v, rfl, HS, s7⟩
    have r7 := r3.keep s7
    have R7 := R3.keep s7
    have O07 := O03.trans (Oth.ofSince c s7)
    have z7 := s7.size
    clear s7
    obtain ⟨f6, a6, q6, c6, b6, m6, d6, g6, h6, X6, Y6, rfl, RR6, k61, k62, k63, k64⟩ := HS
    have u0 := r7.c0
    have u1 := r7.c1
    have u2 := r7.c2
    have uf0 := r7.f 0
    have uf1 := r7.f 1
    have uf2 := r7.f 2
    go_wp2
    have rC := ((r7.set0 (.bool f6)).set1 (.slice a6 q6 c6)).set2 (.slice b6 m6 d6)
    refine bodyPost_ret (results_box3 rfl _ _ _ _ _ _ rfl rC) rfl ?_
    have M : Marked w7 _ w.heap.size := (((Marked.refl w7 _).setCell 0 (.bool f6)).setCell 1 (.slice a6 q6 c6)).setCell 2 (.slice b6 m6 d6)
    have zM := M.size
    have SH : RatS w7 (.agg #[.bool f6, .slice a6 q6 c6, .slice b6 m6 d6]) _ _ := ⟨f6, a6, q6, c6, b6, m6, d6, g6, h6, X6, Y6, rfl, RR6, k61, k62, k63, k64⟩
    exact ⟨_, rfl, (SH.oth (Oth.ofMarked M) (by omega)).more (by omega) (by omega), R7.marked M (by omega) (fun h => by have := hbl h; omega), oth_new O07 M (Nat.le_refl _)⟩
  by_cases q3 : (128 : Int) ≤ k
  · go_wp2_with fail
    refine (l1Frac_any _ _ w1 (by omega) (by omega) (by omega) (by omega)).mono ?_
    rintro e w7 ⟨v, rfl, HS, s7⟩
    have r7 := r1.keep s7
    have R7 := R1.keep s7
    have O07 := O01.trans (Oth.ofSince c s7)
    have z7 := s7.size
    clear s7
    obtain ⟨f6, a6, q6, c6, b6, m6, d6, g6, h6, X6, Y6, rfl, RR6, k61, k62, k63, k64⟩ := HS
    have u0 := r7.c0
    have u1 := r7.c1
    have u2 := r7.c2
    have uf0 := r7.f 0
    have uf1 := r7.f 1
    have uf2 := r7.f 2
    go_wp2
    have rC := ((r7.set0 (.bool f6)).set1 (.slice a6 q6 c6)).set2 (.slice b6 m6 d6)
    refine bodyPost_ret (results_box3 rfl _ _ _ _ _ _ rfl rC) rfl ?_
    have M : Marked w7 _ w.heap.size := (((Marked.refl w7 _).setCell 0 (.bool f6)).setCell 1 (.slice a6 q6 c6)).setCell 2 (.slice b6 m6 d6)
    have zM := M.size
    have SH : RatS w7 (.agg #[.bool f6, .slice a6 q6 c6, .slice b6 m6 d6]) _ _ := ⟨f6, a6, q6, c6, b6, m6, d6, g6, h6, X6, Y6, rfl, RR6, k61, k62, k63, k64⟩
    exact ⟨_, rfl, (SH.oth (Oth.ofMarked M) (by omega)).more (by omega) (by omega), R7.marked M (by omega) (fun h => by have := hbl h; omega), oth_new O07 M (Nat.le_refl _)⟩
  by_cases q4 : (64 : Int) ≤ k
  · go_wp2_with fail
    refine (l1Frac_any _ _ w1 (by omega) (by omega) (by omega) (by omega)).mono ?_
    rintro e w7 ⟨v, rfl, HS, s7⟩
    have r7 := r1.keep s7
    have R7 := R1.keep s7
    have O07 := O01.trans (Oth.ofSince c s7)
    have z7 := s7.size
    clear s7
    obtain ⟨f6, a6, q6, c6, b6, m6, d6, g6, h6, X6, Y6, rfl, RR6, k61, k62, k63, k64⟩ := HS
    have u0 := r7.c0
    have u1 := r7.c1
    have u2 := r7.c2
    have uf0 := r7.f 0
    have uf1 := r7.f 1
    have uf2 := r7.f 2
    go_wp2
    have rC := ((r7.set0 (.bool f6)).set1 (.slice a6 q6 c6)).set2 (.slice b6 m6 d6)
    refine bodyPost_ret (results_box3 rfl _ _ _ _ _ _ rfl rC) rfl ?_
    have M : Marked w7 _ w.heap.size := (((Marked.refl w7 _).setCell 0 (.bool f6)).setCell 1 (.slice a6 q6 c6)).setCell 2 (.slice b6 m6 d6)
    have zM := M.size
    have SH : RatS w7 (.agg #[.bool f6, .slice a6 q6 c6, .slice b6 m6 d6]) _ _ := ⟨f6, a6, q6, c6, b6, m6, d6, g6, h6, X6, Y6, rfl, RR6, k61, k62, k63, k64⟩
    exact ⟨_, rfl, (SH.oth (Oth.ofMarked M) (by omega)).more (by omega) (by omega), R7.marked M (by omega) (fun h => by have := hbl h; omega), oth_new O07 M (Nat.le_refl _)⟩
  by_cases q5 : (44 : Int) ≤ k
  · go_wp2_with fail
    refine (l1Frac_any _ _ w1 (by omega) (by omega) (by omega) (by omega)).mono ?_
    rintro e w7 ⟨v, rfl, HS, s7⟩
    have r7 := r1.keep s7
    have R7 := R1.keep s7
    have O07 := O01.trans (Oth.ofSince c s7)
    have z7 := s7.size
    clear s7
    obtain ⟨f6, a6, q6, c6, b6, m6, d6, g6, h6, X6, Y6, rfl, RR6, k61, k62, k63, k64⟩ := HS
    have u0 := r7.c0
    have u1 := r7.c1
    have u2 := r7.c2
    have uf0 := r7.f 0
    have uf1 := r7.f 1
    have uf2 := r7.f 2
    go_wp2
    have rC := ((r7.set0 (.bool f6)).set1 (.slice a6 q6 c6)).set2 (.slice b6 m6 d6)
    refine bodyPost_ret (results_box3 rfl _ _ _ _ _ _ rfl rC) rfl ?_
    have M : Marked w7 _ w.heap.size := (((Marked.refl w7 _).setCell 0 (.bool f6)).setCell 1 (.slice a6 q6 c6)).setCell 2 (.slice b6 m6 d6)
    have zM := M.size
    have SH : RatS w7 (.agg #[.bool f6, .slice a6 q6 c6, .slice b6 m6 d6]) _ _ := ⟨f6, a6, q6, c6, b6, m6, d6, g6, h6, X6, Y6, rfl, RR6, k61, k62, k63, k64⟩
    exact ⟨_, rfl, (SH.oth (Oth.ofMarked M) (by omega)).more (by omega) (by omega), R7.marked M (by omega) (fun h => by have := hbl h; omega), oth_new O07 M (Nat.le_refl _)⟩
  by_cases q6 : (22 : Int) ≤ k
  · go_wp2_with fail
    refine (l1Frac_any _ _ w1 (by omega) (by omega) (by omega) (by omega)).mono ?_
    rintro e w7 ⟨v, rfl, HS, s7⟩
    have r7 := r1.keep s7
    have R7 := R1.keep s7
    have O07 := O01.trans (Oth.ofSince c s7)
    have z7 := s7.size
    clear s7
    obtain ⟨f6, a6, q6, c6, b6, m6, d6, g6, h6, X6, Y6, rfl, RR6, k61, k62, k63, k64⟩ := HS
    have u0 := r7.c0
    have u1 := r7.c1
    have u2 := r7.c2
    have uf0 := r7.f 0
    have uf1 := r7.f 1
    have uf2 := r7.f 2
    go_wp2
    have rC := ((r7.set0 (.bool f6)).set1 (.slice a6 q6 c6)).set2 (.slice b6 m6 d6)
    refine bodyPost_ret (results_box3 rfl _ _ _ _ _ _ rfl rC) rfl ?_
    have M : Marked w7 _ w.heap.size := (((Marked.refl w7 _).setCell 0 (.bool f6)).setCell 1 (.slice a6 q6 c6)).setCell 2 (.slice b6 m6 d6)
    have zM := M.size
    have SH : RatS w7 (.agg #[.bool f6, .slice a6 q6 c6, .slice b6 m6 d6]) _ _ := ⟨f6, a6, q6, c6, b6, m6, d6, g6, h6, X6, Y6, rfl, RR6, k61, k62, k63, k64⟩
    exact ⟨_, rfl, (SH.oth (Oth.ofMarked M) (by omega)).more (by omega) (by omega), R7.marked M (by omega) (fun h => by have := hbl h; omega), oth_new O07 M (Nat.le_refl _)⟩
  by_cases q7 : (12 : Int) ≤ k
  · go_wp2_with fail
    refine (l1Frac_any _ _ w1 (by omega) (by omega) (by omega) (by omega)).mono ?_
    rintro e w7 ⟨v, rfl, HS, s7⟩
    have r7 := r1.keep s7
    have R7 := R1.keep s7
    have O07 := O01.trans (Oth.ofSince c s7)
    have z7 := s7.size
    clear s7
    obtain ⟨f6, a6, q6, c6, b6, m6, d6, g6, h6, X6, Y6, rfl, RR6, k61, k62, k63, k64⟩ := HS
    have u0 := r7.c0
    have u1 := r7.c1
    have u2 := r7.c2
    have uf0 := r7.f 0
    have uf1 := r7.f 1
    have uf2 := r7.f 2
    go_wp2
    have rC := ((r7.set0 (.bool f6)).set1 (.slice a6 q6 c6)).set2 (.slice b6 m6 d6)
    refine bodyPost_ret (results_box3 rfl _ _ _ _ _ _ rfl rC) rfl ?_
    have M : Marked w7 _ w.heap.size := (((Marked.refl w7 _).setCell 0 (.bool f6)).setCell 1 (.slice a6 q6 c6)).setCell 2 (.slice b6 m6 d6)
    have zM := M.size
    have SH : RatS w7 (.agg #[.bool f6, .slice a6 q6 c6, .slice b6 m6 d6]) _ _ := ⟨f6, a6, q6, c6, b6, m6, d6, g6, h6, X6, Y6, rfl, RR6, k61, k62, k63, k64⟩
    exact ⟨_, rfl, (SH.oth (Oth.ofMarked M) (by omega)).more (by omega) (by omega), R7.marked M (by omega) (fun h => by have := hbl h; omega), oth_new O07 M (Nat.le_refl _)⟩
  go_wp2_with fail
  refine (l1Zero_any w1).mono ?_
  rintro e w7 ⟨v, rfl, HV, s7⟩
  have HS := HV.shape (k := 1) (by decide) (by decide)
  have r7 := r1.keep s7
  have R7 := R1.keep s7
  have O07 := O01.trans (Oth.ofSince c s7)
  have z7 := s7.size
  clear s7
  obtain ⟨f6, a6, q6, c6, b6, m6, d6, g6, h6, X6, Y6, rfl, RR6, k61, k62, k63, k64⟩ := HS
  have u0 := r7.c0
  have u1 := r7.c1
  have u2 := r7.c2
  have uf0 := r7.f 0
  have uf1 := r7.f 1
  have uf2 := r7.f 2
  go_wp2
  have rC := ((r7.set0 (.bool f6)).set1 (.slice a6 q6 c6)).set2 (.slice b6 m6 d6)
  refine bodyPost_ret (results_box3 rfl _ _ _ _ _ _ rfl rC) rfl ?_
  have M : Marked w7 _ w.heap.size := (((Marked.refl w7 _).setCell 0 (.bool f6)).setCell 1 (.slice a6 q6 c6)).setCell 2 (.slice b6 m6 d6)
  have zM := M.size
  have SH : RatS w7 (.agg #[.bool f6, .slice a6 q6 c6, .slice b6 m6 d6]) _ _ := ⟨f6, a6, q6, c6, b6, m6, d6, g6, h6, X6, Y6, rfl, RR6, k61, k62, k63, k64⟩
  exact ⟨_, rfl, (SH.oth (Oth.ofMarked M) (by omega)).more (by omega) (by omega), R7.marked M (by omega) (fun h => by have := hbl h; omega), oth_new O07 M (Nat.le_refl _)⟩

end Go.Proofs.YtklkohdcilnchaaDoor

namespace Go.Proofs.YtklkohdcilnchaaDoor
open Go.RowKit

set_option maxHeartbeats 1600000 in
set_option maxRecDepth 100000 in
/-- l1Copy of a Rat whose lists are not nil: nor are the answer's. -/
theorem l1Copy_own (f : Bool) (x y : Option Addr) (ba oa n ca bb ob m cb : Nat) (X Y : Nat → Nat) (w : World) (hn : n ≤ 1048576) (hm : m ≤ 1048576) (hnc : n ≤ ca) (hmc : m ≤ cb) (hxc : x = none → ca = 0) (hyc : y = none → cb = 0) (hX : Limbs w x ba oa n X) (hY : Limbs w y bb ob m Y) :
    Calls Tryd.prog 57 #[.agg #[.bool f, .slice x n ca, .slice y m cb]] w fun e w' => ∃ g h c1 c2, e = .returned (.agg #[.bool f, .slice (some ⟨g, 0, none⟩) n c1, .slice (some ⟨h, 0, none⟩) m c2]) ∧ w'.ownsRow (w.heap.size + 1 + 1) 43 1 (.slice (some ⟨g, 0, none⟩) n c1) n (ll X n) ∧ w'.ownsRow (w.heap.size + 1 + 1) 43 1 (.slice (some ⟨h, 0, none⟩) m c2) m (ll Y m) ∧ w.heap.size + 1 + 1 ≤ g ∧ g < h ∧ h < w'.heap.size ∧ w.Since w.heap.size w' := by
  obtain ⟨i0, hi, hz0, hz1, hz2⟩ := info_parts Tryd.info43
  have sA : w.Since w.heap.size ((w.alloc (.cells #[.bool f, .slice x n ca, .slice y m cb] 25)).alloc (.cells #[.bool false, .slice none 0 0, .slice none 0 0] 25)) := ((World.Since.refl _ _).alloc (Nat.le_refl _) _).alloc (by simp) _
  have oA : Box3 ((w.alloc (.cells #[.bool f, .slice x n ca, .slice y m cb] 25)).alloc (.cells #[.bool false, .slice none 0 0, .slice none 0 0] 25)) w.heap.size (.bool f) (.slice x n ca) (.slice y m cb) := (Box3.new w _ _ _ _).keep ((World.Since.refl _ _).alloc (Nat.le_refl _) _)
  have tB : ((w.alloc (.cells #[.bool f, .slice x n ca, .slice y m cb] 25)).alloc (.cells #[.bool false, .slice none 0 0, .slice none 0 0] 25)).Since ((w.alloc (.cells #[.bool f, .slice x n ca, .slice y m cb] 25)).alloc (.cells #[.bool false, .slice none 0 0, .slice none 0 0] 25)).heap.size (((w.alloc (.cells #[.bool f, .slice x n ca, .slice y m cb] 25)).alloc (.cells #[.bool false, .slice none 0 0, .slice none 0 0] 25)).alloc (.cells #[] 43)) := (World.Since.refl _ _).alloc (Nat.le_refl _) _
  have SB := sA.trans (sinceMono tB sA.size)
  have X1 := hX.keep SB
  have own1 := World.ownsRow_made (e := 43) (size := 1) ((w.alloc (.cells #[.bool f, .slice x n ca, .slice y m cb] 25)).alloc (.cells #[.bool false, .slice none 0 0, .slice none 0 0] 25)) #[] 0 (Nat.le_refl _) (by decide) rfl
  have zA : ((w.alloc (.cells #[.bool f, .slice x n ca, .slice y m cb] 25)).alloc (.cells #[.bool false, .slice none 0 0, .slice none 0 0] 25)).heap.size = w.heap.size + 1 + 1 := by simp
  have own0 := World.ownsRow_made (e := 43) (size := 1) ((w.alloc (.cells #[.bool f, .slice x n ca, .slice y m cb] 25)).alloc (.cells #[.bool false, .slice none 0 0, .slice none 0 0] 25)) #[] 0 (Nat.le_refl _) (by decide) rfl
  rw [zA] at own1
  have zA' := zA
  have rA : Box3 ((w.alloc (.cells #[.bool f, .slice x n ca, .slice y m cb] 25)).alloc (.cells #[.bool false, .slice none 0 0, .slice none 0 0] 25)) (w.heap.size + 1) (.bool false) (.slice none 0 0) (.slice none 0 0) := by
    have := Box3.new (w.alloc (.cells #[.bool f, .slice x n ca, .slice y m cb] 25)) (.bool false) (.slice none 0 0) (.slice none 0 0) 25
    simpa using this
  have HZA := hide zA'
  clear zA zA'
  go_enter Tryd.func57, Tryd.ntmps57
  go_wp2_with (at_builtin; refine wpList_append_own_opt _ rfl _ _ 23 rfl (w.heap.size + 1 + 1) 43 i0 (.int .u32 0) 1 4 Tryd.underlying23 hi hz0 hz1 hz2 rfl (by decide) _ 0 [] rfl own1 x n ca (ll X n) rfl (by rw [ll_len]; omega) (fun e => by have := hxc e; omega) (limbs_newsO X1) (ll_one X n) (by unfold maxLen; omega) (by omega) (by simp) ?_)
  intro v1 w2 own2 grow2 nn2
  have tC : ((w.alloc (.cells #[.bool f, .slice x n ca, .slice y m cb] 25)).alloc (.cells #[.bool false, .slice none 0 0, .slice none 0 0] 25)).Since ((w.alloc (.cells #[.bool f, .slice x n ca, .slice y m cb] 25)).alloc (.cells #[.bool false, .slice none 0 0, .slice none 0 0] 25)).heap.size w2 := tB.grown grow2 (Nat.le_trans (Nat.le_refl _) tB.size) (fun k hk => by
    have := own0.lt k (by rw [HZA.out]; exact hk)
    exact this.1)
  have SC : w.Since w.heap.size w2 := sA.trans (sinceMono tC sA.size)
  have o2 := oA.keep tC
  have r2 := rA.keep tC
  have HN := hide nn2
  clear grow2 own1 nn2
  generalize ((w.alloc (.cells #[.bool f, .slice x n ca, .slice y m cb] 25)).alloc (.cells #[.bool false, .slice none 0 0, .slice none 0 0] 25)) = wA at *
  have tD : w2.Since w2.heap.size (w2.alloc (.cells #[] 43)) := (World.Since.refl _ _).alloc (Nat.le_refl _) _
  have SD := SC.trans (sinceMono tD SC.size)
  have Y1 := hY.keep SD
  have own3 := World.ownsRow_made (e := 43) (size := 1) w2 #[] 0 (Nat.le_refl _) (by decide) rfl
  have o3 := o2.keep tD
  have k2 := o3.c2
  go_wp2_with (at_builtin; refine wpList_append_own_opt _ rfl _ _ 23 rfl w2.heap.size 43 i0 (.int .u32 0) 1 4 Tryd.underlying23 hi hz0 hz1 hz2 rfl (by decide) _ 0 [] rfl own3 y m cb (ll Y m) rfl (by rw [ll_len]; omega) (fun e => by have := hyc e; omega) (limbs_newsO Y1) (ll_one Y m) (by unfold maxLen; omega) (by omega) tD.size ?_)
  intro v3 w4 own4 grow4 nn4
  have tE : w2.Since w2.heap.size w4 := tD.grown grow4 tD.size (fun k hk => (own3.lt k hk).1)
  have SE := SC.trans (sinceMono tE SC.size)
  have o4 := o2.keep tE
  have r4 := r2.keep tE
  obtain ⟨g1, c1, rfl, m1, b1, l1, L1, F1⟩ := own_limbs_some own2 HN.out
  obtain ⟨g2, c2, rfl, m2, b2, l2, L2, F2⟩ := own_limbs_some own4 nn4
  have HO2 := hide own2
  have HO4 := hide own4
  clear own2 own4
  clear grow4 own3 nn4 k2 o3
  have j0 := o4.c0
  have u0 := r4.c0
  have u1 := r4.c1
  have u2 := r4.c2
  have uf0 := r4.f 0
  have uf1 := r4.f 1
  have uf2 := r4.f 2
  go_wp2
  have zC := tC.size
  have zE := tE.size
  have rC := ((r4.set0 (.bool f)).set1 (.slice (some ⟨g1, 0, none⟩) n c1)).set2 (.slice (some ⟨g2, 0, none⟩) m c2)
  refine bodyPost_ret (results_box3 rfl _ _ _ _ _ _ rfl rC) rfl ?_
  have M : Marked w4 _ (w.heap.size + 1) := (((Marked.refl w4 _).setCell 0 (.bool f)).setCell 1 (.slice (some ⟨g1, 0, none⟩) n c1)).setCell 2 (.slice (some ⟨g2, 0, none⟩) m c2)
  have hz := HZA.out
  have zM := M.size
  have P2 := own_oth (own_oth HO2.out (Oth.ofSince w.heap.size tE) (by omega)) (Oth.ofMarked M) (by omega)
  have P4 := own_oth HO4.out (Oth.ofMarked M) (by omega)
  exact ⟨g1, g2, c1, c2, rfl, P2, P4.mono (by omega), by omega, by omega, by omega, SE.trans (M.since (by omega))⟩

set_option maxHeartbeats 3200000 in
set_option maxRecDepth 100000 in
theorem l1Spoil_any (v : Value) (B : Nat) (k : Nat) (w : World) (hk : k ≤ 1000) (HS : RatS w v B 11) :
    Calls Tryd.prog 63 #[v, .int .i64 k] w fun e w' => ∃ u, e = .returned u ∧ RatS w' u w.heap.size 13 ∧ w.Since w.heap.size w' := by
  obtain ⟨f, a, n, ca, b, m, cb, g, h, X, Y, rfl, RR, hn, hm, -, -⟩ := HS
  have sA : w.Since w.heap.size ((w.alloc (.cells #[.bool f, .slice a n ca, .slice b m cb] 25)).alloc (.cells #[.bool false, .slice none 0 0, .slice none 0 0] 25)) := ((World.Since.refl _ _).alloc (Nat.le_refl _) _).alloc (by simp) _
  have zA : ((w.alloc (.cells #[.bool f, .slice a n ca, .slice b m cb] 25)).alloc (.cells #[.bool false, .slice none 0 0, .slice none 0 0] 25)).heap.size = w.heap.size + 1 + 1 := by simp
  have oA : Box3 ((w.alloc (.cells #[.bool f, .slice a n ca, .slice b m cb] 25)).alloc (.cells #[.bool false, .slice none 0 0, .slice none 0 0] 25)) w.heap.size (.bool f) (.slice a n ca) (.slice b m cb) := (Box3.new w _ _ _ _).keep ((World.Since.refl _ _).alloc (Nat.le_refl _) _)
  have rA : Box3 ((w.alloc (.cells #[.bool f, .slice a n ca, .slice b m cb] 25)).alloc (.cells #[.bool false, .slice none 0 0, .slice none 0 0] 25)) (w.heap.size + 1) (.bool false) (.slice none 0 0) (.slice none 0 0) := by
    have := Box3.new (w.alloc (.cells #[.bool f, .slice a n ca, .slice b m cb] 25)) (.bool false) (.slice none 0 0) (.slice none 0 0) 25
    simpa using this
  have HZA := hide zA
  clear zA
  have o0 := oA.c0
  have o1 := oA.c1
  have o2 := oA.c2
  go_enter Tryd.func63, Tryd.ntmps63
  go_wp2_with fail
  clear o0 o1 o2
  generalize ((w.alloc (.cells #[.bool f, .slice a n ca, .slice b m cb] 25)).alloc (.cells #[.bool false, .slice none 0 0, .slice none 0 0] 25)) = wA at *
  refine (l1Copy_own f a b g 0 n ca h 0 m cb X Y wA (by omega) (by omega) RR.nc RR.mc RR.ac RR.bc (RR.keep sA).LX (RR.keep sA).LY).mono ?_
  rintro e w1 ⟨g1, h1, c1, c2, rfl, P1, P2, b1, b2, b3, s1⟩
  have S1 : w.Since w.heap.size w1 := sA.trans (sinceMono s1 sA.size)
  have r1 := rA.keep s1
  have zz := HZA.out
  obtain ⟨i0, hi, hz0, hz1, hz2⟩ := info_parts Tryd.info43
  have t2 : w1.Since w1.heap.size (w1.alloc (.cells #[.bool f, .slice (some ⟨g1, 0, none⟩) n c1, .slice (some ⟨h1, 0, none⟩) m c2] 25)) := (World.Since.refl _ _).alloc (Nat.le_refl _) _
  have C2 := Box3.new w1 (.bool f) (.slice (some ⟨g1, 0, none⟩) n c1) (.slice (some ⟨h1, 0, none⟩) m c2) 25
  have S2 := S1.trans (sinceMono t2 S1.size)
  have r2 := r1.keep t2
  have P12 := P1.alloc (.cells #[.bool f, .slice (some ⟨g1, 0, none⟩) n c1, .slice (some ⟨h1, 0, none⟩) m c2] 25)
  have P22 := P2.alloc (.cells #[.bool f, .slice (some ⟨g1, 0, none⟩) n c1, .slice (some ⟨h1, 0, none⟩) m c2] 25)
  have z2 := t2.size
  have rl := r1.lt
  have HP1 := hide P12
  have HP2 := hide P22
  have e0 := C2.c0
  have e1 := C2.c1
  have e2 := C2.c2
  have ef0 := C2.f 0
  have ef1 := C2.f 1
  have ef2 := C2.f 2
  have hcb := C2.lt
  have HHW : Hid ((w1.alloc (.cells #[.bool f, .slice (some ⟨g1, 0, none⟩) n c1, .slice (some ⟨h1, 0, none⟩) m c2] 25)).heap.size = w1.heap.size + 1) := hide (by simp)
  clear P1 P2 P12 P22 oA rA s1 sA
  have hce : w1.heap.size ≠ w.heap.size + 1 := by omega
  have hce2 : w.heap.size + 1 ≠ w1.heap.size := by omega
  have hce3 : w.heap.size ≠ w1.heap.size := by omega
  by_cases q0 : (k : Int) % 7 = 0
  · have q0' : ((k : Int) % 7 == 0) = true := by simp [q0]
    have hnc : ∀ j u, [Value.int .u32 0][j]? = some u → ((w1.alloc (.cells #[.bool f, .slice (some ⟨g1, 0, none⟩) n c1, .slice (some ⟨h1, 0, none⟩) m c2] 25)).alloc (.cells #[.int .u32 0] 43)).cell? ((⟨w1.heap.size + 1, 0, none⟩ : Addr).add j) = some u := by
      have := new_cell (w1.alloc (.cells #[.bool f, .slice (some ⟨g1, 0, none⟩) n c1, .slice (some ⟨h1, 0, none⟩) m c2] 25)) (.int .u32 0) 43
      rw [HHW.out] at this
      exact this
    go_wp2_with (at_builtin; refine wpList_append_own_at _ rfl _ _ 23 rfl (wA.heap.size + 1 + 1) 43 i0 (.int .u32 0) 1 4 Tryd.underlying23 hi hz0 hz1 hz2 rfl (by decide) _ _ _ rfl (HP1.out.alloc _) ⟨w1.heap.size + 1, 0, none⟩ 1 1 [.int .u32 0] rfl rfl hnc (one_one _ rfl) (by unfold maxLen; omega) (by omega) (by simp; omega) ?_)
    intro v' w3 hown' hgrow hnn hat
    rw [show ll X n ++ [.int .u32 0] = ll (upd X n 0) (n + 1) from by rw [ll_succ, upd_same, ll_congr (fun j hj => upd_other _ _ _ _ (show j ≠ n by omega))]; rfl] at hown'
    have t3 := (World.Since.refl (w1.alloc (.cells #[.bool f, .slice (some ⟨g1, 0, none⟩) n c1, .slice (some ⟨h1, 0, none⟩) m c2] 25)).heap.size (w1.alloc (.cells #[.bool f, .slice (some ⟨g1, 0, none⟩) n c1, .slice (some ⟨h1, 0, none⟩) m c2] 25))).alloc (Nat.le_refl _) (.cells #[.int .u32 0] 43)
    have z3 := hgrow.size
    have z3' := t3.size
    have C3 := (C2.keep t3).ofBlock (hgrow.block w1.heap.size (by simp; omega) (by simp [Value.ownBlock]; omega))
    have r3 := (r2.keep t3).ofBlock (hgrow.block (w.heap.size + 1) (by simp; omega) (by simp [Value.ownBlock]; omega))
    have S3 : w.Since w.heap.size w3 := (S2.trans (sinceMono t3 S2.size)).grown hgrow (by simp; omega) (fun k hk => by simp [Value.ownBlock] at hk; omega)
    obtain ⟨gg, c3, rfl, hmc, hbg, hgl, L3, -⟩ := own_limbs_some hown' hnn
    obtain ⟨go, co, e9, m2, -, -, LO3, -⟩ := own_limbs_some HP2.out (by simp)
    obtain ⟨rfl, rfl⟩ : h1 = go ∧ c2 = co := by simpa using e9
    have LO3 := (LO3.keep t3).ofBlock (fun h0 => hgrow.block _ (by simp; omega) (by simp [Value.ownBlock]; omega))
    have hgg : gg = g1 ∨ gg = w1.heap.size + 1 + 1 := by simpa [Value.ownBlock] using hat
    have lN : ∀ j, j < n + 1 → upd X n 0 j < 4294967296 := fun j hj => by
      by_cases e2 : j = n
      · subst e2; rw [upd_same]; omega
      · rw [upd_other _ _ _ _ e2]; exact RR.lX j (by omega)
    clear e9 hnc e0 e1 e2 ef0 ef1 ef2 hat hown' hgrow hnn
    have e0 := C3.c0
    have e1 := C3.c1
    have e2 := C3.c2
    have ef1 := C3.f 1
    have u0 := r3.c0
    have u1 := r3.c1
    have u2 := r3.c2
    have uf0 := r3.f 0
    have uf1 := r3.f 1
    have uf2 := r3.f 2
    go_wp2
    have r4 := r3.marked ((Marked.refl w3 w1.heap.size).setCell 1 (.slice (some ⟨gg, 0, none⟩) (n + 1) c3)) hce2
    have rC := ((r4.set0 (.bool f)).set1 (.slice (some ⟨gg, 0, none⟩) (n + 1) c3)).set2 (.slice (some ⟨h1, 0, none⟩) m c2)
    refine bodyPost_ret (results_box3 rfl _ _ _ _ _ _ rfl rC) rfl ?_
    have M1 : Marked w3 _ w1.heap.size := (Marked.refl w3 w1.heap.size).setCell 1 (.slice (some ⟨gg, 0, none⟩) (n + 1) c3)
    have M2 : Marked (w3.setCell ⟨w1.heap.size, 1, none⟩ (.slice (some ⟨gg, 0, none⟩) (n + 1) c3)) _ (w.heap.size + 1) := (((Marked.refl _ _).setCell 0 (.bool f)).setCell 1 (.slice (some ⟨gg, 0, none⟩) (n + 1) c3)).setCell 2 (.slice (some ⟨h1, 0, none⟩) m c2)
    have LN := (L3.marked M1 (fun _ => by omega)).marked M2 (fun _ => by omega)
    have LO := (LO3.marked M1 (fun _ => by omega)).marked M2 (fun _ => by omega)
    exact ⟨_, rfl, ⟨f, some ⟨gg, 0, none⟩, n + 1, c3, some ⟨h1, 0, none⟩, m, c2, gg, h1, upd X n 0, Y, rfl, ⟨hmc, m2, fun e => (by cases e), fun e => (by cases e), LN, LO, lN, RR.lY⟩, by omega, by omega, fun _ => by omega, fun _ => by omega⟩, (S3.trans (M1.since (by omega))).trans (M2.since (by omega))⟩
  have p0 : ((k : Int) % 7 == 0) = false := by simp [q0]
  by_cases q1 : (k : Int) % 7 = 1
  · have q1' : ((k : Int) % 7 == 1) = true := by simp [q1]
    have hnc : ∀ j u, [Value.int .u32 0][j]? = some u → ((w1.alloc (.cells #[.bool f, .slice (some ⟨g1, 0, none⟩) n c1, .slice (some ⟨h1, 0, none⟩) m c2] 25)).alloc (.cells #[.int .u32 0] 43)).cell? ((⟨w1.heap.size + 1, 0, none⟩ : Addr).add j) = some u := by
      have := new_cell (w1.alloc (.cells #[.bool f, .slice (some ⟨g1, 0, none⟩) n c1, .slice (some ⟨h1, 0, none⟩) m c2] 25)) (.int .u32 0) 43
      rw [HHW.out] at this
      exact this
    go_wp2_with (at_builtin; refine wpList_append_own_at _ rfl _ _ 23 rfl (wA.heap.size + 1 + 1) 43 i0 (.int .u32 0) 1 4 Tryd.underlying23 hi hz0 hz1 hz2 rfl (by decide) _ _ _ rfl (HP2.out.alloc _) ⟨w1.heap.size + 1, 0, none⟩ 1 1 [.int .u32 0] rfl rfl hnc (one_one _ rfl) (by unfold maxLen; omega) (by omega) (by simp; omega) ?_)
    intro v' w3 hown' hgrow hnn hat
    rw [show ll Y m ++ [.int .u32 0] = ll (upd Y m 0) (m + 1) from by rw [ll_succ, upd_same, ll_congr (fun j hj => upd_other _ _ _ _ (show j ≠ m by omega))]; rfl] at hown'
    have t3 := (World.Since.refl (w1.alloc (.cells #[.bool f, .slice (some ⟨g1, 0, none⟩) n c1, .slice (some ⟨h1, 0, none⟩) m c2] 25)).heap.size (w1.alloc (.cells #[.bool f, .slice (some ⟨g1, 0, none⟩) n c1, .slice (some ⟨h1, 0, none⟩) m c2] 25))).alloc (Nat.le_refl _) (.cells #[.int .u32 0] 43)
    have z3 := hgrow.size
    have z3' := t3.size
    have C3 := (C2.keep t3).ofBlock (hgrow.block w1.heap.size (by simp; omega) (by simp [Value.ownBlock]; omega))
    have r3 := (r2.keep t3).ofBlock (hgrow.block (w.heap.size + 1) (by simp; omega) (by simp [Value.ownBlock]; omega))
    have S3 : w.Since w.heap.size w3 := (S2.trans (sinceMono t3 S2.size)).grown hgrow (by simp; omega) (fun k hk => by simp [Value.ownBlock] at hk; omega)
    obtain ⟨gg, c3, rfl, hmc, hbg, hgl, L3, -⟩ := own_limbs_some hown' hnn
    obtain ⟨go, co, e9, m2, -, -, LO3, -⟩ := own_limbs_some HP1.out (by simp)
    obtain ⟨rfl, rfl⟩ : g1 = go ∧ c1 = co := by simpa using e9
    have LO3 := (LO3.keep t3).ofBlock (fun h0 => hgrow.block _ (by simp; omega) (by simp [Value.ownBlock]; omega))
    have hgg : gg = h1 ∨ gg = w1.heap.size + 1 + 1 := by simpa [Value.ownBlock] using hat
    have lN : ∀ j, j < m + 1 → upd Y m 0 j < 4294967296 := fun j hj => by
      by_cases e2 : j = m
      · subst e2; rw [upd_same]; omega
      · rw [upd_other _ _ _ _ e2]; exact RR.lY j (by omega)
    clear e9 hnc e0 e1 e2 ef0 ef1 ef2 hat hown' hgrow hnn
    have e0 := C3.c0
    have e1 := C3.c1
    have e2 := C3.c2
    have ef1 := C3.f 2
    have u0 := r3.c0
    have u1 := r3.c1
    have u2 := r3.c2
    have uf0 := r3.f 0
    have uf1 := r3.f 1
    have uf2 := r3.f 2
    go_wp2
    have r4 := r3.marked ((Marked.refl w3 w1.heap.size).setCell 2 (.slice (some ⟨gg, 0, none⟩) (m + 1) c3)) hce2
    have rC := ((r4.set0 (.bool f)).set1 (.slice (some ⟨g1, 0, none⟩) n c1)).set2 (.slice (some ⟨gg, 0, none⟩) (m + 1) c3)
    refine bodyPost_ret (results_box3 rfl _ _ _ _ _ _ rfl rC) rfl ?_
    have M1 : Marked w3 _ w1.heap.size := (Marked.refl w3 w1.heap.size).setCell 2 (.slice (some ⟨gg, 0, none⟩) (m + 1) c3)
    have M2 : Marked (w3.setCell ⟨w1.heap.size, 2, none⟩ (.slice (some ⟨gg, 0, none⟩) (m + 1) c3)) _ (w.heap.size + 1) := (((Marked.refl _ _).setCell 0 (.bool f)).setCell 1 (.slice (some ⟨g1, 0, none⟩) n c1)).setCell 2 (.slice (some ⟨gg, 0, none⟩) (m + 1) c3)
    have LN := (L3.marked M1 (fun _ => by omega)).marked M2 (fun _ => by omega)
    have LO := (LO3.marked M1 (fun _ => by omega)).marked M2 (fun _ => by omega)
    exact ⟨_, rfl, ⟨f, some ⟨g1, 0, none⟩, n, c1, some ⟨gg, 0, none⟩, m + 1, c3, g1, gg, X, upd Y m 0, rfl, ⟨m2, hmc, fun e => (by cases e), fun e => (by cases e), LO, LN, RR.lX, lN⟩, by omega, by omega, fun _ => by omega, fun _ => by omega⟩, (S3.trans (M1.since (by omega))).trans (M2.since (by omega))⟩
  have p1 : ((k : Int) % 7 == 1) = false := by simp [q1]
  by_cases q2 : (k : Int) % 7 = 2
  · have q2' : ((k : Int) % 7 == 2) = true := by simp [q2]
    have t3 := (World.Since.refl (w1.alloc (.cells #[.bool f, .slice (some ⟨g1, 0, none⟩) n c1, .slice (some ⟨h1, 0, none⟩) m c2] 25)).heap.size (w1.alloc (.cells #[.bool f, .slice (some ⟨g1, 0, none⟩) n c1, .slice (some ⟨h1, 0, none⟩) m c2] 25))).alloc (Nat.le_refl _) (.cells #[] 43)
    have C3 := C2.keep t3
    have r3 := r2.keep t3
    have S3 := S2.trans (sinceMono t3 S2.size)
    have z3' := t3.size
    obtain ⟨go, co, e9, m2, -, -, LO3, -⟩ := own_limbs_some HP1.out (by simp)
    obtain ⟨rfl, rfl⟩ : g1 = go ∧ c1 = co := by simpa using e9
    have LO3 := LO3.keep t3
    clear e0 e1 e2 ef0 ef1 ef2 e9
    have e0 := C3.c0
    have e1 := C3.c1
    have e2 := C3.c2
    have ef1 := C3.f 2
    have u0 := r3.c0
    have u1 := r3.c1
    have u2 := r3.c2
    have uf0 := r3.f 0
    have uf1 := r3.f 1
    have uf2 := r3.f 2
    generalize hW3 : (w1.alloc (.cells #[.bool f, .slice (some ⟨g1, 0, none⟩) n c1, .slice (some ⟨h1, 0, none⟩) m c2] 25)).alloc (.cells #[] 43) = w3 at *
    go_wp2
    have r4 := r3.marked ((Marked.refl w3 w1.heap.size).setCell 2 (.slice (some ⟨w1.heap.size + 1, 0, none⟩) 0 0)) hce2
    have rC := ((r4.set0 (.bool f)).set1 (.slice (some ⟨g1, 0, none⟩) n c1)).set2 (.slice (some ⟨w1.heap.size + 1, 0, none⟩) 0 0)
    refine bodyPost_ret (results_box3 rfl _ _ _ _ _ _ rfl rC) rfl ?_
    have M1 : Marked w3 _ w1.heap.size := (Marked.refl w3 w1.heap.size).setCell 2 (.slice (some ⟨w1.heap.size + 1, 0, none⟩) 0 0)
    have M2 : Marked (w3.setCell ⟨w1.heap.size, 2, none⟩ (.slice (some ⟨w1.heap.size + 1, 0, none⟩) 0 0)) _ (w.heap.size + 1) := (((Marked.refl _ _).setCell 0 (.bool f)).setCell 1 (.slice (some ⟨g1, 0, none⟩) n c1)).setCell 2 (.slice (some ⟨w1.heap.size + 1, 0, none⟩) 0 0)
    have LO := (LO3.marked M1 (fun _ => by omega)).marked M2 (fun _ => by omega)
    exact ⟨_, rfl, ⟨f, _, n, c1, _, 0, 0, g1, w1.heap.size + 1, X, fun _ => 0, rfl, ⟨m2, by omega, fun e => (by cases e), fun e => (by cases e), LO, fun j hj => absurd hj (by omega), RR.lX, fun _ _ => by omega⟩, by omega, by omega, fun _ => by omega, fun _ => by omega⟩, (S3.trans (M1.since (by omega))).trans (M2.since (by omega))⟩
  have p2 : ((k : Int) % 7 == 2) = false := by simp [q2]
  by_cases q3 : (k : Int) % 7 = 3
  · have q3' : ((k : Int) % 7 == 3) = true := by simp [q3]
    have t3 := (World.Since.refl (w1.alloc (.cells #[.bool f, .slice (some ⟨g1, 0, none⟩) n c1, .slice (some ⟨h1, 0, none⟩) m c2] 25)).heap.size (w1.alloc (.cells #[.bool f, .slice (some ⟨g1, 0, none⟩) n c1, .slice (some ⟨h1, 0, none⟩) m c2] 25))).alloc (Nat.le_refl _) (.cells #[.int .u32 0] 43)
    have C3 := C2.keep t3
    have r3 := r2.keep t3
    have S3 := S2.trans (sinceMono t3 S2.size)
    have z3' := t3.size
    obtain ⟨go, co, e9, m2, -, -, LO3, -⟩ := own_limbs_some HP1.out (by simp)
    obtain ⟨rfl, rfl⟩ : g1 = go ∧ c1 = co := by simpa using e9
    have LO3 := LO3.keep t3
    clear e0 e1 e2 ef0 ef1 ef2 e9
    have LD3 : Limbs ((w1.alloc (.cells #[.bool f, .slice (some ⟨g1, 0, none⟩) n c1, .slice (some ⟨h1, 0, none⟩) m c2] 25)).alloc (.cells #[.int .u32 0] 43)) (some ⟨w1.heap.size + 1, 0, none⟩) (w1.heap.size + 1) 0 1 (fun _ => 0) := fun j hj => ⟨rfl, by
      obtain rfl : j = 0 := by omega
      have := new_cell (w1.alloc (.cells #[.bool f, .slice (some ⟨g1, 0, none⟩) n c1, .slice (some ⟨h1, 0, none⟩) m c2] 25)) (.int .u32 0) 43 0 _ rfl
      rw [HHW.out] at this
      exact this⟩
    have e0 := C3.c0
    have e1 := C3.c1
    have e2 := C3.c2
    have ef1 := C3.f 2
    have u0 := r3.c0
    have u1 := r3.c1
    have u2 := r3.c2
    have uf0 := r3.f 0
    have uf1 := r3.f 1
    have uf2 := r3.f 2
    generalize hW3 : (w1.alloc (.cells #[.bool f, .slice (some ⟨g1, 0, none⟩) n c1, .slice (some ⟨h1, 0, none⟩) m c2] 25)).alloc (.cells #[.int .u32 0] 43) = w3 at *
    go_wp2
    have r4 := r3.marked ((Marked.refl w3 w1.heap.size).setCell 2 (.slice (some ⟨w1.heap.size + 1, 0, none⟩) 1 1)) hce2
    have rC := ((r4.set0 (.bool f)).set1 (.slice (some ⟨g1, 0, none⟩) n c1)).set2 (.slice (some ⟨w1.heap.size + 1, 0, none⟩) 1 1)
    refine bodyPost_ret (results_box3 rfl _ _ _ _ _ _ rfl rC) rfl ?_
    have M1 : Marked w3 _ w1.heap.size := (Marked.refl w3 w1.heap.size).setCell 2 (.slice (some ⟨w1.heap.size + 1, 0, none⟩) 1 1)
    have M2 : Marked (w3.setCell ⟨w1.heap.size, 2, none⟩ (.slice (some ⟨w1.heap.size + 1, 0, none⟩) 1 1)) _ (w.heap.size + 1) := (((Marked.refl _ _).setCell 0 (.bool f)).setCell 1 (.slice (some ⟨g1, 0, none⟩) n c1)).setCell 2 (.slice (some ⟨w1.heap.size + 1, 0, none⟩) 1 1)
    have LO := (LO3.marked M1 (fun _ => by omega)).marked M2 (fun _ => by omega)
    have LD := (LD3.marked M1 (fun _ => by omega)).marked M2 (fun _ => by omega)
    exact ⟨_, rfl, ⟨f, _, n, c1, _, 1, 1, g1, w1.heap.size + 1, X, fun _ => 0, rfl, ⟨m2, by omega, fun e => (by cases e), fun e => (by cases e), LO, LD, RR.lX, fun _ _ => by omega⟩, by omega, by omega, fun _ => by omega, fun _ => by omega⟩, (S3.trans (M1.since (by omega))).trans (M2.since (by omega))⟩
  have p3 : ((k : Int) % 7 == 3) = false := by simp [q3]
  by_cases q4 : (k : Int) % 7 = 4
  · have q4' : ((k : Int) % 7 == 4) = true := by simp [q4]
    have t3 : (w1.alloc (.cells #[.bool f, .slice (some ⟨g1, 0, none⟩) n c1, .slice (some ⟨h1, 0, none⟩) m c2] 25)).Since (w1.alloc (.cells #[.bool f, .slice (some ⟨g1, 0, none⟩) n c1, .slice (some ⟨h1, 0, none⟩) m c2] 25)).heap.size ((w1.alloc (.cells #[.bool f, .slice (some ⟨g1, 0, none⟩) n c1, .slice (some ⟨h1, 0, none⟩) m c2] 25)).alloc (.cells #[] 43)) := (World.Since.refl (w1.alloc (.cells #[.bool f, .slice (some ⟨g1, 0, none⟩) n c1, .slice (some ⟨h1, 0, none⟩) m c2] 25)).heap.size (w1.alloc (.cells #[.bool f, .slice (some ⟨g1, 0, none⟩) n c1, .slice (some ⟨h1, 0, none⟩) m c2] 25))).alloc (Nat.le_refl _) (.cells #[] 43)
    have t4 : ((w1.alloc (.cells #[.bool f, .slice (some ⟨g1, 0, none⟩) n c1, .slice (some ⟨h1, 0, none⟩) m c2] 25)).alloc (.cells #[] 43)).Since ((w1.alloc (.cells #[.bool f, .slice (some ⟨g1, 0, none⟩) n c1, .slice (some ⟨h1, 0, none⟩) m c2] 25)).alloc (.cells #[] 43)).heap.size (((w1.alloc (.cells #[.bool f, .slice (some ⟨g1, 0, none⟩) n c1, .slice (some ⟨h1, 0, none⟩) m c2] 25)).alloc (.cells #[] 43)).alloc (.cells #[.int .u32 1] 43)) := (World.Since.refl _ _).alloc (Nat.le_refl _) _
    have r4 := (r2.keep t3).keep t4
    have S4 := (S2.trans (sinceMono t3 S2.size)).trans (sinceMono t4 (S2.trans (sinceMono t3 S2.size)).size)
    have LD4 : Limbs (((w1.alloc (.cells #[.bool f, .slice (some ⟨g1, 0, none⟩) n c1, .slice (some ⟨h1, 0, none⟩) m c2] 25)).alloc (.cells #[] 43)).alloc (.cells #[.int .u32 1] 43)) (some ⟨w1.heap.size + 1 + 1, 0, none⟩) (w1.heap.size + 1 + 1) 0 1 (fun _ => 1) := fun j hj => ⟨rfl, by
      obtain rfl : j = 0 := by omega
      have := new_cell ((w1.alloc (.cells #[.bool f, .slice (some ⟨g1, 0, none⟩) n c1, .slice (some ⟨h1, 0, none⟩) m c2] 25)).alloc (.cells #[] 43)) (.int .u32 1) 43 0 _ rfl
      rw [show ((w1.alloc (.cells #[.bool f, .slice (some ⟨g1, 0, none⟩) n c1, .slice (some ⟨h1, 0, none⟩) m c2] 25)).alloc (.cells #[] 43)).heap.size = w1.heap.size + 1 + 1 by simp, Addr.add_lit] at this
      simpa using this⟩
    have z4 := t4.size
    have z3 := t3.size
    have hdl : 1 < 4294967296 := by omega
    clear e0 e1 e2 ef0 ef1 ef2 t3 t4 C2
    have u0 := r4.c0
    have u1 := r4.c1
    have u2 := r4.c2
    have uf0 := r4.f 0
    have uf1 := r4.f 1
    have uf2 := r4.f 2
    generalize hW4 : (((w1.alloc (.cells #[.bool f, .slice (some ⟨g1, 0, none⟩) n c1, .slice (some ⟨h1, 0, none⟩) m c2] 25)).alloc (.cells #[] 43)).alloc (.cells #[.int .u32 1] 43)) = w4 at *
    go_wp2
    have rC := ((r4.set0 (.bool true)).set1 (.slice (some ⟨w1.heap.size + 1, 0, none⟩) 0 0)).set2 (.slice (some ⟨w1.heap.size + 1 + 1, 0, none⟩) 1 1)
    refine bodyPost_ret (results_box3 rfl _ _ _ _ _ _ rfl rC) rfl ?_
    have M2 : Marked w4 _ (w.heap.size + 1) := (((Marked.refl _ _).setCell 0 (.bool true)).setCell 1 (.slice (some ⟨w1.heap.size + 1, 0, none⟩) 0 0)).setCell 2 (.slice (some ⟨w1.heap.size + 1 + 1, 0, none⟩) 1 1)
    have LD := LD4.marked M2 (fun _ => by omega)
    exact ⟨_, rfl, ⟨true, _, 0, 0, _, 1, 1, w1.heap.size + 1, w1.heap.size + 1 + 1, fun _ => 0, fun _ => 1, rfl, ⟨by omega, by omega, fun e => (by cases e), fun e => (by cases e), fun j hj => absurd hj (by omega), LD, fun _ _ => by omega, fun _ _ => hdl⟩, by omega, by omega, fun _ => by omega, fun _ => by omega⟩, S4.trans (M2.since (by omega))⟩
  have p4 : ((k : Int) % 7 == 4) = false := by simp [q4]
  by_cases q5 : (k : Int) % 7 = 5
  · have q5' : ((k : Int) % 7 == 5) = true := by simp [q5]
    obtain ⟨d, hd, hd2⟩ : ∃ d : Nat, (2 : Int) + (k : Int) / 7 = (d : Int) ∧ d ≤ 200 := ⟨2 + k / 7, by omega, by omega⟩
    clear e0 e1 e2 ef0 ef1 ef2
    go_wp2_with fail
    refine (l1BitsOf_any d _ (by omega)).mono ?_
    rintro e w3 ⟨x3, t3, B3, rfl, k3, ⟨a3, b3', o3, c3, rfl, k31, L3, p3'⟩, -, s3⟩
    have C3 := C2.keep s3
    have r3 := r2.keep s3
    have S3 := S2.trans (sinceMono s3 S2.size)
    have z3 := s3.size
    obtain ⟨go, co, e9, m2, -, -, LN2, -⟩ := own_limbs_some HP1.out (by simp)
    obtain ⟨rfl, rfl⟩ : g1 = go ∧ c1 = co := by simpa using e9
    clear e9
    obtain ⟨go, co, e9, m3, -, -, LD2, -⟩ := own_limbs_some HP2.out (by simp)
    obtain ⟨rfl, rfl⟩ : h1 = go ∧ c2 = co := by simpa using e9
    have LN3 := LN2.keep s3
    have LD3 := LD2.keep s3
    clear e9 LN2 LD2 HP1 HP2 C2 r2 S2 r1 t2
    have kk := C3.cells
    have hcl := C3.lt
    have hlX := RR.lX
    have hlY := RR.lY
    have J1 := l1Bits_any (some ⟨g1, 0, none⟩) g1 0 n c1 X w3.drew (by omega) LN3 hlX
    have L33 := L3
    have SDr := since_drew S3
    go_wp2_with fail
    go_region_held3 (fun w' => w'.cell? ⟨w1.heap.size, 0, none⟩ = some (.bool f) ∧ w'.cell? ⟨w1.heap.size, 1, none⟩ = some (.slice (some ⟨g1, 0, none⟩) n c1) ∧ w'.cell? ⟨w1.heap.size, 2, none⟩ = some (.slice (some ⟨h1, 0, none⟩) m c2)) (go_keep)
      (first
        | (go_at_call 31
           first
              | (with_reducible refine J1.mono ?_
                 rintro e w4 ⟨a4, g4, m4, c4, B4, rfl, k41, k42, L4, -, -, -, s4⟩
                 have C4 := C3.drew.keep s4
                 have r4 := r3.drew.keep s4
                 have S4 : w.Since w.heap.size w4 := SDr.trans (sinceMono s4 S3.size)
                 have kk := C4.cells
                 have L34 : Bits w4 a3 b3' o3 t3 B3 := Bits.keep (w := w3.drew) L33 s4
                 have LD4 : Limbs w4 (some ⟨h1, 0, none⟩) h1 0 m Y := Limbs.keep (w := w3.drew) LD3 s4
                 have J2 := l1MulBits_any a4 a3 g4 0 m4 c4 b3' o3 t3 c3 B4 B3 w4 (by omega) (by omega) L4 L34)
              | (with_reducible refine J4.mono ?_
                 rintro e w7 ⟨a7, g7, m7, c7, B7, rfl, k71, k72, L7, -, -, -, s7⟩
                 have C7 := C6.keep s7
                 have r7 := r6.keep s7
                 have S7 := S6.trans (sinceMono s7 S6.size)
                 have kk := C7.cells
                 have L37 := L36.keep s7
                 have LD7 := LD6.keep s7
                 have LL7 := LL6.keep s7
                 have J5 := l1MulBits_any a7 a3 g7 0 m7 c7 b3' o3 t3 c3 B7 B3 w7 (by omega) (by omega) L7 L37))
        | (go_at_call 46
           first
              | (with_reducible refine J2.mono ?_
                 rintro e w5 ⟨g5, t5, c5, B5, rfl, k51, k52, L5, -, -, -, s5⟩
                 have C5 := C4.keep s5
                 have r5 := r4.keep s5
                 have S5 := S4.trans (sinceMono s5 S4.size)
                 have kk := C5.cells
                 have L35 := L34.keep s5
                 have LD5 := LD4.keep s5
                 have J3 := l1Limbs_any2 (some ⟨g5, 0, none⟩) g5 0 t5 c5 B5 w5 (by omega) k51 L5)
              | (with_reducible refine J5.mono ?_
                 rintro e w8 ⟨g8, t8, c8, B8, rfl, k81, k82, L8, -, -, -, s8⟩
                 have C8 := C7.keep s8
                 have r8 := r7.keep s8
                 have S8 := S7.trans (sinceMono s8 S7.size)
                 have kk := C8.cells
                 have L38 := L37.keep s8
                 have LD8 := LD7.keep s8
                 have LL8 := LL7.keep s8
                 have J6 := l1Limbs_any2 (some ⟨g8, 0, none⟩) g8 0 t8 c8 B8 w8 (by omega) k81 L8))
        | (go_at_call 47
           first
              | (with_reducible refine J3.mono ?_
                 rintro e w6 ⟨a6, g6, m6, c6, Y6, rfl, k61, k62, k63, LL6, k64, -, k65, -, -, s6⟩
                 have C6 := C5.keep s6
                 have r6 := r5.keep s6
                 have S6 := S5.trans (sinceMono s6 S5.size)
                 have kk := C6.cells
                 have L36 := L35.keep s6
                 have LD6 := LD5.keep s6
                 have J4 := l1Bits_any (some ⟨h1, 0, none⟩) h1 0 m c2 Y w6 (by omega) LD6 hlY)
              | (with_reducible refine J6.mono ?_
                 rintro e w9 ⟨a9, g9, m9, c9, Y9, rfl, k91, k92, k93, LL9, k94, -, k95, -, -, s9⟩
                 have C9 := C8.keep s9
                 have r9 := r8.keep s9
                 have S9 := S8.trans (sinceMono s9 S8.size)
                 have kk := C9.cells
                 have L39 := L38.keep s9
                 have LD9 := LD8.keep s9
                 have LX9 := LL8.keep s9
                 have u0 := r9.c0
                 have u1 := r9.c1
                 have u2 := r9.c2
                 have uf0 := r9.f 0
                 have uf1 := r9.f 1
                 have uf2 := r9.f 2)))
    all_goals go_wp2
    all_goals
      have rC := ((r9.set0 (.bool f)).set1 (.slice a6 m6 c6)).set2 (.slice a9 m9 c9)
      refine bodyPost_ret (results_box3 rfl _ _ _ _ _ _ rfl rC) rfl ?_
      have M : Marked w9 _ (w.heap.size + 1) := (((Marked.refl w9 _).setCell 0 (.bool f)).setCell 1 (.slice a6 m6 c6)).setCell 2 (.slice a9 m9 c9)
      have zq : w1.heap.size ≤ w5.heap.size := by have := C5.lt; omega
      have zr : w1.heap.size ≤ w8.heap.size := by have := C8.lt; omega
      exact ⟨_, rfl, ⟨f, a6, m6, c6, a9, m9, c9, g6, g9, Y6, Y9, rfl, ⟨k61, k91, k62, k92, LX9.marked M (fun h0 => by have := k64 h0; omega), LL9.marked M (fun h0 => by have := k94 h0; omega), fun j _ => k65 j, fun j _ => k95 j⟩, by omega, by omega, fun h0 => by have := k64 h0; omega, fun h0 => by have := k94 h0; omega⟩, S9.trans (M.since (by omega))⟩
  have p5 : ((k : Int) % 7 == 5) = false := by simp [q5]
  have t3 : (w1.alloc (.cells #[.bool f, .slice (some ⟨g1, 0, none⟩) n c1, .slice (some ⟨h1, 0, none⟩) m c2] 25)).Since (w1.alloc (.cells #[.bool f, .slice (some ⟨g1, 0, none⟩) n c1, .slice (some ⟨h1, 0, none⟩) m c2] 25)).heap.size ((w1.alloc (.cells #[.bool f, .slice (some ⟨g1, 0, none⟩) n c1, .slice (some ⟨h1, 0, none⟩) m c2] 25)).alloc (.cells #[] 43)) := (World.Since.refl (w1.alloc (.cells #[.bool f, .slice (some ⟨g1, 0, none⟩) n c1, .slice (some ⟨h1, 0, none⟩) m c2] 25)).heap.size (w1.alloc (.cells #[.bool f, .slice (some ⟨g1, 0, none⟩) n c1, .slice (some ⟨h1, 0, none⟩) m c2] 25))).alloc (Nat.le_refl _) (.cells #[] 43)
  have t4 : ((w1.alloc (.cells #[.bool f, .slice (some ⟨g1, 0, none⟩) n c1, .slice (some ⟨h1, 0, none⟩) m c2] 25)).alloc (.cells #[] 43)).Since ((w1.alloc (.cells #[.bool f, .slice (some ⟨g1, 0, none⟩) n c1, .slice (some ⟨h1, 0, none⟩) m c2] 25)).alloc (.cells #[] 43)).heap.size (((w1.alloc (.cells #[.bool f, .slice (some ⟨g1, 0, none⟩) n c1, .slice (some ⟨h1, 0, none⟩) m c2] 25)).alloc (.cells #[] 43)).alloc (.cells #[.int .u32 (2 + (k : Int) / 7)] 43)) := (World.Since.refl _ _).alloc (Nat.le_refl _) _
  have r4 := (r2.keep t3).keep t4
  have S4 := (S2.trans (sinceMono t3 S2.size)).trans (sinceMono t4 (S2.trans (sinceMono t3 S2.size)).size)
  have LD4 : Limbs (((w1.alloc (.cells #[.bool f, .slice (some ⟨g1, 0, none⟩) n c1, .slice (some ⟨h1, 0, none⟩) m c2] 25)).alloc (.cells #[] 43)).alloc (.cells #[.int .u32 (2 + (k : Int) / 7)] 43)) (some ⟨w1.heap.size + 1 + 1, 0, none⟩) (w1.heap.size + 1 + 1) 0 1 (fun _ => 2 + k / 7) := fun j hj => ⟨rfl, by
    obtain rfl : j = 0 := by omega
    have := new_cell ((w1.alloc (.cells #[.bool f, .slice (some ⟨g1, 0, none⟩) n c1, .slice (some ⟨h1, 0, none⟩) m c2] 25)).alloc (.cells #[] 43)) (.int .u32 (2 + (k : Int) / 7)) 43 0 _ rfl
    rw [show ((w1.alloc (.cells #[.bool f, .slice (some ⟨g1, 0, none⟩) n c1, .slice (some ⟨h1, 0, none⟩) m c2] 25)).alloc (.cells #[] 43)).heap.size = w1.heap.size + 1 + 1 by simp, Addr.add_lit] at this
    simpa using this⟩
  have z4 := t4.size
  have z3 := t3.size
  have hdl : 2 + k / 7 < 4294967296 := by omega
  clear e0 e1 e2 ef0 ef1 ef2 t3 t4 C2
  have u0 := r4.c0
  have u1 := r4.c1
  have u2 := r4.c2
  have uf0 := r4.f 0
  have uf1 := r4.f 1
  have uf2 := r4.f 2
  generalize hW4 : (((w1.alloc (.cells #[.bool f, .slice (some ⟨g1, 0, none⟩) n c1, .slice (some ⟨h1, 0, none⟩) m c2] 25)).alloc (.cells #[] 43)).alloc (.cells #[.int .u32 (2 + (k : Int) / 7)] 43)) = w4 at *
  go_wp2
  have rC := ((r4.set0 (.bool false)).set1 (.slice (some ⟨w1.heap.size + 1, 0, none⟩) 0 0)).set2 (.slice (some ⟨w1.heap.size + 1 + 1, 0, none⟩) 1 1)
  refine bodyPost_ret (results_box3 rfl _ _ _ _ _ _ rfl rC) rfl ?_
  have M2 : Marked w4 _ (w.heap.size + 1) := (((Marked.refl _ _).setCell 0 (.bool false)).setCell 1 (.slice (some ⟨w1.heap.size + 1, 0, none⟩) 0 0)).setCell 2 (.slice (some ⟨w1.heap.size + 1 + 1, 0, none⟩) 1 1)
  have LD := LD4.marked M2 (fun _ => by omega)
  exact ⟨_, rfl, ⟨false, _, 0, 0, _, 1, 1, w1.heap.size + 1, w1.heap.size + 1 + 1, fun _ => 0, fun _ => 2 + k / 7, rfl, ⟨by omega, by omega, fun e => (by cases e), fun e => (by cases e), fun j hj => absurd hj (by omega), LD, fun _ _ => by omega, fun _ _ => hdl⟩, by omega, by omega, fun _ => by omega, fun _ => by omega⟩, S4.trans (M2.since (by omega))⟩

end Go.Proofs.YtklkohdcilnchaaDoor

namespace Go.Proofs.YtklkohdcilnchaaDoor
open Go.RowKit

theorem wrap64 {x : Int} (h0 : -9223372036854775808 ≤ x) (h1 : x < 9223372036854775808) : IntKind.i64.wrap x = x := by
  have h2 : IntKind.i64.bits = 64 := rfl
  have h3 : IntKind.i64.signed = true := rfl
  unfold IntKind.wrap
  simp only [h2, h3]
  simp
  split <;> omega

theorem l1Spoil_int (v : Value) (B : Nat) (k : Int) (w : World) (h0 : 0 ≤ k) (h1 : k ≤ 1000) (HS : RatS w v B 11) :
    Calls Tryd.prog 63 #[v, .int .i64 k] w fun e w' => ∃ u, e = .returned u ∧ RatS w' u w.heap.size 13 ∧ w.Since w.heap.size w' := by
  obtain ⟨j, rfl⟩ : ∃ j : Nat, k = (j : Int) := ⟨k.toNat, by omega⟩
  exact l1Spoil_any v B j w (by omega) HS

set_option maxHeartbeats 3200000 in
set_option maxRecDepth 100000 in
theorem l1DrawAny_any (c : Nat) (a : Option Addr) (b off n cap : Nat) (X : Nat → Nat) (w : World) (hn : n ≤ 1048576) (R : Rd w c a b off n cap X) (hbl : 0 < n → b < w.heap.size) :
    Calls Tryd.prog 24 #[.pointer (some ⟨c, 0, none⟩)] w fun e w' => ∃ v, e = .returned v ∧ RatS w' v w.heap.size 13 ∧ Rd w' c a b off n cap X ∧ Oth c w w' := by
  have sA : w.Since w.heap.size (w.alloc (.cells #[.bool false, .slice none 0 0, .slice none 0 0] 25)) := (World.Since.refl _ _).alloc (Nat.le_refl _) _
  have rA := Box3.new w (.bool false) (.slice none 0 0) (.slice none 0 0) 25
  have rl := R.lt
  have bl := rA.lt
  have RA := R.keep sA
  go_enter Tryd.func24, Tryd.ntmps24
  go_wp2_with fail
  generalize (w.alloc (.cells #[.bool false, .slice none 0 0, .slice none 0 0] 25)) = wA at *
  have zA := sA.size
  refine (next_any c a b off n cap X wA hn RA).mono ?_
  rintro e w1 ⟨k, rfl, hk, R1, O1⟩
  have r1 := rA.oth O1 (by omega)
  have O01 := (Oth.ofSince c sA).trans O1
  have z1 := O1.size
  clear RA O1 sA
  go_wp2_with fail
  refine (l1Zero_any w1).mono ?_
  rintro e w2 ⟨v2, rfl, ⟨x1, x2, g2, h2, rfl, N2, D2, -, -, -⟩, s2⟩
  obtain ⟨a2, q2, c2, -, rfl, -⟩ := N2
  obtain ⟨a2', q2', c2', -, rfl, -⟩ := D2
  have t3 : w2.Since w2.heap.size (w2.alloc (.cells #[.bool false, .slice a2 q2 c2, .slice a2' q2' c2'] 25)) := (World.Since.refl _ _).alloc (Nat.le_refl _) _
  have B3 := Box3.new w2 (.bool false) (.slice a2 q2 c2) (.slice a2' q2' c2') 25
  have r3 := (r1.keep s2).keep t3
  have R3 := (R1.keep s2).keep t3
  have O03 := (O01.trans (Oth.ofSince c s2)).trans (Oth.ofSince c t3)
  have z2 := s2.size
  have z3 := t3.size
  have r1l := r1.lt
  clear r1 R1 O01 s2 t3
  by_cases q : (k : Int) % 3 = 0
  · have q' : ((k : Int) % 3 == 0) = true := by simp [q]
    go_wp2_with fail
    generalize (w2.alloc (.cells #[.bool false, .slice a2 q2 c2, .slice a2' q2' c2'] 25)) = w3 at *
    generalize hcc : w2.heap.size = cc at *
    refine (l1DrawRat_any c a b off n cap X w3 hn R3 (fun h => by have := hbl h; omega)).mono ?_
    rintro e w4 ⟨v4, rfl, ⟨f4, a4, n4, c4, b4, m4, d4, g4, h4, X4, Y4, rfl, RR4, k41, k42, k43, k44⟩, R4, O4⟩
    have B4 := B3.oth O4 (by omega)
    have r4 := r3.oth O4 (by omega)
    have O04 := O03.trans O4
    have z4 := O4.size
    have b3l := B3.lt
    clear B3 r3 R3 O03 O4
    have e0 := B4.c0
    have e1 := B4.c1
    have e2 := B4.c2
    have ef0 := B4.f 0
    have ef1 := B4.f 1
    have ef2 := B4.f 2
    have M5 : Marked w4 (((w4.setCell ⟨cc, 0, none⟩ (.bool f4)).setCell ⟨cc, 1, none⟩ (.slice a4 n4 c4)).setCell ⟨cc, 2, none⟩ (.slice b4 m4 d4)) cc := (((Marked.refl w4 _).setCell 0 (.bool f4)).setCell 1 (.slice a4 n4 c4)).setCell 2 (.slice b4 m4 d4)
    have B5 := ((B4.set0 (.bool f4)).set1 (.slice a4 n4 c4)).set2 (.slice b4 m4 d4)
    have r5 := r4.marked M5 (by omega)
    have R5 := R4.marked M5 (by omega) (fun h => by have := hbl h; omega)
    have O05 := oth_new O04 M5 (by omega)
    have S4 : RatS w4 (.agg #[.bool f4, .slice a4 n4 c4, .slice b4 m4 d4]) w3.heap.size 11 := ⟨f4, a4, n4, c4, b4, m4, d4, g4, h4, X4, Y4, rfl, RR4, k41, k42, k43, k44⟩
    have S5 := S4.oth (Oth.ofMarked M5) (by omega)
    have z5 := M5.size
    clear S4 B4 r4 R4 O04 RR4
    by_cases p : (k : Int) % 9 = 8
    · exact absurd p (by omega)
    · have p' : ((k : Int) % 9 == 8) = false := by simp [p]
      have u0 := r5.c0
      have u1 := r5.c1
      have u2 := r5.c2
      have uf0 := r5.f 0
      have uf1 := r5.f 1
      have uf2 := r5.f 2
      have hne : cc ≠ w.heap.size := by omega
      have i0 := B5.c0
      have i1 := B5.c1
      have i2 := B5.c2
      go_wp2
      generalize ((w4.setCell ⟨cc, 0, none⟩ (.bool f4)).setCell ⟨cc, 1, none⟩ (.slice a4 n4 c4)).setCell ⟨cc, 2, none⟩ (.slice b4 m4 d4) = w5 at *
      have rC := ((r5.set0 (.bool f4)).set1 (.slice a4 n4 c4)).set2 (.slice b4 m4 d4)
      refine bodyPost_ret (results_box3 rfl _ _ _ _ _ _ rfl rC) rfl ?_
      have M : Marked w5 _ w.heap.size := (((Marked.refl w5 _).setCell 0 (.bool f4)).setCell 1 (.slice a4 n4 c4)).setCell 2 (.slice b4 m4 d4)
      exact ⟨_, rfl, (S5.oth (Oth.ofMarked M) (by omega)).more (by omega) (by omega), R5.marked M (by omega) (fun h => by have := hbl h; omega), oth_new O05 M (Nat.le_refl _)⟩
  · have q' : ((k : Int) % 3 == 0) = false := by simp [q]
    go_wp2_with fail
    generalize (w2.alloc (.cells #[.bool false, .slice a2 q2 c2, .slice a2' q2' c2'] 25)) = w3 at *
    generalize hcc : w2.heap.size = cc at *
    refine (l1DrawBig_any c a b off n cap X w3 hn R3 (fun h => by have := hbl h; omega)).mono ?_
    rintro e w4 ⟨v4, rfl, ⟨f4, a4, n4, c4, b4, m4, d4, g4, h4, X4, Y4, rfl, RR4, k41, k42, k43, k44⟩, R4, O4⟩
    have B4 := B3.oth O4 (by omega)
    have r4 := r3.oth O4 (by omega)
    have O04 := O03.trans O4
    have z4 := O4.size
    have b3l := B3.lt
    clear B3 r3 R3 O03 O4
    have e0 := B4.c0
    have e1 := B4.c1
    have e2 := B4.c2
    have ef0 := B4.f 0
    have ef1 := B4.f 1
    have ef2 := B4.f 2
    have M5 : Marked w4 (((w4.setCell ⟨cc, 0, none⟩ (.bool f4)).setCell ⟨cc, 1, none⟩ (.slice a4 n4 c4)).setCell ⟨cc, 2, none⟩ (.slice b4 m4 d4)) cc := (((Marked.refl w4 _).setCell 0 (.bool f4)).setCell 1 (.slice a4 n4 c4)).setCell 2 (.slice b4 m4 d4)
    have B5 := ((B4.set0 (.bool f4)).set1 (.slice a4 n4 c4)).set2 (.slice b4 m4 d4)
    have r5 := r4.marked M5 (by omega)
    have R5 := R4.marked M5 (by omega) (fun h => by have := hbl h; omega)
    have O05 := oth_new O04 M5 (by omega)
    have S4 : RatS w4 (.agg #[.bool f4, .slice a4 n4 c4, .slice b4 m4 d4]) w3.heap.size 11 := ⟨f4, a4, n4, c4, b4, m4, d4, g4, h4, X4, Y4, rfl, RR4, k41, k42, k43, k44⟩
    have S5 := S4.oth (Oth.ofMarked M5) (by omega)
    have z5 := M5.size
    clear S4 B4 r4 R4 O04 RR4
    by_cases p : (k : Int) % 9 = 8
    · have p' : ((k : Int) % 9 == 8) = true := by simp [p]
      go_wp2_with fail
      generalize ((w4.setCell ⟨cc, 0, none⟩ (.bool f4)).setCell ⟨cc, 1, none⟩ (.slice a4 n4 c4)).setCell ⟨cc, 2, none⟩ (.slice b4 m4 d4) = w5 at *
      have kk := B5.cells
      have hne1 : cc ≠ w.heap.size := by omega
      have hne2 : w.heap.size ≠ cc := by omega
      have wr1 : IntKind.i64.wrap ((k : Int) / 9) = (k : Int) / 9 := wrap64 (by omega) (by omega)
      have J1 := next_any c a b off n cap X w5.drew hn (R5.keep (since_drew (World.Since.refl _ _)))
      go_region_held3 (fun w' => w'.cell? ⟨cc, 0, none⟩ = some (.bool f4) ∧ w'.cell? ⟨cc, 1, none⟩ = some (.slice a4 n4 c4) ∧ w'.cell? ⟨cc, 2, none⟩ = some (.slice b4 m4 d4)) (go_keep)
        (first
          | (go_at_call 44
             with_reducible refine J1.mono ?_
             rintro e w6 ⟨k6, rfl, hk6, R6, O6⟩
             have O56 : Oth c w5 w6 := ⟨O6.os, O6.tape, O6.output, O6.size, O6.block⟩
             have B6 := B5.oth O56 (by omega)
             have r6 := r5.oth O56 (by omega)
             have S6 := S5.oth O56 (by omega)
             have O06 := O05.trans O56
             have z6 := O56.size
             have kk := B6.cells
             have wr2 : IntKind.i64.wrap ((k : Int) / 9 + (k6 : Int)) = (k : Int) / 9 + k6 := wrap64 (by omega) (by omega)
             have J2 := fun z h0 h1 => l1Spoil_int _ _ z w6 h0 h1 S6)
          | (go_at_call 63
             with_reducible refine (J2 _ (by first | omega | (rw [wr2]; omega)) (by first | omega | (rw [wr2]; omega))).mono ?_
             rintro e w7 ⟨v7, rfl, ⟨f7, a7, n7, c7, b7, m7, d7, g7, h7, X7, Y7, rfl, RR7, k71, k72, k73, k74⟩, s7⟩
             have r7 := r6.keep s7
             have R7 := R6.keep s7
             have O07 := O06.trans (Oth.ofSince c s7)
             have z7 := s7.size
             have kk := (B6.keep s7).cells
             have u0 := r7.c0
             have u1 := r7.c1
             have u2 := r7.c2
             have uf0 := r7.f 0
             have uf1 := r7.f 1
             have uf2 := r7.f 2))
      all_goals
        have SH : RatS w7 (.agg #[.bool f7, .slice a7 n7 c7, .slice b7 m7 d7]) w6.heap.size 13 := ⟨f7, a7, n7, c7, b7, m7, d7, g7, h7, X7, Y7, rfl, RR7, k71, k72, k73, k74⟩
        clear RR7 J1 J2
        go_wp2
        have rC := ((r7.set0 (.bool f7)).set1 (.slice a7 n7 c7)).set2 (.slice b7 m7 d7)
        refine bodyPost_ret (results_box3 rfl _ _ _ _ _ _ rfl rC) rfl ?_
        have M : Marked w7 _ w.heap.size := (((Marked.refl w7 _).setCell 0 (.bool f7)).setCell 1 (.slice a7 n7 c7)).setCell 2 (.slice b7 m7 d7)
        exact ⟨_, rfl, (SH.oth (Oth.ofMarked M) (by omega)).more (by omega) (by omega), R7.marked M (by omega) (fun h => by have := hbl h; omega), oth_new O07 M (Nat.le_refl _)⟩
    · have p' : ((k : Int) % 9 == 8) = false := by simp [p]
      have u0 := r5.c0
      have u1 := r5.c1
      have u2 := r5.c2
      have uf0 := r5.f 0
      have uf1 := r5.f 1
      have uf2 := r5.f 2
      have hne : cc ≠ w.heap.size := by omega
      have i0 := B5.c0
      have i1 := B5.c1
      have i2 := B5.c2
      go_wp2
      generalize ((w4.setCell ⟨cc, 0, none⟩ (.bool f4)).setCell ⟨cc, 1, none⟩ (.slice a4 n4 c4)).setCell ⟨cc, 2, none⟩ (.slice b4 m4 d4) = w5 at *
      have rC := ((r5.set0 (.bool f4)).set1 (.slice a4 n4 c4)).set2 (.slice b4 m4 d4)
      refine bodyPost_ret (results_box3 rfl _ _ _ _ _ _ rfl rC) rfl ?_
      have M : Marked w5 _ w.heap.size := (((Marked.refl w5 _).setCell 0 (.bool f4)).setCell 1 (.slice a4 n4 c4)).setCell 2 (.slice b4 m4 d4)
      exact ⟨_, rfl, (S5.oth (Oth.ofMarked M) (by omega)).more (by omega) (by omega), R5.marked M (by omega) (fun h => by have := hbl h; omega), oth_new O05 M (Nat.le_refl _)⟩

end Go.Proofs.YtklkohdcilnchaaDoor

namespace Go.Proofs.YtklkohdcilnchaaDoor
open Go.RowKit

set_option maxHeartbeats 1600000 in
set_option maxRecDepth 100000 in
/-- l1Inv changes the parts over. -/
theorem l1Inv_any (f : Bool) (x y : Addr) (ba oa n ca bb ob m cb : Nat) (X Y : Nat → Nat) (w : World) (hn : n ≤ 1048576) (hm : m ≤ 1048576) (hnc : n ≤ ca) (hmc : m ≤ cb) (hX : Limbs w (some x) ba oa n X) (hY : Limbs w (some y) bb ob m Y) :
    Calls Tryd.prog 59 #[.agg #[.bool f, .slice (some x) n ca, .slice (some y) m cb]] w fun e w' => ∃ a1 a2 g h c1 c2, e = .returned (.agg #[.bool f, .slice a2 m c2, .slice a1 n c1]) ∧ n ≤ c1 ∧ m ≤ c2 ∧ (a1 = none → c1 = 0) ∧ (a2 = none → c2 = 0) ∧
      Limbs w' a1 g 0 n X ∧ Limbs w' a2 h 0 m Y ∧ w.heap.size ≤ g ∧ g < h ∧ h < w'.heap.size ∧ w.Since w.heap.size w' := by
  have sA : w.Since w.heap.size ((w.alloc (.cells #[.bool f, .slice (some x) n ca, .slice (some y) m cb] 25)).alloc (.cells #[.bool false, .slice none 0 0, .slice none 0 0] 25)) := ((World.Since.refl _ _).alloc (Nat.le_refl _) _).alloc (by simp) _
  have rA : Box3 ((w.alloc (.cells #[.bool f, .slice (some x) n ca, .slice (some y) m cb] 25)).alloc (.cells #[.bool false, .slice none 0 0, .slice none 0 0] 25)) (w.heap.size + 1) (.bool false) (.slice none 0 0) (.slice none 0 0) := by
    have := Box3.new (w.alloc (.cells #[.bool f, .slice (some x) n ca, .slice (some y) m cb] 25)) (.bool false) (.slice none 0 0) (.slice none 0 0) 25
    simpa using this
  go_enter Tryd.func59, Tryd.ntmps59
  go_wp2_with fail
  generalize (w.alloc (.cells #[.bool f, .slice (some x) n ca, .slice (some y) m cb] 25)).alloc (.cells #[.bool false, .slice none 0 0, .slice none 0 0] 25) = w1 at *
  refine (l1Copy_any f x y ba oa n ca bb ob m cb X Y w1 hn hm hnc hmc (hX.keep sA) (hY.keep sA)).mono ?_
  rintro e w2 ⟨a1, a2, g, h, c1, c2, rfl, m1, m2, n1, n2, L1, L2, -, -, b1, b2, b3, s2⟩
  have S2 : w.Since w.heap.size w2 := sA.trans (sinceMono s2 sA.size)
  have z1 := rA.lt
  have t3 : w2.Since w2.heap.size (w2.alloc (.cells #[.bool f, .slice a1 n c1, .slice a2 m c2] 25)) := (World.Since.refl _ _).alloc (Nat.le_refl _) _
  have q3 := Box3.new w2 (.bool f) (.slice a1 n c1) (.slice a2 m c2) 25
  have r3 := (rA.keep s2).keep t3
  have k0 := q3.c0
  have k1 := q3.c1
  have k2 := q3.c2
  have u0 := r3.c0
  have u1 := r3.c1
  have u2 := r3.c2
  have uf0 := r3.f 0
  have uf1 := r3.f 1
  have uf2 := r3.f 2
  have S3 := S2.trans (sinceMono t3 S2.size)
  have z3 : (w2.alloc (.cells #[.bool f, .slice a1 n c1, .slice a2 m c2] 25)).heap.size = w2.heap.size + 1 := by simp
  have HZ := hide z3
  clear z3
  go_wp2
  have rC := ((r3.set0 (.bool f)).set1 (.slice a2 m c2)).set2 (.slice a1 n c1)
  have M : Marked (w2.alloc (.cells #[.bool f, .slice a1 n c1, .slice a2 m c2] 25)) _ (w.heap.size + 1) := (((Marked.refl (w2.alloc (.cells #[.bool f, .slice a1 n c1, .slice a2 m c2] 25)) _).setCell 0 (.bool f)).setCell 1 (.slice a2 m c2)).setCell 2 (.slice a1 n c1)
  refine bodyPost_ret (results_box3 rfl _ _ _ _ _ _ rfl rC) rfl ?_
  have hz := HZ.out
  have zM := M.size
  exact ⟨a1, a2, g, h, c1, c2, rfl, m1, m2, n1, n2, (L1.keep t3).marked M (fun _ => by omega), (L2.keep t3).marked M (fun _ => by omega), by omega, by omega, by omega, S3.trans (M.since (by omega))⟩

end Go.Proofs.YtklkohdcilnchaaDoor
