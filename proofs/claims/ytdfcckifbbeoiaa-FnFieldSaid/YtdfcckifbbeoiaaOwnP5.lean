import Derived.Test.YtdfcckifbbeoiaaOwnP4
import Derived.Test.YtdfcckifbbeoiaaG2P4
import Derived.Test.YtdfcckifbbeoiaaOwnP2
import Derived.Test.YtdfcckifbbeoiaaG2P6
namespace Go.Proofs.Ytdfcckifbbeoiaa
open Go.RowKit

/-- A Rat in new memory, valid or not. -/
def RatS (w : World) (v : Value) (B k : Nat) : Prop := ∃ f a n ca b m cb g h X Y, v = .agg #[.bool f, .slice a n ca, .slice b m cb] ∧ RRaw w a b g 0 n ca h 0 m cb X Y ∧ n ≤ k ∧ m ≤ k ∧ (0 < n → B ≤ g) ∧ (0 < m → B ≤ h)

theorem RatS.keep {w w' : World} {v : Value} {B k : Nat} (h : RatS w v B k) (s : w.Since w.heap.size w') : RatS w' v B k := by
  obtain ⟨f, a, n, ca, b, m, cb, g, h, X, Y, h1, h2, h3⟩ := h
  exact ⟨f, a, n, ca, b, m, cb, g, h, X, Y, h1, h2.keep s, h3⟩
theorem RatS.oth {w w' : World} {v : Value} {B k c : Nat} (h : RatS w v B k) (s : Oth c w w') (hc : c < B) : RatS w' v B k := by
  obtain ⟨f, a, n, ca, b, m, cb, g, h, X, Y, h1, h2, h3, h4, h5, h6⟩ := h
  exact ⟨f, a, n, ca, b, m, cb, g, h, X, Y, h1, ⟨h2.nc, h2.mc, h2.ac, h2.bc, h2.LX.oth s (fun h0 => by have := h5 h0; omega), h2.LY.oth s (fun h0 => by have := h6 h0; omega), h2.lX, h2.lY⟩, h3, h4, h5, h6⟩
theorem RatS.more {w : World} {v : Value} {B B' k l : Nat} (h : RatS w v B k) (hk : k ≤ l) (hB : B' ≤ B) : RatS w v B' l := by
  obtain ⟨f, a, n, ca, b, m, cb, g, h, X, Y, h1, h2, h3, h4, h5, h6⟩ := h
  exact ⟨f, a, n, ca, b, m, cb, g, h, X, Y, h1, h2, by omega, by omega, fun h0 => by have := h5 h0; omega, fun h0 => by have := h6 h0; omega⟩
theorem RatV.shape {w : World} {v : Value} {f : Bool} {N D B M k : Nat} (h : RatV w v f N D B M) (hN : N < 4294967296 ^ k) (hD : D < 4294967296 ^ k) : RatS w v B k := by
  obtain ⟨v1, v2, g, h', rfl, ⟨a, n, ca, X, rfl, n1, -, n3, n4, -, n6, n7, n8⟩, ⟨b, m, cb, Y, rfl, m1, -, m3, m4, -, m6, m7, m8⟩, b1, b2, -⟩ := h
  exact ⟨f, a, n, ca, b, m, cb, g, h', X, Y, rfl, ⟨n1, m1, n3, m3, n4, m4, n6, m6⟩, lv_lim n7 (by rw [n8]; exact hN), lv_lim m7 (by rw [m8]; exact hD), fun _ => b1, fun _ => b2⟩

theorem lt_div {a b c : Nat} (h : a < c) : a / b < c := Nat.lt_of_le_of_lt (Nat.div_le_self _ _) h

theorem Bits.oth' {w w' : World} {a : Option Addr} {b off n c : Nat} {B : Nat → Bool} (h : Bits w a b off n B) (s : Oth c w w') (hne : 0 < n → b ≠ c) : Bits w' a b off n B :=
  fun j hj => ⟨(h j hj).1, (s.cell (a := ⟨b, off + j, none⟩) (h.lt (by omega)) (hne (by omega))).trans (h j hj).2⟩
theorem Rd.marked {w w' : World} {c d : Nat} {a : Option Addr} {b off n cap : Nat} {X : Nat → Nat} (h : Rd w c a b off n cap X) (M : Marked w w' d) (hc : c ≠ d) (hb : 0 < n → b ≠ d) : Rd w' c a b off n cap X := by
  have O := Oth.ofMarked M
  obtain ⟨p, hp, h1⟩ := h.c1
  exact ⟨(O.cell (a := ⟨c, 0, none⟩) h.lt hc).trans h.c0, ⟨p, hp, (O.cell (a := ⟨c, 1, none⟩) h.lt hc).trans h1⟩, fun k => (O.frozen (a := ⟨c, k, none⟩) h.lt hc).trans (h.f k), h.code.oth O hb, h.ne⟩
theorem oth_new {w w1 w2 : World} {c d : Nat} (h : Oth c w w1) (M : Marked w1 w2 d) (hd : w.heap.size ≤ d) : Oth c w w2 :=
  ⟨M.os.trans h.os, M.tape.trans h.tape, M.output.trans h.output, by rw [M.size]; exact h.size, fun k hk hne => (M.other k (by omega)).trans (h.block k hk hne)⟩
theorem bv_lim (B : Nat → Bool) {m k : Nat} (h : m ≤ 32 * k) : bv B m < 4294967296 ^ k := by
  have h3 : (2 : Nat) ^ (32 * k) = 4294967296 ^ k := by rw [Nat.pow_mul, show (2 : Nat) ^ 32 = 4294967296 by decide]
  rw [← h3]
  exact Nat.lt_of_lt_of_le (bv_lt B m) (Nat.pow_le_pow_right (by decide) h)

set_option maxHeartbeats 1600000 in
set_option maxRecDepth 100000 in
theorem l1Frac_any (n : Int) (d0 : Int) (w : World) (h1 : -100000 ≤ n) (h2 : n ≤ 100000) (hd : 0 < d0) (hd2 : d0 ≤ 100000) :
    Calls Try.prog 131 #[.int .i64 n, .int .i64 d0] w fun e w' => ∃ v, e = .returned v ∧ RatS w' v w.heap.size 1 ∧ w.Since w.heap.size w' := by
  obtain ⟨d, rfl⟩ : ∃ d : Nat, d0 = (d : Int) := ⟨d0.toNat, by omega⟩
  have sA : w.Since w.heap.size (w.alloc (.cells #[.bool false, .slice none 0 0, .slice none 0 0] 27)) := (World.Since.refl _ _).alloc (Nat.le_refl _) _
  have rA := Box3.new w (.bool false) (.slice none 0 0) (.slice none 0 0) 27
  by_cases hn : n < 0
  · obtain ⟨m, hm, hm0⟩ : ∃ m : Nat, n = -(m : Int) ∧ 0 < m := ⟨n.natAbs, by omega, by omega⟩
    subst hm
    go_enter Try.func131, Try.ntmps131
    go_wp2_with fail
    generalize (w.alloc (.cells #[.bool false, .slice none 0 0, .slice none 0 0] 27)) = wA at *
    refine (l1MakeSmall_any true m d wA (by omega) (by omega) (by omega)).mono ?_
    rintro e w6 ⟨v, rfl, HV, s6⟩
    have HS := HV.shape (k := 1) (lt_div (by omega)) (lt_div (by omega))
    have r6 := rA.keep s6
    have rl := rA.lt
    have S6 : w.Since w.heap.size w6 := sA.trans (sinceMono s6 sA.size)
    clear HV
    obtain ⟨f6, a6, q6, c6, b6, m6, d6, g6, h6, X6, Y6, rfl, RR6, k61, k62, k63, k64⟩ := HS
    have u0 := r6.c0
    have u1 := r6.c1
    have u2 := r6.c2
    have uf0 := r6.f 0
    have uf1 := r6.f 1
    have uf2 := r6.f 2
    go_wp2
    have rC := ((r6.set0 (.bool f6)).set1 (.slice a6 q6 c6)).set2 (.slice b6 m6 d6)
    refine bodyPost_ret (results_box3 rfl _ _ _ _ _ _ rfl rC) rfl ?_
    have M : Marked w6 _ w.heap.size := (((Marked.refl w6 _).setCell 0 (.bool f6)).setCell 1 (.slice a6 q6 c6)).setCell 2 (.slice b6 m6 d6)
    have zM := M.size
    have SH : RatS w6 (.agg #[.bool f6, .slice a6 q6 c6, .slice b6 m6 d6]) _ _ := ⟨f6, a6, q6, c6, b6, m6, d6, g6, h6, X6, Y6, rfl, RR6, k61, k62, k63, k64⟩
    exact ⟨_, rfl, (SH.oth (Oth.ofMarked M) (by omega)).more (Nat.le_refl _) (by omega), S6.trans (M.since (Nat.le_refl _))⟩
  · obtain ⟨m, hm⟩ : ∃ m : Nat, n = (m : Int) := ⟨n.toNat, by omega⟩
    subst hm
    go_enter Try.func131, Try.ntmps131
    go_wp2_with fail
    generalize (w.alloc (.cells #[.bool false, .slice none 0 0, .slice none 0 0] 27)) = wA at *
    refine (l1MakeSmall_any false m d wA (by omega) (by omega) (by omega)).mono ?_
    rintro e w6 ⟨v, rfl, HV, s6⟩
    have HS := HV.shape (k := 1) (lt_div (by omega)) (lt_div (by omega))
    have r6 := rA.keep s6
    have rl := rA.lt
    have S6 : w.Since w.heap.size w6 := sA.trans (sinceMono s6 sA.size)
    clear HV
    obtain ⟨f6, a6, q6, c6, b6, m6, d6, g6, h6, X6, Y6, rfl, RR6, k61, k62, k63, k64⟩ := HS
    have u0 := r6.c0
    have u1 := r6.c1
    have u2 := r6.c2
    have uf0 := r6.f 0
    have uf1 := r6.f 1
    have uf2 := r6.f 2
    go_wp2
    have rC := ((r6.set0 (.bool f6)).set1 (.slice a6 q6 c6)).set2 (.slice b6 m6 d6)
    refine bodyPost_ret (results_box3 rfl _ _ _ _ _ _ rfl rC) rfl ?_
    have M : Marked w6 _ w.heap.size := (((Marked.refl w6 _).setCell 0 (.bool f6)).setCell 1 (.slice a6 q6 c6)).setCell 2 (.slice b6 m6 d6)
    have zM := M.size
    have SH : RatS w6 (.agg #[.bool f6, .slice a6 q6 c6, .slice b6 m6 d6]) _ _ := ⟨f6, a6, q6, c6, b6, m6, d6, g6, h6, X6, Y6, rfl, RR6, k61, k62, k63, k64⟩
    exact ⟨_, rfl, (SH.oth (Oth.ofMarked M) (by omega)).more (Nat.le_refl _) (by omega), S6.trans (M.since (Nat.le_refl _))⟩

set_option maxHeartbeats 1600000 in
set_option maxRecDepth 100000 in
theorem l1DrawBig_any (c : Nat) (a : Option Addr) (b off n cap : Nat) (X : Nat → Nat) (w : World) (hn : n ≤ 1048576) (R : Rd w c a b off n cap X) (hbl : 0 < n → b < w.heap.size) :
    Calls Try.prog 108 #[.pointer (some ⟨c, 0, none⟩)] w fun e w' => ∃ v, e = .returned v ∧ RatS w' v w.heap.size 11 ∧ Rd w' c a b off n cap X ∧ Oth c w w' := by
  have sA : w.Since w.heap.size (w.alloc (.cells #[.bool false, .slice none 0 0, .slice none 0 0] 27)) := (World.Since.refl _ _).alloc (Nat.le_refl _) _
  have rA := Box3.new w (.bool false) (.slice none 0 0) (.slice none 0 0) 27
  have rl := R.lt
  have bl := rA.lt
  have RA := R.keep sA
  go_enter Try.func108, Try.ntmps108
  go_wp2_with fail
  generalize (w.alloc (.cells #[.bool false, .slice none 0 0, .slice none 0 0] 27)) = wA at *
  have zA := sA.size
  refine (next_any c a b off n cap X wA hn RA).mono ?_
  rintro e w1 ⟨k, rfl, hk, R1, O1⟩
  have r1 := rA.oth O1 (by omega)
  have O01 := (Oth.ofSince c sA).trans O1
  have z1 := O1.size
  clear RA O1
  go_wp2_with fail
  refine (l1DrawNat_any c a b off n cap X w1 hn R1 (fun h => by have := hbl h; omega)).mono ?_
  rintro e w2 ⟨g1, t1, c1, D1, rfl, k11, k12, L1, l1, k13, k14, R2, O2⟩
  have r2 := r1.oth O2 (by omega)
  have O02 := O01.trans O2
  have z2 := O2.size
  clear R1 r1 O2 O01
  go_wp2_with fail
  refine (l1Bits_any (some ⟨g1, 0, none⟩) g1 0 t1 c1 D1 w2 (by omega) L1 l1).mono ?_
  rintro e w3 ⟨a3, g3, m3, c3, B3, rfl, k31, k32, L3, k33, k34, e3, s3⟩
  have r3 := r2.keep s3
  have R3 := R2.keep s3
  have O03 := O02.trans (Oth.ofSince c s3)
  have z3 := s3.size
  have HB3 := hide (bv_lim B3 (k := 11) (show m3 ≤ 32 * 11 by omega))
  have h3g : 0 < m3 → c ≠ g3 := fun h => by have := k33 h; omega
  clear R2 r2 O02 k33 e3 L1
  go_wp2_with fail
  refine (l1DrawNat_any c a b off n cap X w3 hn R3 (fun h => by have := hbl h; omega)).mono ?_
  rintro e w4 ⟨g4, t4, c4, D4, rfl, k41, k42, L4, l4, k43, k44, R4, O4⟩
  have r4 := r3.oth O4 (by omega)
  have O04 := O03.trans O4
  have z4 := O4.size
  have T4 : Tr w4 (.slice a3 m3 c3) m3 B3 := ⟨a3, g3, 0, c3, rfl, k31, L3.oth' O4 (fun h => (h3g h).symm), k34⟩
  clear R3 r3 O4 O03 L3 k34
  go_wp2_with fail
  refine (l1Bits_any (some ⟨g4, 0, none⟩) g4 0 t4 c4 D4 w4 (by omega) L4 l4).mono ?_
  rintro e w5 ⟨a5, g5, m5, c5, B5, rfl, k51, k52, L5, -, k54, e5, s5⟩
  have T5 : Tr w5 (.slice a5 m5 c5) m5 B5 := ⟨a5, g5, 0, c5, rfl, k51, L5, k54⟩
  have r5 := r4.keep s5
  have R5 := R4.keep s5
  have T53 := T4.keep s5
  have O05 := O04.trans (Oth.ofSince c s5)
  have z5 := s5.size
  have HB5 := hide (bv_lim B5 (k := 11) (show m5 ≤ 32 * 11 by omega))
  clear R4 r4 O04 L5 k54 e5 L4 T4
  by_cases h0 : m5 = 0
  · subst h0
    go_wp2_with fail
    refine (l1BitsOf_any 1 _ (by decide)).mono ?_
    rintro e w6 ⟨v6, t6, B6, rfl, k6, T6, e6, s6⟩
    have r6 := r5.keep s6
    have R6 := R5.keep s6
    have T63 := T53.keep s6
    have O06 := O05.trans (Oth.ofSince c s6)
    have z6 := s6.size
    have JM := fun ng => l1Make_any ng _ _ m3 t6 B3 B6 w6 (by omega) (by omega) T63 T6 (by rw [e6]; decide)
    rw [e6] at JM
    clear e6 T6 T63 T53 R5 r5 O05
    go_wp2_with fail
    refine (JM _).mono ?_
    clear JM
    rintro e w7 ⟨v, rfl, HV, s7⟩
    have HS := HV.shape (k := 11) (lt_div HB3.out) (lt_div (by decide))
    have r7 := r6.keep s7
    have R7 := R6.keep s7
    have O07 := O06.trans (Oth.ofSince c s7)
    have z7 := s7.size
    clear HV s7 r6 R6 O06
    obtain ⟨f6, a6, q6, c6, b6, m6, d6, g6, h6, X6, Y6, rfl, RR6, k61, k62, k63, k64⟩ := HS
    have u0 := r7.c0
    have u1 := r7.c1
    have u2 := r7.c2
    have uf0 := r7.f 0
    have uf1 := r7.f 1
    have uf2 := r7.f 2
    go_wp2
    have rC := ((r7.set0 (.bool f6)).set1 (.slice a6 q6 c6)).set2 (.slice b6 m6 d6)
    refine bodyPost_ret (results_box3 rfl _ _ _ _ _ _ rfl rC) rfl ?_
    have M : Marked w7 _ w.heap.size := (((Marked.refl w7 _).setCell 0 (.bool f6)).setCell 1 (.slice a6 q6 c6)).setCell 2 (.slice b6 m6 d6)
    have zM := M.size
    have SH : RatS w7 (.agg #[.bool f6, .slice a6 q6 c6, .slice b6 m6 d6]) _ _ := ⟨f6, a6, q6, c6, b6, m6, d6, g6, h6, X6, Y6, rfl, RR6, k61, k62, k63, k64⟩
    exact ⟨_, rfl, (SH.oth (Oth.ofMarked M) (by omega)).more (Nat.le_refl _) (by omega), R7.marked M (by omega) (fun h => by have := hbl h; omega), oth_new O07 M (Nat.le_refl _)⟩
  · have h0' : ((m5 : Int) == 0) = false := by simp; omega
    have hp := bv_pos (Nat.pos_of_ne_zero h0) (by obtain ⟨_, _, _, _, h1, _, _, h4⟩ := T5; exact h4 (Nat.pos_of_ne_zero h0))
    have JM := fun ng => l1Make_any ng _ _ m3 m5 B3 B5 w5 (by omega) (by omega) T53 T5 hp
    clear hp T5 T53
    go_wp2_with fail
    refine (JM _).mono ?_
    clear JM
    rintro e w7 ⟨v, rfl, HV, s7⟩
    have HS := HV.shape (k := 11) (lt_div HB3.out) (lt_div HB5.out)
    have r7 := r5.keep s7
    have R7 := R5.keep s7
    have O07 := O05.trans (Oth.ofSince c s7)
    have z7 := s7.size
    clear HV s7 r5 R5 O05
    obtain ⟨f6, a6, q6, c6, b6, m6, d6, g6, h6, X6, Y6, rfl, RR6, k61, k62, k63, k64⟩ := HS
    have u0 := r7.c0
    have u1 := r7.c1
    have u2 := r7.c2
    have uf0 := r7.f 0
    have uf1 := r7.f 1
    have uf2 := r7.f 2
    go_wp2
    have rC := ((r7.set0 (.bool f6)).set1 (.slice a6 q6 c6)).set2 (.slice b6 m6 d6)
    refine bodyPost_ret (results_box3 rfl _ _ _ _ _ _ rfl rC) rfl ?_
    have M : Marked w7 _ w.heap.size := (((Marked.refl w7 _).setCell 0 (.bool f6)).setCell 1 (.slice a6 q6 c6)).setCell 2 (.slice b6 m6 d6)
    have zM := M.size
    have SH : RatS w7 (.agg #[.bool f6, .slice a6 q6 c6, .slice b6 m6 d6]) _ _ := ⟨f6, a6, q6, c6, b6, m6, d6, g6, h6, X6, Y6, rfl, RR6, k61, k62, k63, k64⟩
    exact ⟨_, rfl, (SH.oth (Oth.ofMarked M) (by omega)).more (Nat.le_refl _) (by omega), R7.marked M (by omega) (fun h => by have := hbl h; omega), oth_new O07 M (Nat.le_refl _)⟩

set_option maxHeartbeats 1600000 in
set_option maxRecDepth 100000 in
theorem l1DrawRat_any (c : Nat) (a : Option Addr) (b off n cap : Nat) (X : Nat → Nat) (w : World) (hn : n ≤ 1048576) (R : Rd w c a b off n cap X) (hbl : 0 < n → b < w.heap.size) :
    Calls Try.prog 107 #[.pointer (some ⟨c, 0, none⟩)] w fun e w' => ∃ v, e = .returned v ∧ RatS w' v w.heap.size 11 ∧ Rd w' c a b off n cap X ∧ Oth c w w' := by
  have sA : w.Since w.heap.size (w.alloc (.cells #[.bool false, .slice none 0 0, .slice none 0 0] 27)) := (World.Since.refl _ _).alloc (Nat.le_refl _) _
  have rA := Box3.new w (.bool false) (.slice none 0 0) (.slice none 0 0) 27
  have rl := R.lt
  have bl := rA.lt
  have RA := R.keep sA
  go_enter Try.func107, Try.ntmps107
  go_wp2_with fail
  generalize (w.alloc (.cells #[.bool false, .slice none 0 0, .slice none 0 0] 27)) = wA at *
  have zA := sA.size
  refine (next_any c a b off n cap X wA hn RA).mono ?_
  rintro e w1 ⟨k, rfl, hk, R1, O1⟩
  have r1 := rA.oth O1 (by omega)
  have O01 := (Oth.ofSince c sA).trans O1
  have z1 := O1.size
  clear RA O1 sA
  by_cases q1 : (252 : Int) ≤ k
  · go_wp2_with fail
    refine (l1DrawBig_any c a b off n cap X w1 hn R1 (fun h => by have := hbl h; omega)).mono ?_
    rintro e w7 ⟨v, rfl, HS, R7, O7⟩
    have r7 := r1.oth O7 (by omega)
    have O07 := O01.trans O7
    have z7 := O7.size
    clear O7
    obtain ⟨f6, a6, q6, c6, b6, m6, d6, g6, h6, X6, Y6, rfl, RR6, k61, k62, k63, k64⟩ := HS
    have u0 := r7.c0
    have u1 := r7.c1
    have u2 := r7.c2
    have uf0 := r7.f 0
    have uf1 := r7.f 1
    have uf2 := r7.f 2
    go_wp2
    have rC := ((r7.set0 (.bool f6)).set1 (.slice a6 q6 c6)).set2 (.slice b6 m6 d6)
    refine bodyPost_ret (results_box3 rfl _ _ _ _ _ _ rfl rC) rfl ?_
    have M : Marked w7 _ w.heap.size := (((Marked.refl w7 _).setCell 0 (.bool f6)).setCell 1 (.slice a6 q6 c6)).setCell 2 (.slice b6 m6 d6)
    have zM := M.size
    have SH : RatS w7 (.agg #[.bool f6, .slice a6 q6 c6, .slice b6 m6 d6]) _ _ := ⟨f6, a6, q6, c6, b6, m6, d6, g6, h6, X6, Y6, rfl, RR6, k61, k62, k63, k64⟩
    exact ⟨_, rfl, (SH.oth (Oth.ofMarked M) (by omega)).more (by omega) (by omega), R7.marked M (by omega) (fun h => by have := hbl h; omega), oth_new O07 M (Nat.le_refl _)⟩
  by_cases q2 : (232 : Int) ≤ k
  · go_wp2_with fail
    refine (next_any c a b off n cap X w1 hn R1).mono ?_
    rintro e w2 ⟨k2, rfl, hk2, R2, O2⟩
    have r2 := r1.oth O2 (by omega)
    have O02 := O01.trans O2
    have z2 := O2.size
    clear R1 r1 O01 O2
    go_wp2_with fail
    refine (next_any c a b off n cap X w2 hn R2).mono ?_
    rintro e w3 ⟨k3, rfl, hk3, R3, O3⟩
    have r3 := r2.oth O3 (by omega)
    have O03 := O02.trans O3
    have z3 := O3.size
    clear R2 r2 O02 O3
    go_wp2_with fail
    refine (l1Frac_any _ _ w3 (by omega) (by omega) (by omega) (by omega)).mono ?_
    rintro e w7 ⟨v, rfl, HS, s7⟩
    have r7 := r3.keep s7
    have R7 := R3.keep s7
    have O07 := O03.trans (Oth.ofSince c s7)
    have z7 := s7.size
    clear s7
    obtain ⟨f6, a6, q6, c6, b6, m6, d6, g6, h6, X6, Y6, rfl, RR6, k61, k62, k63, k64⟩ := HS
    have u0 := r7.c0
    have u1 := r7.c1
    have u2 := r7.c2
    have uf0 := r7.f 0
    have uf1 := r7.f 1
    have uf2 := r7.f 2
    go_wp2
    have rC := ((r7.set0 (.bool f6)).set1 (.slice a6 q6 c6)).set2 (.slice b6 m6 d6)
    refine bodyPost_ret (results_box3 rfl _ _ _ _ _ _ rfl rC) rfl ?_
    have M : Marked w7 _ w.heap.size := (((Marked.refl w7 _).setCell 0 (.bool f6)).setCell 1 (.slice a6 q6 c6)).setCell 2 (.slice b6 m6 d6)
    have zM := M.size
    have SH : RatS w7 (.agg #[.bool f6, .slice a6 q6 c6, .slice b6 m6 d6]) _ _ := ⟨f6, a6, q6, c6, b6, m6, d6, g6, h6, X6, Y6, rfl, RR6, k61, k62, k63, k64⟩
    exact ⟨_, rfl, (SH.oth (Oth.ofMarked M) (by omega)).more (by omega) (by omega), R7.marked M (by omega) (fun h => by have := hbl h; omega), oth_new O07 M (Nat.le_refl _)⟩
  by_cases q3 : (128 : Int) ≤ k
  · go_wp2_with fail
    refine (l1Frac_any _ _ w1 (by omega) (by omega) (by omega) (by omega)).mono ?_
    rintro e w7 ⟨v, rfl, HS, s7⟩
    have r7 := r1.keep s7
    have R7 := R1.keep s7
    have O07 := O01.trans (Oth.ofSince c s7)
    have z7 := s7.size
    clear s7
    obtain ⟨f6, a6, q6, c6, b6, m6, d6, g6, h6, X6, Y6, rfl, RR6, k61, k62, k63, k64⟩ := HS
    have u0 := r7.c0
    have u1 := r7.c1
    have u2 := r7.c2
    have uf0 := r7.f 0
    have uf1 := r7.f 1
    have uf2 := r7.f 2
    go_wp2
    have rC := ((r7.set0 (.bool f6)).set1 (.slice a6 q6 c6)).set2 (.slice b6 m6 d6)
    refine bodyPost_ret (results_box3 rfl _ _ _ _ _ _ rfl rC) rfl ?_
    have M : Marked w7 _ w.heap.size := (((Marked.refl w7 _).setCell 0 (.bool f6)).setCell 1 (.slice a6 q6 c6)).setCell 2 (.slice b6 m6 d6)
    have zM := M.size
    have SH : RatS w7 (.agg #[.bool f6, .slice a6 q6 c6, .slice b6 m6 d6]) _ _ := ⟨f6, a6, q6, c6, b6, m6, d6, g6, h6, X6, Y6, rfl, RR6, k61, k62, k63, k64⟩
    exact ⟨_, rfl, (SH.oth (Oth.ofMarked M) (by omega)).more (by omega) (by omega), R7.marked M (by omega) (fun h => by have := hbl h; omega), oth_new O07 M (Nat.le_refl _)⟩
  by_cases q4 : (64 : Int) ≤ k
  · go_wp2_with fail
    refine (l1Frac_any _ _ w1 (by omega) (by omega) (by omega) (by omega)).mono ?_
    rintro e w7 ⟨v, rfl, HS, s7⟩
    have r7 := r1.keep s7
    have R7 := R1.keep s7
    have O07 := O01.trans (Oth.ofSince c s7)
    have z7 := s7.size
    clear s7
    obtain ⟨f6, a6, q6, c6, b6, m6, d6, g6, h6, X6, Y6, rfl, RR6, k61, k62, k63, k64⟩ := HS
    have u0 := r7.c0
    have u1 := r7.c1
    have u2 := r7.c2
    have uf0 := r7.f 0
    have uf1 := r7.f 1
    have uf2 := r7.f 2
    go_wp2
    have rC := ((r7.set0 (.bool f6)).set1 (.slice a6 q6 c6)).set2 (.slice b6 m6 d6)
    refine bodyPost_ret (results_box3 rfl _ _ _ _ _ _ rfl rC) rfl ?_
    have M : Marked w7 _ w.heap.size := (((Marked.refl w7 _).setCell 0 (.bool f6)).setCell 1 (.slice a6 q6 c6)).setCell 2 (.slice b6 m6 d6)
    have zM := M.size
    have SH : RatS w7 (.agg #[.bool f6, .slice a6 q6 c6, .slice b6 m6 d6]) _ _ := ⟨f6, a6, q6, c6, b6, m6, d6, g6, h6, X6, Y6, rfl, RR6, k61, k62, k63, k64⟩
    exact ⟨_, rfl, (SH.oth (Oth.ofMarked M) (by omega)).more (by omega) (by omega), R7.marked M (by omega) (fun h => by have := hbl h; omega), oth_new O07 M (Nat.le_refl _)⟩
  by_cases q5 : (44 : Int) ≤ k
  · go_wp2_with fail
    refine (l1Frac_any _ _ w1 (by omega) (by omega) (by omega) (by omega)).mono ?_
    rintro e w7 ⟨v, rfl, HS, s7⟩
    have r7 := r1.keep s7
    have R7 := R1.keep s7
    have O07 := O01.trans (Oth.ofSince c s7)
    have z7 := s7.size
    clear s7
    obtain ⟨f6, a6, q6, c6, b6, m6, d6, g6, h6, X6, Y6, rfl, RR6, k61, k62, k63, k64⟩ := HS
    have u0 := r7.c0
    have u1 := r7.c1
    have u2 := r7.c2
    have uf0 := r7.f 0
    have uf1 := r7.f 1
    have uf2 := r7.f 2
    go_wp2
    have rC := ((r7.set0 (.bool f6)).set1 (.slice a6 q6 c6)).set2 (.slice b6 m6 d6)
    refine bodyPost_ret (results_box3 rfl _ _ _ _ _ _ rfl rC) rfl ?_
    have M : Marked w7 _ w.heap.size := (((Marked.refl w7 _).setCell 0 (.bool f6)).setCell 1 (.slice a6 q6 c6)).setCell 2 (.slice b6 m6 d6)
    have zM := M.size
    have SH : RatS w7 (.agg #[.bool f6, .slice a6 q6 c6, .slice b6 m6 d6]) _ _ := ⟨f6, a6, q6, c6, b6, m6, d6, g6, h6, X6, Y6, rfl, RR6, k61, k62, k63, k64⟩
    exact ⟨_, rfl, (SH.oth (Oth.ofMarked M) (by omega)).more (by omega) (by omega), R7.marked M (by omega) (fun h => by have := hbl h; omega), oth_new O07 M (Nat.le_refl _)⟩
  by_cases q6 : (22 : Int) ≤ k
  · go_wp2_with fail
    refine (l1Frac_any _ _ w1 (by omega) (by omega) (by omega) (by omega)).mono ?_
    rintro e w7 ⟨v, rfl, HS, s7⟩
    have r7 := r1.keep s7
    have R7 := R1.keep s7
    have O07 := O01.trans (Oth.ofSince c s7)
    have z7 := s7.size
    clear s7
    obtain ⟨f6, a6, q6, c6, b6, m6, d6, g6, h6, X6, Y6, rfl, RR6, k61, k62, k63, k64⟩ := HS
    have u0 := r7.c0
    have u1 := r7.c1
    have u2 := r7.c2
    have uf0 := r7.f 0
    have uf1 := r7.f 1
    have uf2 := r7.f 2
    go_wp2
    have rC := ((r7.set0 (.bool f6)).set1 (.slice a6 q6 c6)).set2 (.slice b6 m6 d6)
    refine bodyPost_ret (results_box3 rfl _ _ _ _ _ _ rfl rC) rfl ?_
    have M : Marked w7 _ w.heap.size := (((Marked.refl w7 _).setCell 0 (.bool f6)).setCell 1 (.slice a6 q6 c6)).setCell 2 (.slice b6 m6 d6)
    have zM := M.size
    have SH : RatS w7 (.agg #[.bool f6, .slice a6 q6 c6, .slice b6 m6 d6]) _ _ := ⟨f6, a6, q6, c6, b6, m6, d6, g6, h6, X6, Y6, rfl, RR6, k61, k62, k63, k64⟩
    exact ⟨_, rfl, (SH.oth (Oth.ofMarked M) (by omega)).more (by omega) (by omega), R7.marked M (by omega) (fun h => by have := hbl h; omega), oth_new O07 M (Nat.le_refl _)⟩
  by_cases q7 : (12 : Int) ≤ k
  · go_wp2_with fail
    refine (l1Frac_any _ _ w1 (by omega) (by omega) (by omega) (by omega)).mono ?_
    rintro e w7 ⟨v, rfl, HS, s7⟩
    have r7 := r1.keep s7
    have R7 := R1.keep s7
    have O07 := O01.trans (Oth.ofSince c s7)
    have z7 := s7.size
    clear s7
    obtain ⟨f6, a6, q6, c6, b6, m6, d6, g6, h6, X6, Y6, rfl, RR6, k61, k62, k63, k64⟩ := HS
    have u0 := r7.c0
    have u1 := r7.c1
    have u2 := r7.c2
    have uf0 := r7.f 0
    have uf1 := r7.f 1
    have uf2 := r7.f 2
    go_wp2
    have rC := ((r7.set0 (.bool f6)).set1 (.slice a6 q6 c6)).set2 (.slice b6 m6 d6)
    refine bodyPost_ret (results_box3 rfl _ _ _ _ _ _ rfl rC) rfl ?_
    have M : Marked w7 _ w.heap.size := (((Marked.refl w7 _).setCell 0 (.bool f6)).setCell 1 (.slice a6 q6 c6)).setCell 2 (.slice b6 m6 d6)
    have zM := M.size
    have SH : RatS w7 (.agg #[.bool f6, .slice a6 q6 c6, .slice b6 m6 d6]) _ _ := ⟨f6, a6, q6, c6, b6, m6, d6, g6, h6, X6, Y6, rfl, RR6, k61, k62, k63, k64⟩
    exact ⟨_, rfl, (SH.oth (Oth.ofMarked M) (by omega)).more (by omega) (by omega), R7.marked M (by omega) (fun h => by have := hbl h; omega), oth_new O07 M (Nat.le_refl _)⟩
  go_wp2_with fail
  refine (l1Zero_any w1).mono ?_
  rintro e w7 ⟨v, rfl, HV, s7⟩
  have HS := HV.shape (k := 1) (by decide) (by decide)
  have r7 := r1.keep s7
  have R7 := R1.keep s7
  have O07 := O01.trans (Oth.ofSince c s7)
  have z7 := s7.size
  clear s7
  obtain ⟨f6, a6, q6, c6, b6, m6, d6, g6, h6, X6, Y6, rfl, RR6, k61, k62, k63, k64⟩ := HS
  have u0 := r7.c0
  have u1 := r7.c1
  have u2 := r7.c2
  have uf0 := r7.f 0
  have uf1 := r7.f 1
  have uf2 := r7.f 2
  go_wp2
  have rC := ((r7.set0 (.bool f6)).set1 (.slice a6 q6 c6)).set2 (.slice b6 m6 d6)
  refine bodyPost_ret (results_box3 rfl _ _ _ _ _ _ rfl rC) rfl ?_
  have M : Marked w7 _ w.heap.size := (((Marked.refl w7 _).setCell 0 (.bool f6)).setCell 1 (.slice a6 q6 c6)).setCell 2 (.slice b6 m6 d6)
  have zM := M.size
  have SH : RatS w7 (.agg #[.bool f6, .slice a6 q6 c6, .slice b6 m6 d6]) _ _ := ⟨f6, a6, q6, c6, b6, m6, d6, g6, h6, X6, Y6, rfl, RR6, k61, k62, k63, k64⟩
  exact ⟨_, rfl, (SH.oth (Oth.ofMarked M) (by omega)).more (by omega) (by omega), R7.marked M (by omega) (fun h => by have := hbl h; omega), oth_new O07 M (Nat.le_refl _)⟩

end Go.Proofs.Ytdfcckifbbeoiaa

namespace Go.Proofs.Ytdfcckifbbeoiaa
open Go.RowKit

set_option maxHeartbeats 1600000 in
set_option maxRecDepth 100000 in
/-- l1Inv changes the parts over. -/
theorem l1Inv_any (f : Bool) (x y : Addr) (ba oa n ca bb ob m cb : Nat) (X Y : Nat → Nat) (w : World) (hn : n ≤ 1048576) (hm : m ≤ 1048576) (hnc : n ≤ ca) (hmc : m ≤ cb) (hX : Limbs w (some x) ba oa n X) (hY : Limbs w (some y) bb ob m Y) :
    Calls Try.prog 80 #[.agg #[.bool f, .slice (some x) n ca, .slice (some y) m cb]] w fun e w' => ∃ a1 a2 g h c1 c2, e = .returned (.agg #[.bool f, .slice a2 m c2, .slice a1 n c1]) ∧ n ≤ c1 ∧ m ≤ c2 ∧ (a1 = none → c1 = 0) ∧ (a2 = none → c2 = 0) ∧
      Limbs w' a1 g 0 n X ∧ Limbs w' a2 h 0 m Y ∧ w.heap.size ≤ g ∧ g < h ∧ h < w'.heap.size ∧ w.Since w.heap.size w' := by
  have sA : w.Since w.heap.size ((w.alloc (.cells #[.bool f, .slice (some x) n ca, .slice (some y) m cb] 27)).alloc (.cells #[.bool false, .slice none 0 0, .slice none 0 0] 27)) := ((World.Since.refl _ _).alloc (Nat.le_refl _) _).alloc (by simp) _
  have rA : Box3 ((w.alloc (.cells #[.bool f, .slice (some x) n ca, .slice (some y) m cb] 27)).alloc (.cells #[.bool false, .slice none 0 0, .slice none 0 0] 27)) (w.heap.size + 1) (.bool false) (.slice none 0 0) (.slice none 0 0) := by
    have := Box3.new (w.alloc (.cells #[.bool f, .slice (some x) n ca, .slice (some y) m cb] 27)) (.bool false) (.slice none 0 0) (.slice none 0 0) 27
    simpa using this
  go_enter Try.func80, Try.ntmps80
  go_wp2_with fail
  generalize (w.alloc (.cells #[.bool f, .slice (some x) n ca, .slice (some y) m cb] 27)).alloc (.cells #[.bool false, .slice none 0 0, .slice none 0 0] 27) = w1 at *
  refine (l1Copy_any f x y ba oa n ca bb ob m cb X Y w1 hn hm hnc hmc (hX.keep sA) (hY.keep sA)).mono ?_
  rintro e w2 ⟨a1, a2, g, h, c1, c2, rfl, m1, m2, n1, n2, L1, L2, -, -, b1, b2, b3, s2⟩
  have S2 : w.Since w.heap.size w2 := sA.trans (sinceMono s2 sA.size)
  have z1 := rA.lt
  have t3 : w2.Since w2.heap.size (w2.alloc (.cells #[.bool f, .slice a1 n c1, .slice a2 m c2] 27)) := (World.Since.refl _ _).alloc (Nat.le_refl _) _
  have q3 := Box3.new w2 (.bool f) (.slice a1 n c1) (.slice a2 m c2) 27
  have r3 := (rA.keep s2).keep t3
  have k0 := q3.c0
  have k1 := q3.c1
  have k2 := q3.c2
  have u0 := r3.c0
  have u1 := r3.c1
  have u2 := r3.c2
  have uf0 := r3.f 0
  have uf1 := r3.f 1
  have uf2 := r3.f 2
  have S3 := S2.trans (sinceMono t3 S2.size)
  have z3 : (w2.alloc (.cells #[.bool f, .slice a1 n c1, .slice a2 m c2] 27)).heap.size = w2.heap.size + 1 := by simp
  have HZ := hide z3
  clear z3
  go_wp2
  have rC := ((r3.set0 (.bool f)).set1 (.slice a2 m c2)).set2 (.slice a1 n c1)
  have M : Marked (w2.alloc (.cells #[.bool f, .slice a1 n c1, .slice a2 m c2] 27)) _ (w.heap.size + 1) := (((Marked.refl (w2.alloc (.cells #[.bool f, .slice a1 n c1, .slice a2 m c2] 27)) _).setCell 0 (.bool f)).setCell 1 (.slice a2 m c2)).setCell 2 (.slice a1 n c1)
  refine bodyPost_ret (results_box3 rfl _ _ _ _ _ _ rfl rC) rfl ?_
  have hz := HZ.out
  have zM := M.size
  exact ⟨a1, a2, g, h, c1, c2, rfl, m1, m2, n1, n2, (L1.keep t3).marked M (fun _ => by omega), (L2.keep t3).marked M (fun _ => by omega), by omega, by omega, by omega, S3.trans (M.since (by omega))⟩

end Go.Proofs.Ytdfcckifbbeoiaa

namespace Go.Proofs.Ytdfcckifbbeoiaa
open Go.RowKit

/-- A whole number as a Rat: its lists are not nil. -/
def WholeV (w : World) (v : Value) (N M : Nat) : Prop :=
  ∃ g n c h X Y, v = .agg #[.bool false, .slice (some ⟨g, 0, none⟩) n c, .slice (some ⟨h, 0, none⟩) 1 1] ∧ n ≤ c ∧ n ≤ M ∧ Limbs w (some ⟨g, 0, none⟩) g 0 n X ∧ (∀ j, j < n → X j < 4294967296) ∧ (0 < n → X (n - 1) ≠ 0) ∧ lv X n = N ∧ Limbs w (some ⟨h, 0, none⟩) h 0 1 Y ∧ Y 0 = 1

set_option maxHeartbeats 1600000 in
set_option maxRecDepth 100000 in
theorem lwWhole_any (a : Option Addr) (b n cap : Nat) (X : Nat → Nat) (w : World) (hn : n ≤ 1024) (hnc : n ≤ cap) (hX : Limbs w a b 0 n X) (lX : ∀ j, j < n → X j < 4294967296) :
    Calls Try.prog 13 #[.slice a n cap] w fun e w' => ∃ v, e = .returned v ∧ WholeV w' v (lv X n) n ∧ w.Since w.heap.size w' := by
  obtain ⟨i0, hi, hz0, hz1, hz2⟩ := info_parts Try.info35
  have sA : w.Since w.heap.size (w.alloc (.cells #[.bool false, .slice none 0 0, .slice none 0 0] 27)) := (World.Since.refl _ _).alloc (Nat.le_refl _) _
  have rA := Box3.new w (.bool false) (.slice none 0 0) (.slice none 0 0) 27
  have tB : (w.alloc (.cells #[.bool false, .slice none 0 0, .slice none 0 0] 27)).Since (w.alloc (.cells #[.bool false, .slice none 0 0, .slice none 0 0] 27)).heap.size ((w.alloc (.cells #[.bool false, .slice none 0 0, .slice none 0 0] 27)).alloc (.cells #[] 35)) := (World.Since.refl _ _).alloc (Nat.le_refl _) _
  have SB := sA.trans (sinceMono tB sA.size)
  have own1 := World.ownsRow_made (e := 35) (size := 1) (w.alloc (.cells #[.bool false, .slice none 0 0, .slice none 0 0] 27)) #[] 0 (Nat.le_refl _) (by decide) rfl
  have zA : (w.alloc (.cells #[.bool false, .slice none 0 0, .slice none 0 0] 27)).heap.size = w.heap.size + 1 := by simp
  rw [zA] at own1
  have HZA := hide zA
  clear zA
  have FIN : ∀ (v' : Value) (w2 : World) (k : Nat), tlen (nz X) k = tlen (nz X) n → (k = 0 ∨ nz X (k - 1) = true) → k ≤ n → v' ≠ .slice none 0 0 → w2.ownsRow (w.heap.size + 1) 35 1 v' k (ll X k) → Hid (∃ g c, v' = .slice (some ⟨g, 0, none⟩) k c ∧ k ≤ c ∧ g < w2.heap.size ∧ w.heap.size < g ∧ Limbs w2 (some ⟨g, 0, none⟩) g 0 k X ∧ (0 < k → X (k - 1) ≠ 0) ∧ lv X k = lv X n) := by
    intro v' w2 k ht hk hkn hv ho
    obtain ⟨g, c, rfl, h1, h2, h3, h4, -⟩ := own_limbs_some ho hv
    have e : k = tlen (nz X) k := by
      rcases hk with rfl | hk
      · rfl
      · cases k with
        | zero => rfl
        | succ k => rw [tlen_true (by omega) hk]
    refine ⟨g, c, rfl, h1, h3, by omega, h4, fun h0 => ?_, ?_⟩
    · rcases hk with rfl | hk
      · omega
      · simpa [nz] using hk
    · rw [e, ht, lv_tlen]
  go_enter Try.func13, Try.ntmps13
  go_wp2
  go_loop [3] (fun i => ∃ k : Nat, k ≤ n ∧ i = .int .i64 k ∧ Hid (tlen (nz X) k = tlen (nz X) n)) (fun i => (intOf i).toNat)
  case atStart => exact ⟨n, Nat.le_refl _, rfl, hide rfl⟩
  case round =>
    obtain ⟨k, hk, rfl, HT⟩ := hrel
    by_cases hlt : 0 < k
    · obtain ⟨rfl, hc⟩ := hX (k - 1) (by omega)
      have sA : w.Since w.heap.size (w.alloc (.cells #[.bool false, .slice none 0 0, .slice none 0 0] 27)) := (World.Since.refl _ _).alloc (Nat.le_refl _) _
      have hc' : (w.alloc (.cells #[.bool false, .slice none 0 0, .slice none 0 0] 27)).cell? ⟨b, k - 1, none⟩ = some (.int .u32 (X (k - 1))) := by have := (sA.cell (a := ⟨b, 0 + (k - 1), none⟩) (hX.lt (by omega))).trans hc; simpa using this
      by_cases hB : X (k - 1) = 0
      · rw [hB] at hc'
        have HB : Hid (nz X (k - 1) = false) := by simp [Hid, nz, hB]
        clear hB hc
        go_wp2
        go_round
        case rel => exact ⟨k - 1, by omega, by go_num, hide ((tlen_false hlt HB.out).trans HT.out)⟩
        case measure => simp [intOf]; omega
      · have HB : Hid (nz X (k - 1) = true) := by simp [Hid, nz, hB]
        have hne : ((X (k - 1) : Int) == 0) = false := by simp; omega
        clear hB hc
        have hXB := hX.keep SB
        go_wp2_with (at_builtin; refine wpList_append_own _ rfl _ _ 23 rfl (w.heap.size + 1) 35 i0 (.int .u32 0) 1 4 Try.underlying23 hi hz0 hz1 hz2 rfl (by decide) _ 0 [] rfl own1 ⟨b, 0, none⟩ k cap (ll X k) rfl (by rw [ll_len]; omega) (limbs_news (hXB.take hk)) (ll_one X k) (by unfold maxLen; omega) (by omega) (by simp) ?_)
        intro v' w2 hown' hgrow hnn
        have S2 : w.Since w.heap.size w2 := SB.grown hgrow SB.size (fun q hq => by have := (own1.lt q hq).1; omega)
        have r2 : Box3 w2 w.heap.size (.bool false) (.slice none 0 0) (.slice none 0 0) := (rA.keep tB).ofBlock (hgrow.block w.heap.size (rA.keep tB).lt (fun e => by have := (own1.lt _ e.symm).1; omega))
        obtain ⟨g, c, rfl, v1, v2, v3, L2, t2, e2⟩ := (FIN v' w2 k HT.out (Or.inr HB.out) hk hnn hown').out
        clear hgrow hown' hnn own1 FIN
        have t3 : w2.Since w2.heap.size (w2.alloc (.cells #[.int .u32 1] 35)) := (World.Since.refl _ _).alloc (Nat.le_refl _) _
        have r3 := r2.keep t3
        have u0 := r3.c0
        have u1 := r3.c1
        have u2 := r3.c2
        have uf0 := r3.f 0
        have uf1 := r3.f 1
        have uf2 := r3.f 2
        have o3 : Limbs (w2.alloc (.cells #[.int .u32 1] 35)) (some ⟨w2.heap.size, 0, none⟩) w2.heap.size 0 1 (fun _ => 1) := fun j hj => ⟨rfl, by rw [show 0 + j = 0 by omega]; exact World.cell?_alloc_new w2 _ _ 0⟩
        have E2 := hide e2
        clear e2
        go_wp2
        have rl := r2.lt
        have rC := ((r3.set0 (.bool false)).set1 (.slice (some ⟨g, 0, none⟩) k c)).set2 (.slice (some ⟨w2.heap.size, 0, none⟩) 1 1)
        refine bodyPost_ret (results_box3 rfl _ _ _ _ _ _ rfl rC) rfl ?_
        have M := (((Marked.refl (w2.alloc (.cells #[.int .u32 1] 35)) w.heap.size).setCell 0 (.bool false)).setCell 1 (.slice (some ⟨g, 0, none⟩) k c)).setCell 2 (.slice (some ⟨w2.heap.size, 0, none⟩) 1 1)
        exact ⟨_, rfl, ⟨g, k, c, w2.heap.size, X, fun _ => 1, rfl, v1, by omega, (L2.keep t3).marked M (fun _ => by omega), fun j hj => lX j (by omega), t2, E2.out, o3.marked M (fun _ => by omega), rfl⟩, (S2.trans (sinceMono t3 S2.size)).trans (M.since (Nat.le_refl _))⟩
    · have e : k = 0 := by omega
      subst e
      have sC : w.Since w.heap.size (((w.alloc (.cells #[.bool false, .slice (some ⟨w.heap.size + 1, 0, none⟩) 0 0, .slice (some ⟨w.heap.size + 1 + 1, 0, none⟩) 1 1] 27)).alloc (.cells #[] 35)).alloc (.cells #[.int .u32 1] 35)) := (((World.Since.refl _ _).alloc (Nat.le_refl _) _).alloc (by simp) _).alloc (by simp; omega) _
      have bC : Box3 (((w.alloc (.cells #[.bool false, .slice (some ⟨w.heap.size + 1, 0, none⟩) 0 0, .slice (some ⟨w.heap.size + 1 + 1, 0, none⟩) 1 1] 27)).alloc (.cells #[] 35)).alloc (.cells #[.int .u32 1] 35)) w.heap.size (.bool false) (.slice (some ⟨w.heap.size + 1, 0, none⟩) 0 0) (.slice (some ⟨w.heap.size + 1 + 1, 0, none⟩) 1 1) := ((Box3.new w _ _ _ _).keep ((World.Since.refl _ _).alloc (Nat.le_refl _) _)).keep ((World.Since.refl _ _).alloc (Nat.le_refl _) _)
      have oC : Limbs (((w.alloc (.cells #[.bool false, .slice (some ⟨w.heap.size + 1, 0, none⟩) 0 0, .slice (some ⟨w.heap.size + 1 + 1, 0, none⟩) 1 1] 27)).alloc (.cells #[] 35)).alloc (.cells #[.int .u32 1] 35)) (some ⟨w.heap.size + 1 + 1, 0, none⟩) (w.heap.size + 1 + 1) 0 1 (fun _ => 1) := fun j hj => ⟨rfl, by
        rw [show 0 + j = 0 by omega]
        have := World.cell?_alloc_new ((w.alloc (.cells #[.bool false, .slice (some ⟨w.heap.size + 1, 0, none⟩) 0 0, .slice (some ⟨w.heap.size + 1 + 1, 0, none⟩) 1 1] 27)).alloc (.cells #[] 35)) #[.int .u32 1] 35 0
        simpa using this⟩
      have hl : lv X n = 0 := by rw [← lv_tlen X n, ← HT.out]; rfl
      have HL := hide hl
      clear hl own1 FIN
      cases a with
      | some x =>
        go_wp2
        refine bodyPost_ret (results_box3 rfl _ _ _ _ _ _ rfl bC) rfl ?_
        exact ⟨_, rfl, ⟨w.heap.size + 1, 0, 0, w.heap.size + 1 + 1, X, fun _ => 1, rfl, Nat.le_refl _, Nat.zero_le _, fun j hj => absurd hj (by omega), fun j hj => absurd hj (by omega), fun h => absurd h (by omega), HL.out.symm, oC, rfl⟩, sC⟩
      | none =>
        go_wp2
        refine bodyPost_ret (results_box3 rfl _ _ _ _ _ _ rfl bC) rfl ?_
        exact ⟨_, rfl, ⟨w.heap.size + 1, 0, 0, w.heap.size + 1 + 1, X, fun _ => 1, rfl, Nat.le_refl _, Nat.zero_le _, fun j hj => absurd hj (by omega), fun j hj => absurd hj (by omega), fun h => absurd h (by omega), HL.out.symm, oC, rfl⟩, sC⟩

end Go.Proofs.Ytdfcckifbbeoiaa

namespace Go.Proofs.Ytdfcckifbbeoiaa
open Go.RowKit

set_option maxHeartbeats 1600000 in
set_option maxRecDepth 100000 in
/-- l1Same of two Rats that hold the same. -/
theorem l1Same_true (f : Bool) (a b a' b' : Option Addr) (g h g' h' n c m d c' d' : Nat) (X Y : Nat → Nat) (w : World) (hn : n ≤ 1048576) (hm : m ≤ 1048576) (hX : Limbs w a g 0 n X) (hY : Limbs w b h 0 m Y) (hX' : Limbs w a' g' 0 n X) (hY' : Limbs w b' h' 0 m Y) :
    Calls Try.prog 60 #[.agg #[.bool f, .slice a n c, .slice b m d], .agg #[.bool f, .slice a' n c', .slice b' m d']] w fun e w' => e = .returned (.bool true) ∧ w.Since w.heap.size w' := by
  have sA : w.Since w.heap.size ((w.alloc (.cells #[.bool f, .slice a n c, .slice b m d] 27)).alloc (.cells #[.bool f, .slice a' n c', .slice b' m d'] 27)) := ((World.Since.refl _ _).alloc (Nat.le_refl _) _).alloc (by simp) _
  have oA : Box3 ((w.alloc (.cells #[.bool f, .slice a n c, .slice b m d] 27)).alloc (.cells #[.bool f, .slice a' n c', .slice b' m d'] 27)) w.heap.size (.bool f) (.slice a n c) (.slice b m d) := (Box3.new w _ _ _ _).keep ((World.Since.refl _ _).alloc (Nat.le_refl _) _)
  have pA : Box3 ((w.alloc (.cells #[.bool f, .slice a n c, .slice b m d] 27)).alloc (.cells #[.bool f, .slice a' n c', .slice b' m d'] 27)) (w.heap.size + 1) (.bool f) (.slice a' n c') (.slice b' m d') := by
    have := Box3.new (w.alloc (.cells #[.bool f, .slice a n c, .slice b m d] 27)) (.bool f) (.slice a' n c') (.slice b' m d') 27
    simpa using this
  have kA := And.intro oA.cells pA.cells
  go_enter Try.func60, Try.ntmps60
  go_wp2
  generalize ((w.alloc (.cells #[.bool f, .slice a n c, .slice b m d] 27)).alloc (.cells #[.bool f, .slice a' n c', .slice b' m d'] 27)) = w1 at *
  go_loopw [5] (fun t wr => ∃ k : Nat, k ≤ n ∧ t = .int .i64 k ∧ Same w1 wr) (fun t _ => n - (intOf t).toNat)
  case atStart => exact ⟨0, Nat.zero_le _, rfl, Same.refl _⟩
  case round =>
    obtain ⟨k, hk, rfl, sm⟩ := hrel
    have q1 : wr.cell? ⟨w.heap.size, 1, none⟩ = some (.slice a n c) := by rw [sm.cell]; exact oA.c1
    have q2 : wr.cell? ⟨w.heap.size + 1, 1, none⟩ = some (.slice a' n c') := by rw [sm.cell]; exact pA.c1
    by_cases hlt : k < n
    · obtain ⟨rfl, x1⟩ := hX k hlt
      obtain ⟨rfl, x2⟩ := hX' k hlt
      have y1 := (sA.cell (a := ⟨_, _, none⟩) (World.block_lt_of_cell? _ _ x1)).trans x1
      have y2 := (sA.cell (a := ⟨_, _, none⟩) (World.block_lt_of_cell? _ _ x2)).trans x2
      rw [← sm.cell] at y1 y2
      rw [Nat.zero_add] at y1 y2
      have hlt' : (k : Int) < (n : Int) := by omega
      clear x1 x2
      go_wp2
      go_quiet (fail)
      go_wp2
      go_roundw
      case rel => exact ⟨k + 1, by omega, by go_num, sm.drewN _⟩
      case measure => simp [intOf]; omega
    · have q0 := q1
      have k1 := And.intro oA.cells pA.cells
      have q3 : wr.cell? ⟨w.heap.size, 2, none⟩ = some (.slice b m d) := by rw [sm.cell]; exact oA.c2
      go_wp2
      go_loopw [6] (fun t wr => ∃ k : Nat, k ≤ m ∧ t = .int .i64 k ∧ Same w1 wr) (fun t _ => m - (intOf t).toNat)
      case atStart => exact ⟨0, Nat.zero_le _, rfl, sm⟩
      case round =>
        obtain ⟨k, hk, rfl, sm⟩ := hrel
        have q1 : wr.cell? ⟨w.heap.size, 2, none⟩ = some (.slice b m d) := by rw [sm.cell]; exact oA.c2
        have q2 : wr.cell? ⟨w.heap.size + 1, 2, none⟩ = some (.slice b' m d') := by rw [sm.cell]; exact pA.c2
        by_cases hlt : k < m
        · obtain ⟨rfl, x1⟩ := hY k hlt
          obtain ⟨rfl, x2⟩ := hY' k hlt
          have y1 := (sA.cell (a := ⟨_, _, none⟩) (World.block_lt_of_cell? _ _ x1)).trans x1
          have y2 := (sA.cell (a := ⟨_, _, none⟩) (World.block_lt_of_cell? _ _ x2)).trans x2
          rw [← sm.cell] at y1 y2
          rw [Nat.zero_add] at y1 y2
          have hlt' : (k : Int) < (m : Int) := by omega
          clear x1 x2
          go_wp2
          go_quiet (fail)
          go_wp2
          go_roundw
          case rel => exact ⟨k + 1, by omega, by go_num, sm.drewN _⟩
          case measure => simp [intOf]; omega
        · go_wp2
          go_ret
          exact ⟨rfl, sA.trans (sinceMono (sm.since w1.heap.size) sA.size)⟩

set_option maxHeartbeats 800000 in
set_option maxRecDepth 100000 in
theorem same_true (f : Bool) (a b a' b' : Option Addr) (g h g' h' n c m d c' d' : Nat) (X Y : Nat → Nat) (w : World) (hn : n ≤ 1048576) (hm : m ≤ 1048576) (hX : Limbs w a g 0 n X) (hY : Limbs w b h 0 m Y) (hX' : Limbs w a' g' 0 n X) (hY' : Limbs w b' h' 0 m Y) :
    Calls Try.prog 17 #[.agg #[.bool f, .slice a n c, .slice b m d], .agg #[.bool f, .slice a' n c', .slice b' m d']] w fun e w' => e = .returned (.bool true) ∧ w.Since w.heap.size w' := by
  have sA : w.Since w.heap.size ((w.alloc (.cells #[.bool f, .slice a n c, .slice b m d] 27)).alloc (.cells #[.bool f, .slice a' n c', .slice b' m d'] 27)) := ((World.Since.refl _ _).alloc (Nat.le_refl _) _).alloc (by simp) _
  have oA : Box3 ((w.alloc (.cells #[.bool f, .slice a n c, .slice b m d] 27)).alloc (.cells #[.bool f, .slice a' n c', .slice b' m d'] 27)) w.heap.size (.bool f) (.slice a n c) (.slice b m d) := (Box3.new w _ _ _ _).keep ((World.Since.refl _ _).alloc (Nat.le_refl _) _)
  have pA : Box3 ((w.alloc (.cells #[.bool f, .slice a n c, .slice b m d] 27)).alloc (.cells #[.bool f, .slice a' n c', .slice b' m d'] 27)) (w.heap.size + 1) (.bool f) (.slice a' n c') (.slice b' m d') := by
    have := Box3.new (w.alloc (.cells #[.bool f, .slice a n c, .slice b m d] 27)) (.bool f) (.slice a' n c') (.slice b' m d') 27
    simpa using this
  have kA := And.intro oA.cells pA.cells
  go_enter Try.func17, Try.ntmps17
  go_wp2_with fail
  generalize ((w.alloc (.cells #[.bool f, .slice a n c, .slice b m d] 27)).alloc (.cells #[.bool f, .slice a' n c', .slice b' m d'] 27)) = w1 at *
  refine (l1Same_true f a b a' b' g h g' h' n c m d c' d' X Y w1 hn hm (hX.keep sA) (hY.keep sA) (hX'.keep sA) (hY'.keep sA)).mono ?_
  rintro e w2 ⟨rfl, s2⟩
  go_wp2
  go_ret
  exact ⟨rfl, sA.trans (sinceMono s2 sA.size)⟩

end Go.Proofs.Ytdfcckifbbeoiaa
