import Derived.Test.YtdfcckifbbeoiaaG2P3
import Derived.Test.YtdfcckifbbeoiaaG3P1
import Derived.Test.YtdfcckifbbeoiaaG2P1
import Derived.Test.YtdfcckifbbeoiaaOwnP1
import Derived.Test.YtdfcckifbbeoiaaG1P2
namespace Go.Proofs.Ytdfcckifbbeoiaa
open Go.RowKit

set_option maxHeartbeats 1600000 in
set_option maxRecDepth 100000 in
/-- (*fraction).compare at differing signs. -/
theorem fracCmp_sign (c : Nat) (f f' : Bool) (a b a' b' : Option Addr) (n ca m cb n' ca' m' cb' : Nat) (w : World) (B : Box4 w c (.bool f) (.slice a n ca) (.slice b m cb) (.slice none 0 0)) (hne : f ≠ f') :
    Calls Try.prog 113 #[.pointer (some ⟨c, 0, none⟩), .agg #[.bool f', .slice a' n' ca', .slice b' m' cb', .slice none 0 0]] w fun e w' => e = .returned (.int .i64 (if f then -1 else 1)) ∧ w.Since w.heap.size w' := by
  have sA : w.Since w.heap.size (w.alloc (.cells #[.bool f', .slice a' n' ca', .slice b' m' cb', .slice none 0 0] 90)) := (World.Since.refl _ _).alloc (Nat.le_refl _) _
  have BA := B.keep sA
  have gA := Box4.new w (.bool f') (.slice a' n' ca') (.slice b' m' cb') (.slice none 0 0) 90
  have k0 := BA.c0
  have g0 := gA.c0
  cases f <;> cases f'
  · exact absurd rfl hne
  · go_enter Try.func113, Try.ntmps113
    go_wp2
    go_quiet (fail)
    go_wp2
    go_ret
    exact ⟨rfl, ⟨sA.os, sA.tape, sA.output, sA.size, sA.block⟩⟩
  · go_enter Try.func113, Try.ntmps113
    go_wp2
    go_quiet (fail)
    go_wp2
    go_ret
    exact ⟨rfl, ⟨sA.os, sA.tape, sA.output, sA.size, sA.block⟩⟩
  · exact absurd rfl hne

end Go.Proofs.Ytdfcckifbbeoiaa

namespace Go.Proofs.Ytdfcckifbbeoiaa
open Go.RowKit

set_option maxHeartbeats 1600000 in
set_option maxRecDepth 100000 in
/-- (*fraction).compare at like signs. -/
theorem fracCmp_same (c : Nat) (f : Bool) (a b a' b' : Option Addr) (ba oa n ca bb ob m cb ba' oa' n' ca' bb' ob' m' cb' : Nat) (X Y X' Y' : Nat → Nat) (w : World) (hn : n + n' + m + m' ≤ 1048576)
    (hX : Limbs w a ba oa n X) (hY : Limbs w b bb ob m Y) (hX' : Limbs w a' ba' oa' n' X') (hY' : Limbs w b' bb' ob' m' Y') (hXl : ∀ j, j < n → X j < 4294967296) (hYl : ∀ j, j < m → Y j < 4294967296) (hXl' : ∀ j, j < n' → X' j < 4294967296) (hYl' : ∀ j, j < m' → Y' j < 4294967296)
    (B : Box4 w c (.bool f) (.slice a n ca) (.slice b m cb) (.slice none 0 0)) :
    Calls Try.prog 113 #[.pointer (some ⟨c, 0, none⟩), .agg #[.bool f, .slice a' n' ca', .slice b' m' cb', .slice none 0 0]] w fun e w' => e = .returned (.int .i64 (if f then cmpN (lv X' n' * lv Y m) (lv X n * lv Y' m') else cmpN (lv X n * lv Y' m') (lv X' n' * lv Y m))) ∧ w.Since w.heap.size w' := by
  have sA : w.Since w.heap.size (w.alloc (.cells #[.bool f, .slice a' n' ca', .slice b' m' cb', .slice none 0 0] 90)) := (World.Since.refl _ _).alloc (Nat.le_refl _) _
  have BA := B.keep sA
  have gA := Box4.new w (.bool f) (.slice a' n' ca') (.slice b' m' cb') (.slice none 0 0) 90
  have hcl := B.lt
  have zA : (w.alloc (.cells #[.bool f, .slice a' n' ca', .slice b' m' cb', .slice none 0 0] 90)).heap.size = w.heap.size + 1 := by simp
  have k0 := BA.c0
  have k1 := BA.c1
  have g0 := gA.c0
  have g1 := gA.c1
  go_enter Try.func113, Try.ntmps113
  go_wp2
  go_quiet (fail)
  go_wp2
  have S1 : w.Since w.heap.size ((w.alloc (.cells #[.bool f, .slice a' n' ca', .slice b' m' cb', .slice none 0 0] 90)).drewN nq) := ⟨sA.os, sA.tape, sA.output, sA.size, sA.block⟩
  have B1 : Box4 ((w.alloc (.cells #[.bool f, .slice a' n' ca', .slice b' m' cb', .slice none 0 0] 90)).drewN nq) c (.bool f) (.slice a n ca) (.slice b m cb) (.slice none 0 0) := ⟨BA.c0, BA.c1, BA.c2, BA.c3, BA.f⟩
  have G1 : Box4 ((w.alloc (.cells #[.bool f, .slice a' n' ca', .slice b' m' cb', .slice none 0 0] 90)).drewN nq) w.heap.size (.bool f) (.slice a' n' ca') (.slice b' m' cb') (.slice none 0 0) := ⟨gA.c0, gA.c1, gA.c2, gA.c3, gA.f⟩
  have zl : w.heap.size + 1 ≤ ((w.alloc (.cells #[.bool f, .slice a' n' ca', .slice b' m' cb', .slice none 0 0] 90)).drewN nq).heap.size := Nat.le_of_eq zA.symm
  clear sA BA gA zA k0 k1 g0 g1
  generalize (w.alloc (.cells #[.bool f, .slice a' n' ca', .slice b' m' cb', .slice none 0 0] 90)).drewN nq = w1 at *
  have n1 : w1.heap.size ≠ c := by omega
  have n2 : w1.heap.size ≠ w.heap.size := by omega
  have n3 : w1.heap.size + 1 ≠ c := by omega
  have n4 : w1.heap.size + 1 ≠ w.heap.size := by omega
  have kk := And.intro B1.c1 G1.c1
  have tZ : (w1.drew.alloc (.cells #[.slice none 0 0] 68)).Since (w1.drew.alloc (.cells #[.slice none 0 0] 68)).heap.size ((w1.drew.alloc (.cells #[.slice none 0 0] 68)).alloc (.cells #[.slice none 0 0] 68)) := (World.Since.refl _ _).alloc (Nat.le_refl _) _
  have a1 : ((w1.drew.alloc (.cells #[.slice none 0 0] 68)).alloc (.cells #[.slice none 0 0] 68)).cell? ⟨w1.heap.size, 0, none⟩ = some (.slice none 0 0) := by rw [tZ.cell (a := ⟨w1.heap.size, 0, none⟩) (by show w1.drew.heap.size < _; simp)]; exact World.cell?_alloc_new w1.drew _ _ 0
  clear tZ
  go_region_held3 (fun w' => w'.cell? ⟨c, 1, none⟩ = some (.slice a n ca) ∧ w'.cell? ⟨w.heap.size, 1, none⟩ = some (.slice a' n' ca')) (go_keep) (fail)
  all_goals
    first
    | (with_reducible show Exit.then _ _ Exit.normal _ ((w1.alloc (.cells #[.slice a n ca] 68)).alloc (.cells #[.slice a' n' ca'] 68)).drew
       have tV : w1.Since w1.heap.size (w1.alloc (.cells #[.slice a n ca] 68)) := (World.Since.refl _ _).alloc (Nat.le_refl _) _
       have tW : (w1.alloc (.cells #[.slice a n ca] 68)).Since (w1.alloc (.cells #[.slice a n ca] 68)).heap.size ((w1.alloc (.cells #[.slice a n ca] 68)).alloc (.cells #[.slice a' n' ca'] 68)) := (World.Since.refl _ _).alloc (Nat.le_refl _) _
       have tt : w1.Since w1.heap.size ((w1.alloc (.cells #[.slice a n ca] 68)).alloc (.cells #[.slice a' n' ca'] 68)).drew := since_drew (tV.trans (sinceMono tW tV.size))
       have zV : (w1.alloc (.cells #[.slice a n ca] 68)).heap.size = w1.heap.size + 1 := by simp
       have zW : ((w1.alloc (.cells #[.slice a n ca] 68)).alloc (.cells #[.slice a' n' ca'] 68)).drew.heap.size = w1.heap.size + 2 := by show ((w1.alloc (.cells #[.slice a n ca] 68)).alloc (.cells #[.slice a' n' ca'] 68)).heap.size = _; simp
       have ql : ((w1.alloc (.cells #[.slice a n ca] 68)).alloc (.cells #[.slice a' n' ca'] 68)).drew.cell? ⟨w1.heap.size, 0, none⟩ = some (.slice a n ca) := (tW.cell (a := ⟨w1.heap.size, 0, none⟩) (by show w1.heap.size < _; omega)).trans (World.cell?_alloc_new w1 _ _ 0)
       have fl : ((w1.alloc (.cells #[.slice a n ca] 68)).alloc (.cells #[.slice a' n' ca'] 68)).drew.frozen? ⟨w1.heap.size, 0, none⟩ = false := (tW.frozen (a := ⟨w1.heap.size, 0, none⟩) (by show w1.heap.size < _; omega)).trans (by simp)
       have qr : ((w1.alloc (.cells #[.slice a n ca] 68)).alloc (.cells #[.slice a' n' ca'] 68)).drew.cell? ⟨w1.heap.size + 1, 0, none⟩ = some (.slice a' n' ca') := by have := World.cell?_alloc_new (w1.alloc (.cells #[.slice a n ca] 68)) #[.slice a' n' ca'] 68 0; rw [zV] at this; exact this
       have fr : ((w1.alloc (.cells #[.slice a n ca] 68)).alloc (.cells #[.slice a' n' ca'] 68)).drew.frozen? ⟨w1.heap.size + 1, 0, none⟩ = false := by have h9 : ((w1.alloc (.cells #[.slice a n ca] 68)).alloc (.cells #[.slice a' n' ca'] 68)).frozen? ⟨(w1.alloc (.cells #[.slice a n ca] 68)).heap.size, 0, none⟩ = false := (by simp); rw [zV] at h9; exact h9
       have S2 := S1.trans (sinceMono tt S1.size)
       have B2 := B1.keep tt
       have G2 := G1.keep tt
       obtain ⟨L, hL⟩ : ∃ L, L = w1.heap.size := ⟨_, rfl⟩
       obtain ⟨R, hR⟩ : ∃ R, R = w1.heap.size + 1 := ⟨_, rfl⟩
       have hLR : L ≠ R ∧ w.heap.size < L ∧ w.heap.size < R ∧ L < ((w1.alloc (.cells #[.slice a n ca] 68)).alloc (.cells #[.slice a' n' ca'] 68)).drew.heap.size ∧ R < ((w1.alloc (.cells #[.slice a n ca] 68)).alloc (.cells #[.slice a' n' ca'] 68)).drew.heap.size := by omega
       rw [← hR, ← hL]
       rw [← hL] at ql fl
       rw [← hR] at qr fr
       clear tV tW tt zV zW
       generalize ((w1.alloc (.cells #[.slice a n ca] 68)).alloc (.cells #[.slice a' n' ca'] 68)).drew = w2 at *)
    | (with_reducible show Exit.then _ _ Exit.normal _ ((w1.alloc (.cells #[.slice a' n' ca'] 68)).alloc (.cells #[.slice a n ca] 68)).drew
       have tV : w1.Since w1.heap.size (w1.alloc (.cells #[.slice a' n' ca'] 68)) := (World.Since.refl _ _).alloc (Nat.le_refl _) _
       have tW : (w1.alloc (.cells #[.slice a' n' ca'] 68)).Since (w1.alloc (.cells #[.slice a' n' ca'] 68)).heap.size ((w1.alloc (.cells #[.slice a' n' ca'] 68)).alloc (.cells #[.slice a n ca] 68)) := (World.Since.refl _ _).alloc (Nat.le_refl _) _
       have tt : w1.Since w1.heap.size ((w1.alloc (.cells #[.slice a' n' ca'] 68)).alloc (.cells #[.slice a n ca] 68)).drew := since_drew (tV.trans (sinceMono tW tV.size))
       have zV : (w1.alloc (.cells #[.slice a' n' ca'] 68)).heap.size = w1.heap.size + 1 := by simp
       have zW : ((w1.alloc (.cells #[.slice a' n' ca'] 68)).alloc (.cells #[.slice a n ca] 68)).drew.heap.size = w1.heap.size + 2 := by show ((w1.alloc (.cells #[.slice a' n' ca'] 68)).alloc (.cells #[.slice a n ca] 68)).heap.size = _; simp
       have qr : ((w1.alloc (.cells #[.slice a' n' ca'] 68)).alloc (.cells #[.slice a n ca] 68)).drew.cell? ⟨w1.heap.size, 0, none⟩ = some (.slice a' n' ca') := (tW.cell (a := ⟨w1.heap.size, 0, none⟩) (by show w1.heap.size < _; omega)).trans (World.cell?_alloc_new w1 _ _ 0)
       have fr : ((w1.alloc (.cells #[.slice a' n' ca'] 68)).alloc (.cells #[.slice a n ca] 68)).drew.frozen? ⟨w1.heap.size, 0, none⟩ = false := (tW.frozen (a := ⟨w1.heap.size, 0, none⟩) (by show w1.heap.size < _; omega)).trans (by simp)
       have ql : ((w1.alloc (.cells #[.slice a' n' ca'] 68)).alloc (.cells #[.slice a n ca] 68)).drew.cell? ⟨w1.heap.size + 1, 0, none⟩ = some (.slice a n ca) := by have := World.cell?_alloc_new (w1.alloc (.cells #[.slice a' n' ca'] 68)) #[.slice a n ca] 68 0; rw [zV] at this; exact this
       have fl : ((w1.alloc (.cells #[.slice a' n' ca'] 68)).alloc (.cells #[.slice a n ca] 68)).drew.frozen? ⟨w1.heap.size + 1, 0, none⟩ = false := by have h9 : ((w1.alloc (.cells #[.slice a' n' ca'] 68)).alloc (.cells #[.slice a n ca] 68)).frozen? ⟨(w1.alloc (.cells #[.slice a' n' ca'] 68)).heap.size, 0, none⟩ = false := (by simp); rw [zV] at h9; exact h9
       have S2 := S1.trans (sinceMono tt S1.size)
       have B2 := B1.keep tt
       have G2 := G1.keep tt
       obtain ⟨L, hL⟩ : ∃ L, L = w1.heap.size + 1 := ⟨_, rfl⟩
       obtain ⟨R, hR⟩ : ∃ R, R = w1.heap.size := ⟨_, rfl⟩
       have hLR : L ≠ R ∧ w.heap.size < L ∧ w.heap.size < R ∧ L < ((w1.alloc (.cells #[.slice a' n' ca'] 68)).alloc (.cells #[.slice a n ca] 68)).drew.heap.size ∧ R < ((w1.alloc (.cells #[.slice a' n' ca'] 68)).alloc (.cells #[.slice a n ca] 68)).drew.heap.size := by omega
       rw [← hL, ← hR]
       rw [← hL] at ql fl
       rw [← hR] at qr fr
       clear tV tW tt zV zW
       generalize ((w1.alloc (.cells #[.slice a' n' ca'] 68)).alloc (.cells #[.slice a n ca] 68)).drew = w2 at *)
  all_goals
    obtain ⟨hLR, hwL, hwR, hL2, hR2⟩ := hLR
    clear hL hR a1 n1 n2 n3 n4 kk zl S1 B1 G1
    have k2 := G2.c2
    go_wp2_with fail
    refine (mulAtR L a b' ba oa n ca bb' ob' m' cb' X Y' w2 (by omega) (by omega) (hX.keep S2) (hY'.keep S2) hXl hYl' ql fl).mono ?_
    rintro e w3 ⟨rfl, P, q3, f3, r3, hP, eP, O3, z3⟩
    have O03 : Oth w.heap.size w w3 := (Oth.ofSince _ S2).up O3 (by omega)
    have S3 : w.Since w.heap.size w3 := O03.since (Nat.le_refl _)
    have B3 := B2.oth O3 (by omega)
    have q4 : w3.cell? ⟨R, 0, none⟩ = some (.slice a' n' ca') := (O3.cell (a := ⟨R, 0, none⟩) hR2 (Ne.symm hLR)).trans qr
    have f4 : w3.frozen? ⟨R, 0, none⟩ = false := (O3.frozen (a := ⟨R, 0, none⟩) hR2 (Ne.symm hLR)).trans fr
    clear k2 G2 ql fl qr fr O03
    have k2 := B3.c2
    go_wp2_with fail
    refine (mulAtR R a' b ba' oa' n' ca' bb ob m cb X' Y w3 (by omega) (by omega) (hX'.keep S3) (hY.keep S3) hXl' hYl q4 f4).mono ?_
    rintro e w4 ⟨rfl, Q, q5, f5, r5, hQ, eQ, O4, z4⟩
    have hs3 := O3.size
    have O04 : Oth w.heap.size w w4 := (Oth.ofSince _ S3).up O4 (by omega)
    have S4 : w.Since w.heap.size w4 := O04.since (Nat.le_refl _)
    have B4 := B3.oth O4 (by omega)
    have q6 : w4.cell? ⟨L, 0, none⟩ = _ := (O4.cell (a := ⟨L, 0, none⟩) (show L < _ by omega) hLR).trans q3
    have r6 := row_oth r3 O4 (by omega)
    clear k2 B3 q3 f3 q4 f4 r3 O04 B2 O3 O4
    have k0 := B4.c0
    have tP := tlen_le (nz P) (n + m')
    have tQ := tlen_le (nz Q) (n' + m)
    have LP := (limbs_row r6).take tP
    have LQ := (limbs_row r5).take tQ
    have JA := compare_any R 0 (some ⟨w3.heap.size, 0, none⟩) (some ⟨w2.heap.size, 0, none⟩) w3.heap.size 0 (tlen (nz Q) (n' + m)) (n' + m) w2.heap.size 0 (tlen (nz P) (n + m')) (n + m') Q P w4 (by omega) (by omega) q5 LQ LP (fun j _ => hQ j) (fun j _ => hP j) top_row top_row
    have JB := compare_any L 0 (some ⟨w2.heap.size, 0, none⟩) (some ⟨w3.heap.size, 0, none⟩) w2.heap.size 0 (tlen (nz P) (n + m')) (n + m') w3.heap.size 0 (tlen (nz Q) (n' + m)) (n' + m) P Q w4 (by omega) (by omega) q6 LP LQ (fun j _ => hP j) (fun j _ => hQ j) top_row top_row
    rw [lv_tlen, lv_tlen, eP, eQ] at JA JB
    clear r5 r6 LP LQ hP hQ eP eQ tP tQ
    cases f
    · go_wp2_with fail
      refine JB.mono ?_
      rintro e w5 ⟨rfl, s5⟩
      go_wp2
      go_ret
      exact ⟨rfl, S4.trans (sinceMono (s5.since w4.heap.size) S4.size)⟩
    · go_wp2_with fail
      refine JA.mono ?_
      rintro e w5 ⟨rfl, s5⟩
      go_wp2
      go_ret
      exact ⟨rfl, S4.trans (sinceMono (s5.since w4.heap.size) S4.size)⟩

end Go.Proofs.Ytdfcckifbbeoiaa

namespace Go.Proofs.Ytdfcckifbbeoiaa
open Go.RowKit

/-- The bytes handed in. -/
def Code (w : World) (a : Option Addr) (b off n : Nat) (X : Nat → Nat) : Prop := ∀ j, j < n → X j < 256 ∧ a = some ⟨b, off, none⟩ ∧ w.cell? ⟨b, off + j, none⟩ = some (.int .u8 (X j))

/-- A reader in its box. -/
structure Rd (w : World) (c : Nat) (a : Option Addr) (b off n cap : Nat) (X : Nat → Nat) : Prop where
  c0 : w.cell? ⟨c, 0, none⟩ = some (.slice a n cap)
  c1 : ∃ p : Nat, p ≤ n ∧ w.cell? ⟨c, 1, none⟩ = some (.int .i64 p)
  f : ∀ k, w.frozen? ⟨c, k, none⟩ = false
  code : Code w a b off n X
  ne : 0 < n → b ≠ c

theorem Code.lt {w : World} {a : Option Addr} {b off n : Nat} {X : Nat → Nat} (h : Code w a b off n X) (h0 : 0 < n) : b < w.heap.size := World.block_lt_of_cell? _ _ (h 0 h0).2.2
theorem Code.oth {w w' : World} {a : Option Addr} {b off n c : Nat} {X : Nat → Nat} (h : Code w a b off n X) (s : Oth c w w') (hne : 0 < n → b ≠ c) : Code w' a b off n X :=
  fun j hj => ⟨(h j hj).1, (h j hj).2.1, (s.cell (a := ⟨b, off + j, none⟩) (h.lt (by omega)) (hne (by omega))).trans (h j hj).2.2⟩
theorem Code.keep {w w' : World} {a : Option Addr} {b off n : Nat} {X : Nat → Nat} (h : Code w a b off n X) (s : w.Since w.heap.size w') : Code w' a b off n X :=
  fun j hj => ⟨(h j hj).1, (h j hj).2.1, (s.cell (a := ⟨b, off + j, none⟩) (h.lt (by omega))).trans (h j hj).2.2⟩
theorem Rd.lt {w : World} {c : Nat} {a : Option Addr} {b off n cap : Nat} {X : Nat → Nat} (h : Rd w c a b off n cap X) : c < w.heap.size := World.block_lt_of_cell? _ _ h.c0
theorem Rd.keep {w w' : World} {c : Nat} {a : Option Addr} {b off n cap : Nat} {X : Nat → Nat} (h : Rd w c a b off n cap X) (s : w.Since w.heap.size w') : Rd w' c a b off n cap X := by
  obtain ⟨p, hp, h1⟩ := h.c1
  exact ⟨(s.cell (a := ⟨c, 0, none⟩) h.lt).trans h.c0, ⟨p, hp, (s.cell (a := ⟨c, 1, none⟩) h.lt).trans h1⟩, fun k => (s.frozen (a := ⟨c, k, none⟩) h.lt).trans (h.f k), h.code.keep s, h.ne⟩

theorem Rd.same {w w' : World} {c : Nat} {a : Option Addr} {b off n cap : Nat} {X : Nat → Nat} (h : Rd w c a b off n cap X) (s : Same w w') : Rd w' c a b off n cap X := h.keep (s.since _)
theorem Oth.ofSame {w w' : World} (c : Nat) (s : Same w w') : Oth c w w' := Oth.ofSince c (s.since _)

theorem Rd.step {w w1 : World} {c : Nat} {a : Option Addr} {b off n cap p : Nat} {X : Nat → Nat} (h : Rd w c a b off n cap X) (hp : p < n) (k1 : w.cell? ⟨c, 1, none⟩ = some (.int .i64 p)) (s : Same w w1) :
    Rd (w1.setCell ⟨c, 1, none⟩ (.int .i64 ((p : Int) + 1))) c a b off n cap X ∧ Oth c w (w1.setCell ⟨c, 1, none⟩ (.int .i64 ((p : Int) + 1))) := by
  have M := (Marked.refl w1 c).setCell 1 (.int .i64 ((p : Int) + 1))
  have O : Oth c w (w1.setCell ⟨c, 1, none⟩ (.int .i64 ((p : Int) + 1))) := (Oth.ofSame c s).trans (Oth.ofMarked M)
  refine ⟨⟨?_, ⟨p + 1, hp, ?_⟩, fun k => ?_, h.code.oth O h.ne, h.ne⟩, O⟩
  · rw [World.cell?_setCell_other _ _ _ _ (by simp), s.cell]; exact h.c0
  · exact World.cell?_setCell_same _ _ _ (by rw [s.cell]; exact k1)
  · rw [M.frozen, s.frozen]; exact h.f k

set_option maxHeartbeats 800000 in
set_option maxRecDepth 100000 in
theorem next_any (c : Nat) (a : Option Addr) (b off n cap : Nat) (X : Nat → Nat) (w : World) (hn : n ≤ 1048576) (R : Rd w c a b off n cap X) :
    Calls Try.prog 44 #[.pointer (some ⟨c, 0, none⟩)] w fun e w' => ∃ v : Nat, e = .returned (.int .i64 v) ∧ v < 256 ∧ Rd w' c a b off n cap X ∧ Oth c w w' := by
  have k0 := R.c0
  obtain ⟨p, hp, k1⟩ := R.c1
  have kf := R.f 1
  by_cases hlt : p < n
  · obtain ⟨hx, rfl, kx⟩ := R.code p hlt
    have hlt' : (p : Int) < (n : Int) := by omega
    obtain ⟨x, ex⟩ : ∃ x, x = X p := ⟨_, rfl⟩
    rw [← ex] at kx hx
    clear ex
    go_enter Try.func44, Try.ntmps44
    go_wp2
    go_quiet (fail)
    go_wp2
    go_quiet (fail)
    go_wp2
    go_ret
    go_light
    exact ⟨x, rfl, hx, R.step hlt k1 ((Same.refl _).drewN _)⟩
  · go_enter Try.func44, Try.ntmps44
    go_wp2
    go_quiet (fail)
    go_wp2
    go_ret
    exact ⟨0, rfl, by omega, R.same (w' := w.drewN nq) ((Same.refl _).drewN _), Oth.ofSame c ((Same.refl _).drewN _)⟩

set_option maxHeartbeats 800000 in
set_option maxRecDepth 100000 in
theorem left_any (c : Nat) (a : Option Addr) (b off n cap : Nat) (X : Nat → Nat) (w : World) (hn : n ≤ 1048576) (R : Rd w c a b off n cap X) :
    Calls Try.prog 90 #[.pointer (some ⟨c, 0, none⟩)] w fun e w' => ∃ v : Nat, e = .returned (.int .i64 v) ∧ v ≤ 1048576 ∧ Same w w' := by
  have k0 := R.c0
  obtain ⟨p, hp, k1⟩ := R.c1
  go_enter Try.func90, Try.ntmps90
  go_wp2
  go_quiet (fail)
  go_wp2
  go_ret
  go_light
  exact ⟨n - p, ret_int (by omega), by omega, (Same.refl _).drewN _⟩

set_option maxHeartbeats 1600000 in
set_option maxRecDepth 100000 in
theorem l1DrawLimb_any (c : Nat) (a : Option Addr) (b off n cap : Nat) (X : Nat → Nat) (w : World) (hn : n ≤ 1048576) (R : Rd w c a b off n cap X) :
    Calls Try.prog 91 #[.pointer (some ⟨c, 0, none⟩)] w fun e w' => ∃ v : Nat, e = .returned (.int .u32 v) ∧ v < 4294967296 ∧ Rd w' c a b off n cap X ∧ Oth c w w' := by
  go_enter Try.func91, Try.ntmps91
  go_wp2_with fail
  refine (next_any c a b off n cap X w hn R).mono ?_
  rintro e w1 ⟨v, rfl, hv, R1, O1⟩
  by_cases c1 : (v : Int) % 8 = 1
  · have h1 : ((v : Int) % 8 == 1) = true := by simp [c1]
    go_wp2_with fail
    go_ret
    exact ⟨4294967295, rfl, by omega, R1, O1⟩
  have h1 : ((v : Int) % 8 == 1) = false := by simp [c1]
  by_cases c2 : (v : Int) % 8 = 2
  · have h2 : ((v : Int) % 8 == 2) = true := by simp [c2]
    go_wp2_with fail
    go_ret
    exact ⟨2147483648, rfl, by omega, R1, O1⟩
  have h2 : ((v : Int) % 8 == 2) = false := by simp [c2]
  by_cases c3 : (v : Int) % 8 = 3
  · have h3 : ((v : Int) % 8 == 3) = true := by simp [c3]
    go_wp2_with fail
    go_ret
    exact ⟨0, rfl, by omega, R1, O1⟩
  have h3 : ((v : Int) % 8 == 3) = false := by simp [c3]
  by_cases c4 : (v : Int) % 8 = 4
  · have h4 : ((v : Int) % 8 == 4) = true := by simp [c4]
    go_wp2_with fail
    go_ret
    exact ⟨v / 8, rfl, by omega, R1, O1⟩
  have h4 : ((v : Int) % 8 == 4) = false := by simp [c4]
  clear c1 c2 c3 c4
  go_wp2_with fail
  · go_loopw [4, 5] (fun q t wr => ∃ (x k : Nat), q = .int .u32 x ∧ x < 4294967296 ∧ t = .int .i64 k ∧ k ≤ 3 ∧ Rd wr c a b off n cap X ∧ Oth c w wr) (fun _ t _ => 3 - (intOf t).toNat)
    case atStart => exact ⟨v, 0, rfl, by omega, rfl, by omega, R1, O1⟩
    case round =>
      obtain ⟨x, k, rfl, hx, rfl, hk, R2, O2⟩ := hrel
      by_cases hlt : k < 3
      · go_wp2_with fail
        refine (next_any c a b off n cap X wr hn R2).mono ?_
        rintro e w2 ⟨y, rfl, hy, R3, O3⟩
        go_wp2
        go_roundw
        case rel =>
          go_light
          exact ⟨x * 256 % 4294967296 + y, k + 1, congrArg (Value.int .u32) (by omega), by omega, by go_num, by omega, R3, O2.trans O3⟩
        case measure => simp [intOf]; omega
      · go_wp2
        go_ret
        exact ⟨x, rfl, hx, R2, O2⟩

end Go.Proofs.Ytdfcckifbbeoiaa

namespace Go.Proofs.Ytdfcckifbbeoiaa
open Go.RowKit

theorem Oth.grown {c : Nat} {w w1 w2 : World} {row : Option Nat} (h : Oth c w w1) (g : w1.grownBy w2 row) (hr : ∀ k, row = some k → w.heap.size ≤ k) : Oth c w w2 :=
  ⟨g.os.trans h.os, g.tape.trans h.tape, g.output.trans h.output, Nat.le_trans h.size g.size, fun k h1 h2 => (g.block k (Nat.lt_of_lt_of_le h1 h.size) (fun e => by have := hr k e.symm; omega)).trans (h.block k h1 h2)⟩
theorem own_oth {w w' : World} {base c : Nat} {e : TypeId} {size : Nat} {v : Value} {n : Nat} {xs : List Value} (h : w.ownsRow base e size v n xs) (s : Oth c w w') (hc : c < base) : w'.ownsRow base e size v n xs :=
  h.kept (row := some c) ⟨s.os, s.tape, s.output, s.size, fun k h1 h2 => s.block k h1 (fun e => h2 (by rw [e]))⟩ (Or.inr (fun e => by have := (h.lt c e).1; omega))
theorem Rd.grown {w1 w2 : World} {c : Nat} {a : Option Addr} {b off n cap : Nat} {X : Nat → Nat} {row : Option Nat} (h : Rd w1 c a b off n cap X) (g : w1.grownBy w2 row) (hc : some c ≠ row) (hb : 0 < n → some b ≠ row) : Rd w2 c a b off n cap X := by
  obtain ⟨p, hp, h1⟩ := h.c1
  have e := g.block c h.lt hc
  exact ⟨(World.cell?_of_block (w := w1) (a := ⟨c, 0, none⟩) e).trans h.c0, ⟨p, hp, (World.cell?_of_block (w := w1) (a := ⟨c, 1, none⟩) e).trans h1⟩, fun k => (World.frozen?_of_block (w := w1) (a := ⟨c, k, none⟩) e).trans (h.f k),
    fun j hj => ⟨(h.code j hj).1, (h.code j hj).2.1, (World.cell?_of_block (w := w1) (a := ⟨b, off + j, none⟩) (g.block b (h.code.lt (by omega)) (hb (by omega)))).trans (h.code j hj).2.2⟩, h.ne⟩

set_option maxHeartbeats 3200000 in
set_option maxRecDepth 100000 in
theorem l1DrawNat_any (c : Nat) (a : Option Addr) (b off n cap : Nat) (X : Nat → Nat) (w : World) (hn : n ≤ 1048576) (R : Rd w c a b off n cap X) (hbl : 0 < n → b < w.heap.size) :
    Calls Try.prog 45 #[.pointer (some ⟨c, 0, none⟩)] w fun e w' => ∃ g t cap' D, e = .returned (.slice (some ⟨g, 0, none⟩) t cap') ∧ t ≤ cap' ∧ t ≤ 11 ∧ Limbs w' (some ⟨g, 0, none⟩) g 0 t D ∧ (∀ j, j < t → D j < 4294967296) ∧ w.heap.size ≤ g ∧ g < w'.heap.size ∧ Rd w' c a b off n cap X ∧ Oth c w w' := by
  obtain ⟨i0, hi, hz0, hz1, hz2⟩ := info_parts Try.info35
  have hcl := R.lt
  go_enter Try.func45, Try.ntmps45
  go_wp2_with fail
  refine (next_any c a b off n cap X w hn R).mono ?_
  rintro e w1 ⟨v, rfl, hv, R1, O1⟩
  by_cases c1 : (v : Int) % 5 = 4
  · have h1 : ((v : Int) % 5 == 4) = true := by simp [c1]
    clear c1
    go_wp2_with fail
    refine (left_any c a b off n cap X w1 hn R1).mono ?_
    rintro e w2 ⟨q, rfl, hq, s2⟩
    have O2 := O1.trans (Oth.ofSame c s2)
    have R2 := R1.same s2
    clear O1 R1 s2
    obtain ⟨M, hM⟩ : ∃ M : Nat, 4 + (q : Int) / 12 = (M : Int) := ⟨4 + q / 12, by omega⟩
    by_cases c2 : (10 : Int) < (M : Int)
    · obtain ⟨N, hN⟩ : ∃ N : Nat, N = 10 := ⟨_, rfl⟩
      have hN' : (N : Int) = 10 := by omega
      go_wp2_with fail
      rw [← hN']
      have hNl : N ≤ 10 := by omega
      clear hN hN'
      go_loopw [5, 6] (fun o t wr => ∃ (k : Nat) (D : Nat → Nat), k ≤ N ∧ t = .int .i64 k ∧ Hid (o ≠ .slice none 0 0) ∧ wr.ownsRow w.heap.size 35 1 o k (ll D k) ∧ Hid (∀ j, j < k → D j < 4294967296) ∧ Rd wr c a b off n cap X ∧ Oth c w wr) (fun _ t _ => N - (intOf t).toNat)
      case atStart => exact ⟨0, fun _ => 0, Nat.zero_le _, rfl, hide (by simp), World.ownsRow_made w2 #[] 0 O2.size (by decide) rfl, hide (fun j hj => absurd hj (by omega)), R2.keep ((World.Since.refl _ _).alloc (Nat.le_refl _) _), O2.trans (Oth.ofSince c ((World.Since.refl _ _).alloc (Nat.le_refl _) _))⟩
      case round =>
        obtain ⟨k, D, hkN, rfl, HN0, hown, HD, R2, O2⟩ := hrel
        have hs2 := O2.size
        by_cases hlt : k < N
        · go_wp2_with fail
          refine (l1DrawLimb_any c a b off n cap X wr hn R2).mono ?_
          rintro e w2 ⟨x, rfl, hx, R3, O3⟩
          have own3 := own_oth hown O3 hcl
          have hs3 := O3.size
          have O03 := O2.trans O3
          clear hown R2 O3 O2
          go_wp2_with (at_builtin; refine wpList_append_own _ rfl _ _ 23 rfl w.heap.size 35 i0 (.int .u32 0) 1 4 Try.underlying23 hi hz0 hz1 hz2 rfl (by decide) _ _ _ rfl (own3.alloc _) ⟨w2.heap.size, 0, none⟩ 1 1 [.int .u32 x] rfl rfl (new_cell _ _ _) (one_one _ rfl) (by unfold maxLen; omega) (by omega) (by simp; omega) ?_)
          intro v' w3 hown' hgrow hnn
          rw [show ll D k ++ [.int .u32 (x : Int)] = ll (upd D k x) (k + 1) from by rw [ll_succ, upd_same, ll_congr (fun j hj => upd_other _ _ _ _ (show j ≠ k by omega))]] at hown'
          have sW := (World.Since.refl w2.heap.size w2).alloc (Nat.le_refl _) (.cells #[.int .u32 (x : Int)] 35)
          have hlow := fun q hq => (own3.lt q hq).1
          have O4 : Oth c w w3 := (O03.trans (Oth.ofSince c sW)).grown hgrow hlow
          have R4 : Rd w3 c a b off n cap X := (R3.keep sW).grown hgrow (fun e => by have := hlow c e.symm; omega) (fun h0 e => by have := hlow b e.symm; have := hbl h0; omega)
          have HN1 := hide hnn
          have HD1 : Hid (∀ j, j < k + 1 → upd D k x j < 4294967296) := hide (fun j hj => by
            by_cases e2 : j = k
            · subst e2; rw [upd_same]; exact hx
            · rw [upd_other _ _ _ _ e2]; exact HD.out j (by omega))
          clear hgrow own3 hnn HN0 HD R3 O03 sW hlow
          go_wp2
          go_roundw
          case rel => exact ⟨k + 1, _, by omega, by go_num, HN1, hown', HD1, R4, O4⟩
          case measure => simp [intOf]; omega
        · have e : k = N := by omega
          subst e
          by_cases h224 : (224 : Int) ≤ (v : Int)
          · go_wp2_with (at_builtin; refine wpList_append_own _ rfl _ _ 23 rfl w.heap.size 35 i0 (.int .u32 0) 1 4 Try.underlying23 hi hz0 hz1 hz2 rfl (by decide) _ _ _ rfl (hown.alloc _) ⟨wr.heap.size, 0, none⟩ 1 1 [.int .u32 0] rfl rfl (new_cell _ _ _) (one_one _ rfl) (by unfold maxLen; omega) (by omega) (by simp; omega) ?_)
            intro v' w3 hown' hgrow hnn
            rw [show ll D k ++ [.int .u32 0] = ll (upd D k 0) (k + 1) from by rw [ll_succ, upd_same, ll_congr (fun j hj => upd_other _ _ _ _ (show j ≠ k by omega))]; rfl] at hown'
            have sW := (World.Since.refl wr.heap.size wr).alloc (Nat.le_refl _) (.cells #[.int .u32 0] 35)
            have hlow := fun q hq => (hown.lt q hq).1
            have O4 : Oth c w w3 := (O2.trans (Oth.ofSince c sW)).grown hgrow hlow
            have R4 : Rd w3 c a b off n cap X := (R2.keep sW).grown hgrow (fun e => by have := hlow c e.symm; omega) (fun h0 e => by have := hlow b e.symm; have := hbl h0; omega)
            obtain ⟨g, cap3, rfl, hmc, hbg, hgl, L3, -⟩ := own_limbs_some hown' hnn
            clear hgrow hown sW hlow R2 O2
            go_wp2
            go_ret
            refine ⟨g, k + 1, cap3, upd D k 0, rfl, hmc, by omega, L3, fun j hj => ?_, hbg, hgl, R4, O4⟩
            by_cases e2 : j = k
            · subst e2; rw [upd_same]; omega
            · rw [upd_other _ _ _ _ e2]; exact HD.out j (by omega)
          · obtain ⟨g, cap3, rfl, hmc, hbg, hgl, L3, -⟩ := own_limbs_some hown HN0.out
            go_wp2
            go_ret

            first
            | exact ⟨g, k, cap3, D, rfl, hmc, by omega, L3, HD.out, hbg, hgl, R2, O2⟩
            | exact ⟨g, k, cap3, rfl, hmc, by omega, D, L3, HD.out, hbg, hgl, R2, O2⟩
    · obtain ⟨N, hN⟩ : ∃ N : Nat, N = M := ⟨_, rfl⟩
      subst hN
      have hNl : N ≤ 10 := by omega
      go_wp2_with fail
      go_loopw [5, 6] (fun o t wr => ∃ (k : Nat) (D : Nat → Nat), k ≤ N ∧ t = .int .i64 k ∧ Hid (o ≠ .slice none 0 0) ∧ wr.ownsRow w.heap.size 35 1 o k (ll D k) ∧ Hid (∀ j, j < k → D j < 4294967296) ∧ Rd wr c a b off n cap X ∧ Oth c w wr) (fun _ t _ => N - (intOf t).toNat)
      case atStart => exact ⟨0, fun _ => 0, Nat.zero_le _, rfl, hide (by simp), World.ownsRow_made w2 #[] 0 O2.size (by decide) rfl, hide (fun j hj => absurd hj (by omega)), R2.keep ((World.Since.refl _ _).alloc (Nat.le_refl _) _), O2.trans (Oth.ofSince c ((World.Since.refl _ _).alloc (Nat.le_refl _) _))⟩
      case round =>
        obtain ⟨k, D, hkN, rfl, HN0, hown, HD, R2, O2⟩ := hrel
        have hs2 := O2.size
        by_cases hlt : k < N
        · go_wp2_with fail
          refine (l1DrawLimb_any c a b off n cap X wr hn R2).mono ?_
          rintro e w2 ⟨x, rfl, hx, R3, O3⟩
          have own3 := own_oth hown O3 hcl
          have hs3 := O3.size
          have O03 := O2.trans O3
          clear hown R2 O3 O2
          go_wp2_with (at_builtin; refine wpList_append_own _ rfl _ _ 23 rfl w.heap.size 35 i0 (.int .u32 0) 1 4 Try.underlying23 hi hz0 hz1 hz2 rfl (by decide) _ _ _ rfl (own3.alloc _) ⟨w2.heap.size, 0, none⟩ 1 1 [.int .u32 x] rfl rfl (new_cell _ _ _) (one_one _ rfl) (by unfold maxLen; omega) (by omega) (by simp; omega) ?_)
          intro v' w3 hown' hgrow hnn
          rw [show ll D k ++ [.int .u32 (x : Int)] = ll (upd D k x) (k + 1) from by rw [ll_succ, upd_same, ll_congr (fun j hj => upd_other _ _ _ _ (show j ≠ k by omega))]] at hown'
          have sW := (World.Since.refl w2.heap.size w2).alloc (Nat.le_refl _) (.cells #[.int .u32 (x : Int)] 35)
          have hlow := fun q hq => (own3.lt q hq).1
          have O4 : Oth c w w3 := (O03.trans (Oth.ofSince c sW)).grown hgrow hlow
          have R4 : Rd w3 c a b off n cap X := (R3.keep sW).grown hgrow (fun e => by have := hlow c e.symm; omega) (fun h0 e => by have := hlow b e.symm; have := hbl h0; omega)
          have HN1 := hide hnn
          have HD1 : Hid (∀ j, j < k + 1 → upd D k x j < 4294967296) := hide (fun j hj => by
            by_cases e2 : j = k
            · subst e2; rw [upd_same]; exact hx
            · rw [upd_other _ _ _ _ e2]; exact HD.out j (by omega))
          clear hgrow own3 hnn HN0 HD R3 O03 sW hlow
          go_wp2
          go_roundw
          case rel => exact ⟨k + 1, _, by omega, by go_num, HN1, hown', HD1, R4, O4⟩
          case measure => simp [intOf]; omega
        · have e : k = N := by omega
          subst e
          by_cases h224 : (224 : Int) ≤ (v : Int)
          · go_wp2_with (at_builtin; refine wpList_append_own _ rfl _ _ 23 rfl w.heap.size 35 i0 (.int .u32 0) 1 4 Try.underlying23 hi hz0 hz1 hz2 rfl (by decide) _ _ _ rfl (hown.alloc _) ⟨wr.heap.size, 0, none⟩ 1 1 [.int .u32 0] rfl rfl (new_cell _ _ _) (one_one _ rfl) (by unfold maxLen; omega) (by omega) (by simp; omega) ?_)
            intro v' w3 hown' hgrow hnn
            rw [show ll D k ++ [.int .u32 0] = ll (upd D k 0) (k + 1) from by rw [ll_succ, upd_same, ll_congr (fun j hj => upd_other _ _ _ _ (show j ≠ k by omega))]; rfl] at hown'
            have sW := (World.Since.refl wr.heap.size wr).alloc (Nat.le_refl _) (.cells #[.int .u32 0] 35)
            have hlow := fun q hq => (hown.lt q hq).1
            have O4 : Oth c w w3 := (O2.trans (Oth.ofSince c sW)).grown hgrow hlow
            have R4 : Rd w3 c a b off n cap X := (R2.keep sW).grown hgrow (fun e => by have := hlow c e.symm; omega) (fun h0 e => by have := hlow b e.symm; have := hbl h0; omega)
            obtain ⟨g, cap3, rfl, hmc, hbg, hgl, L3, -⟩ := own_limbs_some hown' hnn
            clear hgrow hown sW hlow R2 O2
            go_wp2
            go_ret
            refine ⟨g, k + 1, cap3, upd D k 0, rfl, hmc, by omega, L3, fun j hj => ?_, hbg, hgl, R4, O4⟩
            by_cases e2 : j = k
            · subst e2; rw [upd_same]; omega
            · rw [upd_other _ _ _ _ e2]; exact HD.out j (by omega)
          · obtain ⟨g, cap3, rfl, hmc, hbg, hgl, L3, -⟩ := own_limbs_some hown HN0.out
            go_wp2
            go_ret

            first
            | exact ⟨g, k, cap3, D, rfl, hmc, by omega, L3, HD.out, hbg, hgl, R2, O2⟩
            | exact ⟨g, k, cap3, rfl, hmc, by omega, D, L3, HD.out, hbg, hgl, R2, O2⟩
  · have h1 : ((v : Int) % 5 == 4) = false := by simp [c1]
    clear c1
    obtain ⟨N, hN⟩ : ∃ N : Nat, (v : Int) % 6 = (N : Int) := ⟨v % 6, by omega⟩
    have hNl : N ≤ 10 := by omega
    go_wp2_with fail
    rw [hN]
    clear hN
    go_loopw [5, 6] (fun o t wr => ∃ (k : Nat) (D : Nat → Nat), k ≤ N ∧ t = .int .i64 k ∧ Hid (o ≠ .slice none 0 0) ∧ wr.ownsRow w.heap.size 35 1 o k (ll D k) ∧ Hid (∀ j, j < k → D j < 4294967296) ∧ Rd wr c a b off n cap X ∧ Oth c w wr) (fun _ t _ => N - (intOf t).toNat)
    case atStart => exact ⟨0, fun _ => 0, Nat.zero_le _, rfl, hide (by simp), World.ownsRow_made w1 #[] 0 O1.size (by decide) rfl, hide (fun j hj => absurd hj (by omega)), R1.keep ((World.Since.refl _ _).alloc (Nat.le_refl _) _), O1.trans (Oth.ofSince c ((World.Since.refl _ _).alloc (Nat.le_refl _) _))⟩
    case round =>
      obtain ⟨k, D, hkN, rfl, HN0, hown, HD, R2, O2⟩ := hrel
      have hs2 := O2.size
      by_cases hlt : k < N
      · go_wp2_with fail
        refine (l1DrawLimb_any c a b off n cap X wr hn R2).mono ?_
        rintro e w2 ⟨x, rfl, hx, R3, O3⟩
        have own3 := own_oth hown O3 hcl
        have hs3 := O3.size
        have O03 := O2.trans O3
        clear hown R2 O3 O2
        go_wp2_with (at_builtin; refine wpList_append_own _ rfl _ _ 23 rfl w.heap.size 35 i0 (.int .u32 0) 1 4 Try.underlying23 hi hz0 hz1 hz2 rfl (by decide) _ _ _ rfl (own3.alloc _) ⟨w2.heap.size, 0, none⟩ 1 1 [.int .u32 x] rfl rfl (new_cell _ _ _) (one_one _ rfl) (by unfold maxLen; omega) (by omega) (by simp; omega) ?_)
        intro v' w3 hown' hgrow hnn
        rw [show ll D k ++ [.int .u32 (x : Int)] = ll (upd D k x) (k + 1) from by rw [ll_succ, upd_same, ll_congr (fun j hj => upd_other _ _ _ _ (show j ≠ k by omega))]] at hown'
        have sW := (World.Since.refl w2.heap.size w2).alloc (Nat.le_refl _) (.cells #[.int .u32 (x : Int)] 35)
        have hlow := fun q hq => (own3.lt q hq).1
        have O4 : Oth c w w3 := (O03.trans (Oth.ofSince c sW)).grown hgrow hlow
        have R4 : Rd w3 c a b off n cap X := (R3.keep sW).grown hgrow (fun e => by have := hlow c e.symm; omega) (fun h0 e => by have := hlow b e.symm; have := hbl h0; omega)
        have HN1 := hide hnn
        have HD1 : Hid (∀ j, j < k + 1 → upd D k x j < 4294967296) := hide (fun j hj => by
          by_cases e2 : j = k
          · subst e2; rw [upd_same]; exact hx
          · rw [upd_other _ _ _ _ e2]; exact HD.out j (by omega))
        clear hgrow own3 hnn HN0 HD R3 O03 sW hlow
        go_wp2
        go_roundw
        case rel => exact ⟨k + 1, _, by omega, by go_num, HN1, hown', HD1, R4, O4⟩
        case measure => simp [intOf]; omega
      · have e : k = N := by omega
        subst e
        by_cases h224 : (224 : Int) ≤ (v : Int)
        · go_wp2_with (at_builtin; refine wpList_append_own _ rfl _ _ 23 rfl w.heap.size 35 i0 (.int .u32 0) 1 4 Try.underlying23 hi hz0 hz1 hz2 rfl (by decide) _ _ _ rfl (hown.alloc _) ⟨wr.heap.size, 0, none⟩ 1 1 [.int .u32 0] rfl rfl (new_cell _ _ _) (one_one _ rfl) (by unfold maxLen; omega) (by omega) (by simp; omega) ?_)
          intro v' w3 hown' hgrow hnn
          rw [show ll D k ++ [.int .u32 0] = ll (upd D k 0) (k + 1) from by rw [ll_succ, upd_same, ll_congr (fun j hj => upd_other _ _ _ _ (show j ≠ k by omega))]; rfl] at hown'
          have sW := (World.Since.refl wr.heap.size wr).alloc (Nat.le_refl _) (.cells #[.int .u32 0] 35)
          have hlow := fun q hq => (hown.lt q hq).1
          have O4 : Oth c w w3 := (O2.trans (Oth.ofSince c sW)).grown hgrow hlow
          have R4 : Rd w3 c a b off n cap X := (R2.keep sW).grown hgrow (fun e => by have := hlow c e.symm; omega) (fun h0 e => by have := hlow b e.symm; have := hbl h0; omega)
          obtain ⟨g, cap3, rfl, hmc, hbg, hgl, L3, -⟩ := own_limbs_some hown' hnn
          clear hgrow hown sW hlow R2 O2
          go_wp2
          go_ret
          refine ⟨g, k + 1, cap3, upd D k 0, rfl, hmc, by omega, L3, fun j hj => ?_, hbg, hgl, R4, O4⟩
          by_cases e2 : j = k
          · subst e2; rw [upd_same]; omega
          · rw [upd_other _ _ _ _ e2]; exact HD.out j (by omega)
        · obtain ⟨g, cap3, rfl, hmc, hbg, hgl, L3, -⟩ := own_limbs_some hown HN0.out
          go_wp2
          go_ret

          first
          | exact ⟨g, k, cap3, D, rfl, hmc, by omega, L3, HD.out, hbg, hgl, R2, O2⟩
          | exact ⟨g, k, cap3, rfl, hmc, by omega, D, L3, HD.out, hbg, hgl, R2, O2⟩

end Go.Proofs.Ytdfcckifbbeoiaa

namespace Go.Proofs.Ytdfcckifbbeoiaa
open Go.RowKit

set_option maxHeartbeats 800000 in
set_option maxRecDepth 100000 in
theorem l1Open_any (a : Option Addr) (b off n cap : Nat) (X : Nat → Nat) (w : World) (hC : Code w a b off n X) :
    Calls Try.prog 43 #[.slice a n cap] w fun e w' => e = .returned (.pointer (some ⟨w.heap.size, 0, none⟩)) ∧ Rd w' w.heap.size a b off n cap X ∧ w.Since w.heap.size w' := by
  have sA : w.Since w.heap.size (w.alloc (.cells #[.slice a n cap, .int .i64 0] 92)) := (World.Since.refl _ _).alloc (Nat.le_refl _) _
  go_enter Try.func43, Try.ntmps43
  go_wp2
  go_ret
  exact ⟨rfl, ⟨by simp, ⟨0, Nat.zero_le _, by simp⟩, fun k => by simp, hC.keep sA, fun h => Nat.ne_of_lt (hC.lt h)⟩, sA⟩

/-- A list of limbs in an answer, whatever it holds. -/
def Some32 (w : World) (v : Value) (M : Nat) : Prop := ∃ a g n cap X, v = .slice a n cap ∧ n ≤ cap ∧ n ≤ M ∧ (a = none → cap = 0) ∧ Limbs w a g 0 n X ∧ ∀ j, j < n → X j < 4294967296

set_option maxHeartbeats 3200000 in
set_option maxRecDepth 100000 in
theorem drawNatDivMod_any (a : Option Addr) (b off n cap : Nat) (X : Nat → Nat) (w : World) (hn : n ≤ 1048576) (hC : Code w a b off n X) :
    Calls Try.prog 12 #[.slice a n cap] w fun e w' => ∃ v1 v2, e = .returned (.tuple #[v1, v2]) ∧ Some32 w' v1 64 ∧ Some32 w' v2 64 ∧ w.Since w.heap.size w' := by
  have hbl := hC.lt
  go_enter Try.func12, Try.ntmps12
  go_wp2_with fail
  refine (l1Open_any a b off n cap X w hC).mono ?_
  rintro e w1 ⟨rfl, R1, s1⟩
  have z1 := s1.size
  go_wp2_with fail
  refine (next_any w.heap.size a b off n cap X w1 hn R1).mono ?_
  rintro e w2 ⟨k, rfl, hk, R2, O2⟩
  have O02 := (Oth.ofSince w.heap.size s1).trans O2
  have z2 := O02.size
  clear R1 s1 O2
  go_wp2_with fail
  refine (l1DrawNat_any w.heap.size a b off n cap X w2 hn R2 (fun h => by have := hbl h; omega)).mono ?_
  rintro e w3 ⟨gb, nb, cb, B, rfl, kb1, kb2, LB, lB, kb3, kb4, R3, O3⟩
  have O03 := O02.trans O3
  have z3 := O03.size
  have r2l := R2.lt
  clear R2 O3 O02
  go_wp2_with fail
  refine (l1DrawNat_any w.heap.size a b off n cap X w3 hn R3 (fun h => by have := hbl h; omega)).mono ?_
  rintro e w4 ⟨ga, na, ca, A, rfl, ka1, ka2, LA, lA, ka3, ka4, R4, O4⟩
  have O04 := O03.trans O4
  have rl := R3.lt
  have z4 := O4.size
  have LB4 := LB.oth O4 (fun h => by omega)
  have S4 : w.Since w.heap.size w4 := O04.since (Nat.le_refl _)
  clear R3 O4 O03 LB R4 O04
  have SA : Some32 w4 (.slice (some ⟨ga, 0, none⟩) na ca) 64 := ⟨_, ga, na, ca, A, rfl, ka1, by omega, fun h => (by cases h), LA, lA⟩
  have SB : Some32 w4 (.slice (some ⟨gb, 0, none⟩) nb cb) 64 := ⟨_, gb, nb, cb, B, rfl, kb1, by omega, fun h => (by cases h), LB4, lB⟩
  by_cases c1 : (k : Int) % 2 = 1
  · have h1 : ((k : Int) % 2 == 1) = true := by simp [c1]
    go_wp2_with fail
    refine (l1Bits_any (some ⟨ga, 0, none⟩) ga 0 na ca A w4 (by omega) LA lA).mono ?_
    rintro e w5 ⟨a5, g5, m5, c5, B5, rfl, k51, k52, L5, -, p5, e5, s5⟩
    have S5 : w.Since w.heap.size w5 := S4.trans (sinceMono s5 S4.size)
    go_wp2_with fail
    refine (l1Bits_any (some ⟨gb, 0, none⟩) gb 0 nb cb B w5 (by omega) (LB4.keep s5) lB).mono ?_
    rintro e w6 ⟨a6, g6, m6, c6, B6, rfl, k61, k62, L6, -, p6, e6, s6⟩
    have S6 : w.Since w.heap.size w6 := S5.trans (sinceMono s6 S5.size)
    go_wp2_with fail
    refine (l1MulBits_any a5 a6 g5 0 m5 c5 g6 0 m6 c6 B5 B6 w6 (by omega) (by omega) (L5.keep s6) L6).mono ?_
    rintro e w7 ⟨g7, t7, c7, B7, rfl, k71, k72, L7, -, p7, e7, s7⟩
    have S7 : w.Since w.heap.size w7 := S6.trans (sinceMono s7 S6.size)
    have LB7 := ((LB4.keep s5).keep s6).keep s7
    have LA7 := ((LA.keep s5).keep s6).keep s7
    clear L5 L6 e5 e6 e7 p5 p6 s5 s6 s7 LB4 LA SA SB S4 S5 S6
    obtain ⟨kk, hkk⟩ : ∃ kk : Nat, (k : Int) / 16 = (kk : Int) := ⟨k / 16, by omega⟩
    have hkl : kk < 18446744073709551616 := by omega
    go_wp2_with fail
    refine (l1BitsOf_any kk w7 hkl).mono ?_
    rintro e w8 ⟨x8, t8, B8, rfl, k8, T8, -, s8⟩
    have S8 : w.Since w.heap.size w8 := S7.trans (sinceMono s8 S7.size)
    have L78 := L7.keep s8
    have LB8 := LB7.keep s8
    have LA8 := LA7.keep s8
    clear LB7 LA7 L7 s8 S7
    obtain ⟨a8, b8, o8, c8, rfl, k81, L8, p8⟩ := T8
    have SB8 : Some32 w8 (.slice (some ⟨gb, 0, none⟩) nb cb) 64 := ⟨_, gb, nb, cb, B, rfl, kb1, by omega, fun h => (by cases h), LB8, lB⟩
    have SA8 : Some32 w8 (.slice (some ⟨ga, 0, none⟩) na ca) 64 := ⟨_, ga, na, ca, A, rfl, ka1, by omega, fun h => (by cases h), LA8, lA⟩
    by_cases c2 : (k : Int) % 4 = 1
    · have h2 : ((k : Int) % 4 == 1) = true := by simp [c2]
      go_wp2_with fail
      refine (l1AddBits_any (some ⟨g7, 0, none⟩) a8 g7 0 t7 c7 b8 o8 t8 c8 B7 B8 w8 (by omega) (by omega) L78 L8).mono ?_
      rintro e wA ⟨gA, tA, cA, DA, rfl, kA1, kA2, LA1, -, pA, eA, sA⟩
      have SA1 : w.Since w.heap.size wA := S8.trans (sinceMono sA S8.size)
      have LBA := LB8.keep sA
      go_wp2_with fail
      refine (l1Limbs_any2 (some ⟨gA, 0, none⟩) gA 0 tA cA DA wA (by omega) kA1 LA1).mono ?_
      rintro e wB ⟨aB, gB, mB, capB, YB, rfl, kB1, kB2, kB3, LB1, -, -, lB1, -, -, sB⟩
      have SB1 : w.Since w.heap.size wB := SA1.trans (sinceMono sB SA1.size)
      go_wp2
      go_ret2
      exact ⟨_, _, rfl, ⟨_, gB, mB, capB, YB, rfl, kB1, by omega, kB2, LB1, fun j _ => lB1 j⟩, ⟨_, gb, nb, cb, B, rfl, kb1, by omega, fun h => (by cases h), LBA.keep sB, lB⟩, SB1⟩
    · have h2 : ((k : Int) % 4 == 1) = false := by simp [c2]
      go_wp2_with fail
      refine (l1CmpBits_any (some ⟨g7, 0, none⟩) a8 g7 0 t7 c7 b8 o8 t8 c8 B7 B8 w8 (by omega) (by omega) L78 L8 p7 p8).mono ?_
      rintro e w9 ⟨rfl, s9⟩
      by_cases hle : bv B8 t8 ≤ bv B7 t7
      · have hcp := cmpN_nonneg hle
        have htl : t8 ≤ t7 := by
          rcases Nat.lt_or_ge t7 t8 with h | h
          · have := bv_short (A := B7) (B := B8) h p8
            omega
          · exact h
        have HLE := hide hle
        clear hle
        have S9 : w.Since w.heap.size w9 := S8.trans (s9.since _)
        go_wp2_with fail
        refine (l1SubBits_any (some ⟨g7, 0, none⟩) a8 g7 0 t7 c7 b8 o8 t8 c8 B7 B8 w9 (by omega) htl (L78.same s9) (L8.same s9) HLE.out).mono ?_
        rintro e wA ⟨gA, tA, cA, DA, rfl, kA1, kA2, LA1, -, pA, eA, sA⟩
        have SA1 : w.Since w.heap.size wA := S9.trans (sinceMono sA S9.size)
        have LBA := (LB8.same s9).keep sA
        go_wp2_with fail
        refine (l1Limbs_any2 (some ⟨gA, 0, none⟩) gA 0 tA cA DA wA (by omega) kA1 LA1).mono ?_
        rintro e wB ⟨aB, gB, mB, capB, YB, rfl, kB1, kB2, kB3, LB1, -, -, lB1, -, -, sB⟩
        have SB1 : w.Since w.heap.size wB := SA1.trans (sinceMono sB SA1.size)
        go_wp2
        go_ret2
        exact ⟨_, _, rfl, ⟨_, gB, mB, capB, YB, rfl, kB1, by omega, kB2, LB1, fun j _ => lB1 j⟩, ⟨_, gb, nb, cb, B, rfl, kb1, by omega, fun h => (by cases h), LBA.keep sB, lB⟩, SB1⟩
      · have hcp := cmpN_neg (Nat.lt_of_not_le hle)
        have hge : ¬ ((0 : Int) ≤ cmpN (bv B7 t7) (bv B8 t8)) := by omega
        clear hle
        go_wp2_with fail
        go_ret2
        exact ⟨_, _, rfl, ⟨_, ga, na, ca, A, rfl, ka1, by omega, fun h => (by cases h), LA8.same s9, lA⟩, ⟨_, gb, nb, cb, B, rfl, kb1, by omega, fun h => (by cases h), LB8.same s9, lB⟩, S8.trans (s9.since _)⟩
  · have h1 : ((k : Int) % 2 == 1) = false := by simp [c1]
    go_wp2_with fail
    go_ret2
    exact ⟨_, _, rfl, SA, SB, S4⟩

end Go.Proofs.Ytdfcckifbbeoiaa
