import Derived.Test.YtnogbaapcjjngaaGreatDoorOwnP6
import Derived.Test.YtnogbaapcjjngaaGreatDoorOwnP29
import Derived.Test.YtnogbaapcjjngaaGreatDoorOwnP22
import Derived.Test.YtnogbaapcjjngaaGreatDoorOwnP19
import Derived.Test.YtnogbaapcjjngaaGreatDoorOwnP25
import Derived.Test.YtnogbaapcjjngaaGreatDoorOwnP10
set_option maxHeartbeats 6400000
set_option maxRecDepth 100000
namespace Go.Proofs.YtnogbaapcjjngaaGreatDoor
open Go.RowKit
def runs (s : ByteArray) : ByteArray := if sgn s then s.extract 1 s.size else s
def pTop (u : ByteArray) : ByteArray := if firstIdx u 47 = -1 then u else u.extract 0 (firstIdx u 47).toNat
def pBot (u : ByteArray) : ByteArray := if firstIdx u 47 = -1 then ⟨#[49]⟩ else u.extract ((firstIdx u 47).toNat + 1) u.size
def xq2 (s : ByteArray) : Bool × Nat × Nat × Int :=
 let t := pTop (runs s)
 let b := pBot (runs s)
 if !(digB t && digB b) then (false, 0, 1, 1)
 else if 400 < t.size ∨ 400 < b.size then (false, 0, 1, 2)
 else if dv b b.size = 0 then (false, 0, 1, 3)
 else (sgn s && dv t t.size != 0, dv t t.size / Nat.gcd (dv t t.size) (dv b b.size), dv b b.size / Nat.gcd (dv t t.size) (dv b b.size), 0)
theorem runs_size (s : ByteArray) : (runs s).size <= s.size := by
 unfold runs
 split
 . rcases Nat.eq_zero_or_pos s.size with h | h
   . rw [Lib.size_eq, Lib.extract_data, List.length_take, List.length_drop, <- Lib.size_eq]; omega
   . rw [yj8 s (by omega) (Nat.le_refl _)]; omega
 . exact Nat.le_refl _
theorem parts_size (u : ByteArray) : (pTop u).size <= u.size + 1 /\ (pBot u).size <= u.size + 1 := by
 unfold pTop pBot
 rcases yj6 u with ⟨h, -⟩ | ⟨i, hi, h, -, -⟩
 . rw [if_pos h, if_pos h]; exact ⟨by omega, by show 1 <= _; omega⟩
 . have hn : ¬ firstIdx u 47 = -1 := by rw [h]; omega
   rw [if_neg hn, if_neg hn, h, Int.toNat_natCast, yj8 u (by omega) (by omega), yj8 u (by omega) (Nat.le_refl _)]; omega
theorem digB_digs {s : ByteArray} (h : digB s = true) : ∀ k, k < s.size -> 48 <= bt s k /\ bt s k <= 57 := by
 unfold digB at h; simp only [Bool.and_eq_true, decide_eq_true_iff] at h; exact h.1
theorem implRatParse_any (s : ByteArray) (w : World) (hs : s.size <= 16777216) (hw : 0 <= w.heap.size) (hT : Tab w) :
 Calls Tryz.prog 83 #[.string s] w fun e w' => ∃ v, e = .returned (.tuple #[v, .int .i64 (xq2 s).2.2.2]) /\ RatV w' v (xq2 s).1 (xq2 s).2.1 (xq2 s).2.2.1 w.heap.size 67108864 /\ w.Since w.heap.size w' := by
 have hrs := runs_size s; have hps := parts_size (runs s); have sA := sal w (.cells #[.bool false, .slice none 0 0, .slice none 0 0] 61); have rA := Box3.new w (.bool false) (.slice none 0 0) (.slice none 0 0) 61; go_enter Tryz.func83, Tryz.ntmps83; go_wp2_with fail; generalize w.alloc (.cells #[.bool false, .slice none 0 0, .slice none 0 0] 61) = wA at *; refine (cutPrefix_any s _ _ (by omega) (by decide) (by decide)).mono ?_; rintro e w1 ⟨s1, rfl⟩; rw [show (if sgn s then s.extract 1 s.size else s) = runs s from rfl]; go_wp2_with fail; refine (cut_any (runs s) _ _ (by omega) (by decide) (by decide)).mono ?_; rintro e w2 ⟨s2, h⟩; have sm : Same wA w2 := ⟨s2.os.trans s1.os, s2.tape.trans s1.tape, s2.output.trans s1.output, s2.heap.trans s1.heap⟩; have S2 := sA.trans (sM (sm.since wA.heap.size) sA.size); have r2 := rA.keep (sm.since _); clear sA rA s1 s2 sm
 rcases h with ⟨hi, rfl⟩ | ⟨i, hil, hi, rfl⟩
 focus
  obtain ⟨t, ht0⟩ : ∃ t, t = runs s := ⟨_, rfl⟩; obtain ⟨b, hb0⟩ : ∃ b, b = (⟨#[49]⟩ : ByteArray) := ⟨_, rfl⟩; have te : pTop (runs s) = runs s := by unfold pTop; rw [if_pos hi]
  have be : pBot (runs s) = ⟨#[49]⟩ := by unfold pBot; rw [if_pos hi]
  clear hi; rw [<- ht0]; have hbL : (⟨#[49]⟩ : ByteArray) = b := hb0.symm
 rotate_left
 focus
  obtain ⟨t, ht0⟩ : ∃ t, t = (runs s).extract 0 i := ⟨_, rfl⟩; obtain ⟨b, hb0⟩ : ∃ b, b = (runs s).extract (i + 1) (runs s).size := ⟨_, rfl⟩; have hin : ¬ firstIdx (runs s) 47 = -1 := by rw [hi]; omega
  have te : pTop (runs s) = (runs s).extract 0 i := by unfold pTop; rw [if_neg hin, hi, Int.toNat_natCast]
  have be : pBot (runs s) = (runs s).extract (i + 1) (runs s).size := by unfold pBot; rw [if_neg hin, hi, Int.toNat_natCast]
  clear hi hin hil; rw [<- ht0, <- hb0]
 all_goals
  have htp : pTop (runs s) = t := te.trans ht0.symm; have hbp : pBot (runs s) = b := be.trans hb0.symm; have hts : t.size <= 16777217 := by rw [<- htp]; omega
  have hbs : b.size <= 16777217 := by rw [<- hbp]; omega
  have HTP := hide htp; have HBP := hide hbp; clear ht0 hb0 htp hbp hps hrs; have JD1 := isDigits_any t w2 hts
  by_cases d1 : digB t = true
  . rw [d1] at JD1
    go_wp2_with fail; refine JD1.mono ?_; rintro e w3 ⟨rfl, s3⟩; have r3 := r2.keep (s3.since _); have S3 := S2.trans (s3.since _); have JD2 := isDigits_any b w3 hbs
    by_cases d2 : digB b = true
    . rw [d2] at JD2
      go_wp2_with fail; refine JD2.mono ?_; rintro e w4 ⟨rfl, s4⟩; have r4 := r3.keep (s4.since _); have S4 := S3.trans (s4.since _); clear JD1 JD2 r2 r3 S2 S3 s3 s4
      by_cases l1 : 400 < t.size
      . have l1' : (400 : Int) < (t.size : Int) := by omega
        have hpo : xq2 s = (false, 0, 1, 2) := by unfold xq2; simp only [HTP.out, HBP.out, d1, d2]; simp [l1]
        have HPO := hide hpo; clear hpo; go_wp2_with fail; refine (xk4 w4).mono ?_; rintro e w6 ⟨v, rfl, ⟨x1, x2, g6, h6, rfl, N6, D6, y1, y2, y3⟩, s6⟩; have rB := r4.keep s6; have N6' := N6; have D6' := D6; obtain ⟨a1, q1, c1, Y1, rfl, -⟩ := N6; obtain ⟨a2, q2, c2, Y2, rfl, -⟩ := D6; have S6 := S4.trans (sM s6 S4.size); have z0 := S4.size; have rl := r4.lt; have u0 := rB.c0; have u1 := rB.c1; have u2 := rB.c2; have uf0 := rB.f 0; have uf1 := rB.f 1; have uf2 := rB.f 2; go_wp2; have rC := ((rB.set0 (.bool false)).set1 (.slice a1 q1 c1)).set2 (.slice a2 q2 c2); refine bodyPost_ret (xk6 rfl _ _ _ _ _ _ rfl rC) rfl ?_; have M : xq0 w6 _ w.heap.size := (((xq0.refl w6 _).setCell 0 (.bool false)).setCell 1 (.slice a1 q1 c1)).setCell 2 (.slice a2 q2 c2); rw [HPO.out]; exact ⟨_, rfl, ⟨_, _, g6, h6, rfl, N6'.marked M (by omega), D6'.marked M (by omega), by omega, by omega, y3⟩, S6.trans (M.since (Nat.le_refl _))⟩
      . by_cases l2 : 400 < b.size
        . have l1' : ¬ (400 : Int) < (t.size : Int) := by omega
          have l2' : (400 : Int) < (b.size : Int) := by omega
          have hpo : xq2 s = (false, 0, 1, 2) := by unfold xq2; simp only [HTP.out, HBP.out, d1, d2]; simp [l2]
          have HPO := hide hpo; clear hpo; go_wp2_with fail; refine (xk4 w4).mono ?_; rintro e w6 ⟨v, rfl, ⟨x1, x2, g6, h6, rfl, N6, D6, y1, y2, y3⟩, s6⟩; have rB := r4.keep s6; have N6' := N6; have D6' := D6; obtain ⟨a1, q1, c1, Y1, rfl, -⟩ := N6; obtain ⟨a2, q2, c2, Y2, rfl, -⟩ := D6; have S6 := S4.trans (sM s6 S4.size); have z0 := S4.size; have rl := r4.lt; have u0 := rB.c0; have u1 := rB.c1; have u2 := rB.c2; have uf0 := rB.f 0; have uf1 := rB.f 1; have uf2 := rB.f 2; go_wp2; have rC := ((rB.set0 (.bool false)).set1 (.slice a1 q1 c1)).set2 (.slice a2 q2 c2); refine bodyPost_ret (xk6 rfl _ _ _ _ _ _ rfl rC) rfl ?_; have M : xq0 w6 _ w.heap.size := (((xq0.refl w6 _).setCell 0 (.bool false)).setCell 1 (.slice a1 q1 c1)).setCell 2 (.slice a2 q2 c2); rw [HPO.out]; exact ⟨_, rfl, ⟨_, _, g6, h6, rfl, N6'.marked M (by omega), D6'.marked M (by omega), by omega, by omega, y3⟩, S6.trans (M.since (Nat.le_refl _))⟩
        . have l1' : ¬ (400 : Int) < (t.size : Int) := by omega
          have l2' : ¬ (400 : Int) < (b.size : Int) := by omega
          have dg1 := digB_digs d1; have dg2 := digB_digs d2; go_wp2_with fail; refine (natOfDigits_any t w4 (by omega) dg1).mono ?_; rintro e w5 ⟨v1, g, rfl, N5, k51, k52, s5⟩; have S5 := S4.trans (sM s5 S4.size); have r5 := r4.keep s5; go_wp2_with fail; refine (natOfDigits_any b w5 (by omega) dg2).mono ?_; rintro e w6 ⟨v2, h, rfl, D6, k61, k62, s6⟩; have S6 := S5.trans (sM s6 S5.size); have r6 := r5.keep s6; have N6 := N5.keep s6; have z4 := S4.size; have z5 := s5.size; have z6 := s6.size; have rl4 := r4.lt; have N6' := N6; have D6' := D6; obtain ⟨a1, q1, c1, Y1, rfl, -⟩ := N6; obtain ⟨a2, q2, c2, Y2, rfl, -, -, -, -, -, -, tD, eD⟩ := D6; have t7 := sal w6 (.cells #[.bool (sgn s), .slice a1 q1 c1, .slice a2 q2 c2, .slice none 0 0] 168); have F7 := Box4.new w6 (.bool (sgn s)) (.slice a1 q1 c1) (.slice a2 q2 c2) (.slice none 0 0) 168; have S7 := S6.trans (sM t7 S6.size); have r7 := r6.keep t7; have N7 := (N6'.keep t7).more (show 402 <= 16777216 by omega); have D7 := (D6'.keep t7).more (show 402 <= 16777216 by omega); have z7 : w6.heap.size < (w6.alloc (.cells #[.bool (sgn s), .slice a1 q1 c1, .slice a2 q2 c2, .slice none 0 0] 168)).heap.size := F7.lt; have hz7 := xw4 tD; rw [eD] at hz7; clear tD eD; go_wp2_with fail; generalize (w6.alloc (.cells #[.bool (sgn s), .slice a1 q1 c1, .slice a2 q2 c2, .slice none 0 0] 168)) = w7 at *; generalize hc7 : w6.heap.size = c7 at *; refine (xk9 c7 2 a2 q2 c2 w7 F7.c2).mono ?_; rintro e w8 ⟨rfl, rfl⟩
          by_cases hD : dv b b.size = 0
          . have hq2 : q2 = 0 := hz7.2 hD
            subst hq2
            have hpo : xq2 s = (false, 0, 1, 3) := by
             unfold xq2; simp only [HTP.out, HBP.out, d1, d2]; simp [l1, l2, hD]
            have HPO := hide hpo; clear hpo hz7 hD N7 D7 N5 N6' D6' F7 t7 r6 r5 r4 dg1 dg2; go_wp2_with fail; refine (xk4 w8).mono ?_; rintro e wZ ⟨v, rfl, ⟨x1, x2, gZ, hZ, rfl, NZ, DZ, y1, y2, y3⟩, sZ⟩; have rB := r7.keep sZ; have NZ' := NZ; have DZ' := DZ; obtain ⟨b1, p1, d1', Y1', rfl, -⟩ := NZ; obtain ⟨b2, p2, d2', Y2', rfl, -⟩ := DZ; have S9 := S7.trans (sM sZ S7.size); have z0 := S7.size; have rl := r7.lt; have u0 := rB.c0; have u1 := rB.c1; have u2 := rB.c2; have uf0 := rB.f 0; have uf1 := rB.f 1; have uf2 := rB.f 2; go_wp2; have rC := ((rB.set0 (.bool false)).set1 (.slice b1 p1 d1')).set2 (.slice b2 p2 d2'); refine bodyPost_ret (xk6 rfl _ _ _ _ _ _ rfl rC) rfl ?_; have M : xq0 wZ _ w.heap.size := (((xq0.refl wZ _).setCell 0 (.bool false)).setCell 1 (.slice b1 p1 d1')).setCell 2 (.slice b2 p2 d2'); rw [HPO.out]; exact ⟨_, rfl, ⟨_, _, gZ, hZ, rfl, NZ'.marked M (by omega), DZ'.marked M (by omega), by omega, by omega, y3⟩, S9.trans (M.since (Nat.le_refl _))⟩
          . have hq2 : ((q2 : Int) == 0) = false := by simp; omega
            have hpo : xq2 s = (sgn s && dv t t.size != 0, dv t t.size / Nat.gcd (dv t t.size) (dv b b.size), dv b b.size / Nat.gcd (dv t t.size) (dv b b.size), 0) := by
             unfold xq2; simp only [HTP.out, HBP.out, d1, d2]; simp [l1, l2, hD]
            have HPO := hide hpo; clear hpo; have JN := yv4 c7 (sgn s) (.slice a1 q1 c1) (.slice a2 q2 c2) (.slice none 0 0) g h 0 (dv t t.size) (dv b b.size) 0 (w.heap.size + 1) w8 (Nat.zero_le _) (hT.stay hw S7) F7 N7 D7 (natAt_nil _ _ _) (Nat.dvd_zero _) (by omega) (by omega) (by omega) (by omega) (by omega) (by omega) (by omega) (by omega) (by omega) (by omega); obtain ⟨neg, hneg⟩ : ∃ neg, neg = (sgn s && dv t t.size != 0) := ⟨_, rfl⟩; rw [<- hneg] at JN; have HNE := hide hneg; clear hneg; go_wp2_with fail; refine JN.mono ?_; rintro e wB ⟨v, rfl, ⟨x1, x2, gB, hB, rfl, NB, DB, y1, y2, y3⟩, sB⟩; have rB := r7.since sB (by omega); have NB' := NB; have DB' := DB; obtain ⟨b1, p1, d1', Y1', rfl, -⟩ := NB; obtain ⟨b2, p2, d2', Y2', rfl, -⟩ := DB; have SB := S7.trans (sM sB (by omega)); have u0 := rB.c0; have u1 := rB.c1; have u2 := rB.c2; have uf0 := rB.f 0; have uf1 := rB.f 1; have uf2 := rB.f 2; clear JN; go_wp2; have rC := ((rB.set0 (.bool neg)).set1 (.slice b1 p1 d1')).set2 (.slice b2 p2 d2'); refine bodyPost_ret (xk6 rfl _ _ _ _ _ _ rfl rC) rfl ?_; have M : xq0 wB _ w.heap.size := (((xq0.refl wB _).setCell 0 (.bool neg)).setCell 1 (.slice b1 p1 d1')).setCell 2 (.slice b2 p2 d2'); rw [HPO.out]; exact ⟨_, rfl, ⟨_, _, gB, hB, by rw [HNE.out], (NB'.more (by omega)).marked M (by omega), (DB'.more (by omega)).marked M (by omega), by omega, by omega, y3⟩, SB.trans (M.since (Nat.le_refl _))⟩
    . have d2' : digB b = false := by simpa using d2
      rw [d2'] at JD2; have hpo : xq2 s = (false, 0, 1, 1) := by unfold xq2; simp only [HTP.out, HBP.out, d1, d2']; simp
      have HPO := hide hpo; clear hpo; go_wp2_with fail; refine JD2.mono ?_; rintro e w4 ⟨rfl, s4⟩; have r4 := r3.keep (s4.since _); have S4 := S3.trans (s4.since _); clear JD1 JD2 r2 r3 S2 S3 s3 s4; go_wp2_with fail; refine (xk4 w4).mono ?_; rintro e w6 ⟨v, rfl, ⟨x1, x2, g6, h6, rfl, N6, D6, y1, y2, y3⟩, s6⟩; have rB := r4.keep s6; have N6' := N6; have D6' := D6; obtain ⟨a1, q1, c1, Y1, rfl, -⟩ := N6; obtain ⟨a2, q2, c2, Y2, rfl, -⟩ := D6; have S6 := S4.trans (sM s6 S4.size); have z0 := S4.size; have rl := r4.lt; have u0 := rB.c0; have u1 := rB.c1; have u2 := rB.c2; have uf0 := rB.f 0; have uf1 := rB.f 1; have uf2 := rB.f 2; go_wp2; have rC := ((rB.set0 (.bool false)).set1 (.slice a1 q1 c1)).set2 (.slice a2 q2 c2); refine bodyPost_ret (xk6 rfl _ _ _ _ _ _ rfl rC) rfl ?_; have M : xq0 w6 _ w.heap.size := (((xq0.refl w6 _).setCell 0 (.bool false)).setCell 1 (.slice a1 q1 c1)).setCell 2 (.slice a2 q2 c2); rw [HPO.out]; exact ⟨_, rfl, ⟨_, _, g6, h6, rfl, N6'.marked M (by omega), D6'.marked M (by omega), by omega, by omega, y3⟩, S6.trans (M.since (Nat.le_refl _))⟩
  . have d1' : digB t = false := by simpa using d1
    rw [d1'] at JD1; have hpo : xq2 s = (false, 0, 1, 1) := by unfold xq2; simp only [HTP.out, HBP.out, d1']; simp
    have HPO := hide hpo; clear hpo; go_wp2_with fail; refine JD1.mono ?_; rintro e w4 ⟨rfl, s4⟩; have r4 := r2.keep (s4.since _); have S4 := S2.trans (s4.since _); clear JD1 r2 S2 s4; go_wp2_with fail; refine (xk4 w4).mono ?_; rintro e w6 ⟨v, rfl, ⟨x1, x2, g6, h6, rfl, N6, D6, y1, y2, y3⟩, s6⟩; have rB := r4.keep s6; have N6' := N6; have D6' := D6; obtain ⟨a1, q1, c1, Y1, rfl, -⟩ := N6; obtain ⟨a2, q2, c2, Y2, rfl, -⟩ := D6; have S6 := S4.trans (sM s6 S4.size); have z0 := S4.size; have rl := r4.lt; have u0 := rB.c0; have u1 := rB.c1; have u2 := rB.c2; have uf0 := rB.f 0; have uf1 := rB.f 1; have uf2 := rB.f 2; go_wp2; have rC := ((rB.set0 (.bool false)).set1 (.slice a1 q1 c1)).set2 (.slice a2 q2 c2); refine bodyPost_ret (xk6 rfl _ _ _ _ _ _ rfl rC) rfl ?_; have M : xq0 w6 _ w.heap.size := (((xq0.refl w6 _).setCell 0 (.bool false)).setCell 1 (.slice a1 q1 c1)).setCell 2 (.slice a2 q2 c2); rw [HPO.out]; exact ⟨_, rfl, ⟨_, _, g6, h6, rfl, N6'.marked M (by omega), D6'.marked M (by omega), by omega, by omega, y3⟩, S6.trans (M.since (Nat.le_refl _))⟩
theorem cut_cases {u : ByteArray} {qs : List ByteArray} (h : CutR u qs) : (3 <= qs.length /\ digB (pBot u) = false) ∨ (qs = [pTop u] /\ pBot u = ⟨#[49]⟩) ∨ qs = [pTop u, pBot u] := by
 rcases yj6 u with ⟨hi, hn⟩ | ⟨i, hil, hi, hb, hf⟩
 . have ht : pTop u = u := by unfold pTop; rw [if_pos hi]
   have hbt : pBot u = ⟨#[49]⟩ := by unfold pBot; rw [if_pos hi]
   rcases h with ⟨h1, -⟩ | ⟨j, h1, h2, -⟩ | ⟨-, j, j', h2, h3, h4, h5⟩
   . exact Or.inr (Or.inl ⟨by rw [h1, ht], hbt⟩)
   . exact absurd h2 (hn j h1)
   . exact absurd h4 (hn j (by omega))
 . have hin : ¬ firstIdx u 47 = -1 := by rw [hi]; omega
   have ht : pTop u = u.extract 0 i := by unfold pTop; rw [if_neg hin, hi, Int.toNat_natCast]
   have hbt : pBot u = u.extract (i + 1) u.size := by unfold pBot; rw [if_neg hin, hi, Int.toNat_natCast]
   rcases h with ⟨-, h1⟩ | ⟨j, h1, h2, h3, h4⟩ | ⟨h1, j, j', h2, h3, h4, h5⟩
   . exact absurd hb (h1 i hil)
   . have e : i = j := by
      rcases Nat.lt_trichotomy i j with e | e | e
      . exact absurd hb (h3 i hil (by omega))
      . exact e
      . exact absurd h2 (hf j e)
     subst e; exact Or.inr (Or.inr (by rw [h4, ht, hbt]))
   . refine Or.inl ⟨h1, ?_⟩
     have hij : i <= j := by
      rcases Nat.lt_or_ge j i with e | e
      . exact absurd h4 (hf j e)
      . exact e
     have hsz : (pBot u).size = u.size - (i + 1) := by rw [hbt]; exact yj8 u (by omega) (Nat.le_refl _)
     have hbb : bt (pBot u) (j' - (i + 1)) = bt u j' := by rw [hbt, bt_ext u (by omega), show i + 1 + (j' - (i + 1)) = j' by omega]
     exact digB_no (k := j' - (i + 1)) (by omega) (Or.inl (by omega))
theorem digB_one : digB ⟨#[49]⟩ = true := by
 have h : ∀ k, k < (⟨#[49]⟩ : ByteArray).size -> 48 <= bt ⟨#[49]⟩ k /\ bt ⟨#[49]⟩ k <= 57 := fun k hk => by
  have : k = 0 := by have : (⟨#[49]⟩ : ByteArray).size = 1 := rfl; omega
  subst this; exact ⟨by decide, by decide⟩
 rw [digB_yes h]
 decide
theorem dv_one : dv ⟨#[49]⟩ (⟨#[49]⟩ : ByteArray).size = 1 := by decide
theorem own_strs {w : World} {base : Nat} {v : Value} {qs : List ByteArray} (h : w.ownsRow base 9 1 v qs.length (qs.map Value.string)) (h0 : 0 < qs.length) :
 ∃ g cap, v = .slice (some ⟨g, 0, none⟩) qs.length cap /\ qs.length <= cap /\ base <= g /\ ∀ j x, qs[j]? = some x -> w.cell? ⟨g, j, none⟩ = some (.string x) := by
 have hc := @World.ownsRow.cells _ _ _ _ _ _ _ h
 rcases h.2 with ⟨rfl, hn⟩ | ⟨g, cap, cur, rfl, hb, hg, hm, _⟩
 . omega
 . refine ⟨g, cap, rfl, hm, hb, fun j x hj => ?_⟩
   have := hc (g := g) rfl j (.string x) (by simp [hj]); rw [Addr.add_lit] at this
   simpa using this
theorem cut_two {w : World} {base : Nat} {v : Value} {qs : List ByteArray} {u : ByteArray} (h : w.ownsRow base 9 1 v qs.length (qs.map Value.string))
 (hq : (qs = [pTop u] /\ pBot u = ⟨#[49]⟩) ∨ qs = [pTop u, pBot u]) :
 ∃ g n cap, ∃ q : Nat -> ByteArray, v = .slice (some ⟨g, 0, none⟩) n cap /\ n <= cap /\ base <= g /\ (∀ j, j < n -> w.cell? ⟨g, j, none⟩ = some (.string (q j))) /\ q 0 = pTop u /\ ((n = 1 /\ pBot u = ⟨#[49]⟩) ∨ (n = 2 /\ q 1 = pBot u)) /\ (∀ j, j < n -> (q j).size <= u.size + 1) := by
 have ps := parts_size u
 rcases hq with ⟨rfl, hb⟩ | rfl
 . obtain ⟨g, cap, h1, h2, h3, h4⟩ := own_strs h (by simp)
   refine ⟨g, 1, cap, fun _ => pTop u, h1, h2, h3, fun j hj => ?_, rfl, Or.inl ⟨rfl, hb⟩, fun j hj => ps.1⟩; obtain rfl : j = 0 := by omega
   exact h4 0 _ rfl
 . obtain ⟨g, cap, h1, h2, h3, h4⟩ := own_strs h (by simp)
   refine ⟨g, 2, cap, fun j => if j = 0 then pTop u else pBot u, h1, h2, h3, fun j hj => ?_, rfl, Or.inr ⟨rfl, rfl⟩, fun j hj => ?_⟩
   . rcases j with _ | _ | j
     . exact h4 0 _ rfl
     . exact h4 1 _ rfl
     . omega
   . by_cases e : j = 0
     . simp only [e, if_true]; exact ps.1
     . simp only [e, if_false]
       exact ps.2
theorem specRatParse_any (s : ByteArray) (w : World) (hs : s.size <= 16777216) :
 Calls Tryz.prog 69 #[.string s] w fun e w' => ∃ v, e = .returned (.tuple #[v, .int .i64 (xq2 s).2.2.2]) /\ RatV w' v (xq2 s).1 (xq2 s).2.1 (xq2 s).2.2.1 w.heap.size 67108864 /\ w.Since w.heap.size w' := by
 have hrs := runs_size s; have sA := sal w (.cells #[.bool false, .slice none 0 0, .slice none 0 0] 61); have rA := Box3.new w (.bool false) (.slice none 0 0) (.slice none 0 0) 61
 have three : (0 < s.size /\ bt s 0 = 45) ∨ (0 < s.size /\ ¬ bt s 0 = 45) ∨ ¬ 0 < s.size := by
  by_cases h0 : 0 < s.size
  . by_cases c : bt s 0 = 45
    . exact Or.inl ⟨h0, c⟩
    . exact Or.inr (Or.inl ⟨h0, c⟩)
  . exact Or.inr (Or.inr h0)
 rcases three with ⟨h0, c⟩ | ⟨h0, c⟩ | h0
 focus
  have h0' : (0 : Int) < (s.size : Int) := by omega
  have hx := bt_in h0; have hg : sgn s = true := by simp [sgn, h0, c]
  have hu : s.extract 1 s.size = runs s := by simp [runs, hg]
  rw [c] at hx; go_enter Tryz.func69, Tryz.ntmps69; go_wp2_with fail; generalize w.alloc (.cells #[.bool false, .slice none 0 0, .slice none 0 0] 61) = wA at *; refine (l1Cut_any (runs s) _ (by omega)).mono ?_; have HG := hide hg; clear hu hx h0' c hg; rintro e w1 ⟨v, qs, rfl, hown, hcut, hql, s1⟩; have S1 := sA.trans (sM s1 sA.size); have r1 := rA.keep s1; have HW1 := hide hown
 rotate_left
 focus
  have h0' : (0 : Int) < (s.size : Int) := by omega
  have hx := bt_in h0; have hg : sgn s = false := by simp [sgn, h0, c]
  have hu : s = runs s := by simp [runs, hg]
  have hx2 := bt_lt s 0; have c1' : ¬ ((bt s 0 : Int) = 45) := by omega
  obtain ⟨x, ex⟩ : ∃ x, x = bt s 0 := ⟨_, rfl⟩; rw [<- ex] at hx hx2 c1'; have hxb : ((x : Int) == 45) = false := by simpa using c1'
  have HU := hide hu; have HG := hide hg; clear ex c hu hg c1'; go_enter Tryz.func69, Tryz.ntmps69; go_wp2_with fail; generalize w.alloc (.cells #[.bool false, .slice none 0 0, .slice none 0 0] 61) = wA at *; refine (l1Cut_any s _ (by omega)).mono ?_; clear hx hx2 hxb h0'; rintro e w1 ⟨v, qs, rfl, hown, hcut, hql, s1⟩; have S1 := sA.trans (sM s1 sA.size); have r1 := rA.keep s1; have HW1 := hide hown; rw [HU.out] at hcut
 rotate_left
 focus
  have h0' : ¬ (0 : Int) < (s.size : Int) := by omega
  have hg : sgn s = false := by simp [sgn, h0]
  have hu : s = runs s := by simp [runs, hg]
  have HU := hide hu; have HG := hide hg; clear hu hg; go_enter Tryz.func69, Tryz.ntmps69; go_wp2_with fail; generalize w.alloc (.cells #[.bool false, .slice none 0 0, .slice none 0 0] 61) = wA at *; refine (l1Cut_any s _ (by omega)).mono ?_; clear h0'; rintro e w1 ⟨v, qs, rfl, hown, hcut, hql, s1⟩; have S1 := sA.trans (sM s1 sA.size); have r1 := rA.keep s1; have HW1 := hide hown; rw [HU.out] at hcut
 rotate_left
 all_goals
  rcases cut_cases hcut with ⟨h3, hb3⟩ | hq
  . first
    | exact absurd hql (by omega)
    | (obtain ⟨g, cap, rfl, hnc, -, -⟩ := own_strs HW1.out (by omega)
       have hpo : xq2 s = (false, 0, 1, 1) := by unfold xq2; simp only [hb3]; simp
       have HPO := hide hpo; generalize qs.length = n at *; have h3' : (2 : Int) < (n : Int) := by omega
       clear hpo hb3 hown HW1 hcut; go_wp2_with fail; refine (xv2 w1).mono ?_; rintro e wZ ⟨v, rfl, ⟨x1, x2, gZ, hZ, rfl, NZ, DZ, y1, y2, y3⟩, sZ⟩; have rB := r1.keep sZ; have NZ' := NZ; have DZ' := DZ; obtain ⟨b1, p1, e1, Y1', rfl, -⟩ := NZ; obtain ⟨b2, p2, e2, Y2', rfl, -⟩ := DZ; have S9 := S1.trans (sM sZ S1.size); have z0 := S1.size; have rl := r1.lt; have u0 := rB.c0; have u1 := rB.c1; have u2 := rB.c2; have uf0 := rB.f 0; have uf1 := rB.f 1; have uf2 := rB.f 2; go_wp2; have rC := ((rB.set0 (.bool false)).set1 (.slice b1 p1 e1)).set2 (.slice b2 p2 e2); refine bodyPost_ret (xk6 rfl _ _ _ _ _ _ rfl rC) rfl ?_; have M : xq0 wZ _ w.heap.size := (((xq0.refl wZ _).setCell 0 (.bool false)).setCell 1 (.slice b1 p1 e1)).setCell 2 (.slice b2 p2 e2); rw [HPO.out]; exact ⟨_, rfl, ⟨_, _, gZ, hZ, rfl, NZ'.marked M (by omega), DZ'.marked M (by omega), by omega, by omega, y3⟩, S9.trans (M.since (Nat.le_refl _))⟩)
  . obtain ⟨g, n, cap, q, rfl, hnc, -, hcell, hq0, hq1, hqs⟩ := cut_two HW1.out hq
    have hn2 : n = 1 ∨ n = 2 := by rcases hq1 with h | h <;> omega
    have HQ1 := hide hq1; have HQ0 := hide hq0; have HQS := hide hqs; have h3' : ¬ (2 : Int) < (n : Int) := by omega
    clear hown HW1 hcut hq hq1 hq0 hqs hn2 hql s1 sA rA; go_wp2_with fail
    go_loopw [7] (fun t wr => ∃ i : Nat, i <= n /\ t = .int .i64 i /\ Hid (∀ j, j < i -> digB (q j) = true) /\ Same w1 wr) (fun t _ => n - (intOf t).toNat)
    case atStart => exact ⟨0, Nat.zero_le _, rfl, hide (fun j hj => absurd hj (by omega)), Same.refl _⟩
    case round =>
     obtain ⟨i, hik, rfl, HD, sm⟩ := hrel; have S2 := S1.trans (sm.since _); have r2 := r1.keep (sm.since _)
     by_cases hlt : i < n
     . have hlt' : (i : Int) < (n : Int) := by omega
       have hc := hcell i hlt; rw [<- sm.cell] at hc; have JD := l1Digits_any (q i) wr (by have := HQS.out i hlt; omega)
       by_cases d : digB (q i) = true
       . have HD1 := hide d
         rw [d] at JD; clear d; go_wp2_with fail; refine JD.mono ?_; rintro e w2 ⟨rfl, s2⟩; go_wp2; go_roundw
         case rel =>
          refine ⟨i + 1, by omega, by go_num, hide (fun j hj => ?_), ⟨s2.os.trans sm.os, s2.tape.trans sm.tape, s2.output.trans sm.output, s2.heap.trans sm.heap⟩⟩
          by_cases e : j = i
          . subst e; exact HD1.out
          . exact HD.out j (by omega)
         case measure => simp [intOf]; omega
       . have d' : digB (q i) = false := by simpa using d
         rw [d'] at JD
         have hpo : xq2 s = (false, 0, 1, 1) := by
          have : digB (pTop (runs s)) = false ∨ digB (pBot (runs s)) = false := by
           by_cases e : i = 0
           . subst e; rw [HQ0.out] at d'; exact Or.inl d'
           . rcases HQ1.out with ⟨h1, -⟩ | ⟨h1, h2⟩
             . omega
             . obtain rfl : i = 1 := by omega
               rw [h2] at d'; exact Or.inr d'
          unfold xq2
          rcases this with h | h <;> simp [h]
         have HPO := hide hpo; clear hpo d d'; go_wp2_with fail; refine JD.mono ?_; rintro e w2 ⟨rfl, s2⟩; have S3 := S2.trans (s2.since _); have r3 := r2.keep (s2.since _); clear JD hc S2 r2 r1 S1; go_wp2_with fail; refine (xv2 w2).mono ?_; rintro e wZ ⟨v, rfl, ⟨x1, x2, gZ, hZ, rfl, NZ, DZ, y1, y2, y3⟩, sZ⟩; have rB := r3.keep sZ; have NZ' := NZ; have DZ' := DZ; obtain ⟨b1, p1, e1, Y1', rfl, -⟩ := NZ; obtain ⟨b2, p2, e2, Y2', rfl, -⟩ := DZ; have S9 := S3.trans (sM sZ S3.size); have z0 := S3.size; have rl := r3.lt; have u0 := rB.c0; have u1 := rB.c1; have u2 := rB.c2; have uf0 := rB.f 0; have uf1 := rB.f 1; have uf2 := rB.f 2; go_wp2; have rC := ((rB.set0 (.bool false)).set1 (.slice b1 p1 e1)).set2 (.slice b2 p2 e2); refine bodyPost_ret (xk6 rfl _ _ _ _ _ _ rfl rC) rfl ?_; have M : xq0 wZ _ w.heap.size := (((xq0.refl wZ _).setCell 0 (.bool false)).setCell 1 (.slice b1 p1 e1)).setCell 2 (.slice b2 p2 e2); rw [HPO.out]; exact ⟨_, rfl, ⟨_, _, gZ, hZ, rfl, NZ'.marked M (by omega), DZ'.marked M (by omega), by omega, by omega, y3⟩, S9.trans (M.since (Nat.le_refl _))⟩
     . have e : i = n := by omega
       subst e; have hlt' : ¬ (i : Int) < (i : Int) := by omega
       have HDD := hide (show digB (pTop (runs s)) = true /\ digB (pBot (runs s)) = true by
        rcases HQ1.out with ⟨h1, h2⟩ | ⟨h1, h2⟩
        . exact ⟨by rw [<- HQ0.out]; exact HD.out 0 (by omega), by rw [h2]; exact digB_one⟩
        . exact ⟨by rw [<- HQ0.out]; exact HD.out 0 (by omega), by rw [<- h2]; exact HD.out 1 (by omega)⟩)
       go_wp2_with fail
       go_loopw [8] (fun t wr => ∃ j : Nat, j <= i /\ t = .int .i64 j /\ Hid (∀ k, k < j -> ¬ 400 < (q k).size) /\ Same w1 wr) (fun t _ => i - (intOf t).toNat)
       case atStart => exact ⟨0, Nat.zero_le _, rfl, hide (fun j hj => absurd hj (by omega)), sm⟩
       case round =>
        clear S2 r2 sm; obtain ⟨j, hjk, rfl, HL, sm⟩ := hrel; have S2 := S1.trans (sm.since _); have r2 := r1.keep (sm.since _)
        by_cases hlt : j < i
        . have hlt' : (j : Int) < (i : Int) := by omega
          have hc := hcell j hlt; rw [<- sm.cell] at hc
          by_cases d : 400 < (q j).size
          . have d' : (400 : Int) < ((q j).size : Int) := by omega
            have hpo : xq2 s = (false, 0, 1, 2) := by
             have : 400 < (pTop (runs s)).size ∨ 400 < (pBot (runs s)).size := by
              by_cases e : j = 0
              . subst e; rw [HQ0.out] at d; exact Or.inl d
              . rcases HQ1.out with ⟨h1, -⟩ | ⟨h1, h2⟩
                . omega
                . obtain rfl : j = 1 := by omega
                  rw [h2] at d; exact Or.inr d
             unfold xq2; simp only [HDD.out.1, HDD.out.2]
             rcases this with h | h <;> simp [h]
            have HPO := hide hpo; clear hpo d; go_wp2_with fail; refine (xv2 wr).mono ?_; rintro e wZ ⟨v, rfl, ⟨x1, x2, gZ, hZ, rfl, NZ, DZ, y1, y2, y3⟩, sZ⟩; have rB := r2.keep sZ; have NZ' := NZ; have DZ' := DZ; obtain ⟨b1, p1, e1, Y1', rfl, -⟩ := NZ; obtain ⟨b2, p2, e2, Y2', rfl, -⟩ := DZ; have S9 := S2.trans (sM sZ S2.size); have z0 := S2.size; have rl := r2.lt; have u0 := rB.c0; have u1 := rB.c1; have u2 := rB.c2; have uf0 := rB.f 0; have uf1 := rB.f 1; have uf2 := rB.f 2; go_wp2; have rC := ((rB.set0 (.bool false)).set1 (.slice b1 p1 e1)).set2 (.slice b2 p2 e2); refine bodyPost_ret (xk6 rfl _ _ _ _ _ _ rfl rC) rfl ?_; have M : xq0 wZ _ w.heap.size := (((xq0.refl wZ _).setCell 0 (.bool false)).setCell 1 (.slice b1 p1 e1)).setCell 2 (.slice b2 p2 e2); rw [HPO.out]; exact ⟨_, rfl, ⟨_, _, gZ, hZ, rfl, NZ'.marked M (by omega), DZ'.marked M (by omega), by omega, by omega, y3⟩, S9.trans (M.since (Nat.le_refl _))⟩
          . have d' : ¬ (400 : Int) < ((q j).size : Int) := by omega
            have HL1 := hide d; clear d; go_wp2; go_roundw
            case rel =>
             refine ⟨j + 1, by omega, by go_num, hide (fun k hk => ?_), sm⟩
             by_cases e : k = j
             . subst e; exact HL1.out
             . exact HL.out k (by omega)
            case measure => simp [intOf]; omega
        . have e : j = i := by omega
          subst e; have hlt' : ¬ (j : Int) < (j : Int) := by omega
          have HLL := hide (show ¬ 400 < (pTop (runs s)).size /\ ¬ 400 < (pBot (runs s)).size by
           rcases HQ1.out with ⟨h1, h2⟩ | ⟨h1, h2⟩
           . exact ⟨by rw [<- HQ0.out]; exact HL.out 0 (by omega), by rw [h2]; exact (by decide)⟩
           . exact ⟨by rw [<- HQ0.out]; exact HL.out 0 (by omega), by rw [<- h2]; exact HL.out 1 (by omega)⟩)
          go_wp2_with fail; refine (yj2 1 _ (by decide)).mono ?_; rintro e w5 ⟨vd, td, Bd, rfl, k2, T5, e2, s2⟩; have S5 := S2.trans (sM s2 S2.size); have r5 := r2.keep s2; have hc0 := hcell 0 (by rcases HQ1.out with ⟨hj, -⟩ | ⟨hj, -⟩ <;> omega); rw [<- sm.cell] at hc0; have hc0 := (s2.cell (a := ⟨g, 0, none⟩) (World.block_lt_of_cell? _ _ hc0)).trans hc0; have hj0 : (0 : Int) < (j : Int) := by rcases HQ1.out with ⟨hj, -⟩ | ⟨hj, -⟩ <;> omega
          rcases HQ1.out with ⟨hj, hb⟩ | ⟨hj, hb⟩
          . have hj2 : ((j : Int) == 2) = false := by simp; omega
            have HE5 : Hid (bv Bd td = dv (pBot (runs s)) (pBot (runs s)).size) := hide (by rw [e2, hb, dv_one]); have T5' := T5; have k5 : td <= 26065 := by omega
            clear hj hb r2 S2 e2 s2 r1 S1; obtain ⟨a5, b5, o5, c5, rfl, hc5, LB, tB⟩ := T5
            by_cases h5 : td = 0
            . subst h5
              have hpo : xq2 s = (false, 0, 1, 3) := by
               have hd : dv (pBot (runs s)) (pBot (runs s)).size = 0 := by rw [<- HE5.out]; rfl
               unfold xq2; simp only [HDD.out.1, HDD.out.2]; simp [HLL.out.1, HLL.out.2, hd]
              have HPO := hide hpo; clear hpo T5' LB tB; go_wp2_with fail; refine (xv2 w5).mono ?_; rintro e wZ ⟨v, rfl, ⟨x1, x2, gZ, hZ, rfl, NZ, DZ, y1, y2, y3⟩, sZ⟩; have rB := r5.keep sZ; have NZ' := NZ; have DZ' := DZ; obtain ⟨b1, p1, e1, Y1', rfl, -⟩ := NZ; obtain ⟨b2, p2, e2, Y2', rfl, -⟩ := DZ; have S9 := S5.trans (sM sZ S5.size); have z0 := S5.size; have rl := r5.lt; have u0 := rB.c0; have u1 := rB.c1; have u2 := rB.c2; have uf0 := rB.f 0; have uf1 := rB.f 1; have uf2 := rB.f 2; go_wp2; have rC := ((rB.set0 (.bool false)).set1 (.slice b1 p1 e1)).set2 (.slice b2 p2 e2); refine bodyPost_ret (xk6 rfl _ _ _ _ _ _ rfl rC) rfl ?_; have M : xq0 wZ _ w.heap.size := (((xq0.refl wZ _).setCell 0 (.bool false)).setCell 1 (.slice b1 p1 e1)).setCell 2 (.slice b2 p2 e2); rw [HPO.out]; exact ⟨_, rfl, ⟨_, _, gZ, hZ, rfl, NZ'.marked M (by omega), DZ'.marked M (by omega), by omega, by omega, y3⟩, S9.trans (M.since (Nat.le_refl _))⟩
            . have h5' : ((td : Int) == 0) = false := by simp; omega
              have hpos := bv_pos (Nat.pos_of_ne_zero h5) (tB (Nat.pos_of_ne_zero h5))
              have hpo : xq2 s = (sgn s && dv (pTop (runs s)) (pTop (runs s)).size != 0, dv (pTop (runs s)) (pTop (runs s)).size / Nat.gcd (dv (pTop (runs s)) (pTop (runs s)).size) (dv (pBot (runs s)) (pBot (runs s)).size), dv (pBot (runs s)) (pBot (runs s)).size / Nat.gcd (dv (pTop (runs s)) (pTop (runs s)).size) (dv (pBot (runs s)) (pBot (runs s)).size), 0) := by
               have hd : ¬ dv (pBot (runs s)) (pBot (runs s)).size = 0 := by rw [<- HE5.out]; omega
               unfold xq2; simp only [HDD.out.1, HDD.out.2]; simp [HLL.out.1, HLL.out.2, hd]
              have HPO := hide hpo; have HPP := hide hpos; clear hpo hpos LB tB; go_wp2_with fail; refine (yv5 (q 0) _ (by rw [HQ0.out]; have := HLL.out.1; omega) (by rw [HQ0.out]; exact digB_digs HDD.out.1)).mono ?_; rintro e w7 ⟨v7, t7, B7, rfl, T7, k7, e7, s7⟩; have S7 := S5.trans (sM s7 S5.size); have r7 := r5.keep s7; rw [HQ0.out] at e7; have JM := fun b : Bool => xx9 b _ _ t7 td B7 Bd w7 (by omega) (by omega) T7 (T5'.keep s7) HPP.out
              rw [e7, HE5.out] at JM; go_wp2_with fail; refine (JM _).mono ?_; clear JM; rintro e wZ ⟨v, rfl, ⟨x1, x2, gZ, hZ, rfl, NZ, DZ, y1, y2, y3⟩, sZ⟩; have rB := r7.keep sZ; have NZ' := NZ; have DZ' := DZ; obtain ⟨b1, p1, e1, Y1', rfl, -⟩ := NZ; obtain ⟨b2, p2, e2, Y2', rfl, -⟩ := DZ; have S9 := S7.trans (sM sZ S7.size); have z0 := S7.size; have rl := r7.lt; have u0 := rB.c0; have u1 := rB.c1; have u2 := rB.c2; have uf0 := rB.f 0; have uf1 := rB.f 1; have uf2 := rB.f 2; obtain ⟨neg, hneg⟩ : ∃ neg, neg = (sgn s && dv (pTop (runs s)) (pTop (runs s)).size != 0) := ⟨_, rfl⟩; rw [HG.out] at hneg; rw [<- hneg]; have HNE := hide hneg; clear hneg; go_wp2; have rC := ((rB.set0 (.bool neg)).set1 (.slice b1 p1 e1)).set2 (.slice b2 p2 e2); refine bodyPost_ret (xk6 rfl _ _ _ _ _ _ rfl rC) rfl ?_; have M : xq0 wZ _ w.heap.size := (((xq0.refl wZ _).setCell 0 (.bool neg)).setCell 1 (.slice b1 p1 e1)).setCell 2 (.slice b2 p2 e2); rw [HPO.out]; exact ⟨_, rfl, ⟨_, _, gZ, hZ, by rw [HNE.out, HG.out], NZ'.marked M (by omega), DZ'.marked M (by omega), by omega, by omega, y3⟩, S9.trans (M.since (Nat.le_refl _))⟩
          . have hj2 : ((j : Int) == 2) = true := by simp; omega
            have hj1 : (1 : Int) < (j : Int) := by omega
            have hc1 := hcell 1 (by omega); rw [<- sm.cell] at hc1; have hc1 := (s2.cell (a := ⟨g, 1, none⟩) (World.block_lt_of_cell? _ _ hc1)).trans hc1; have HB := hide hb; clear hj hb r2 S2 e2 s2 r1 S1 T5; go_wp2_with fail; refine (yv5 (q 1) _ (by rw [HB.out]; have := HLL.out.2; omega) (by rw [HB.out]; exact digB_digs HDD.out.2)).mono ?_; rintro e w6 ⟨vf, tf, Bf, rfl, T6, k6, e6, s6⟩; have S6 := S5.trans (sM s6 S5.size); have r6 := r5.keep s6; have hc0 := (s6.cell (a := ⟨g, 0, none⟩) (World.block_lt_of_cell? _ _ hc0)).trans hc0; have HE6 : Hid (bv Bf tf = dv (pBot (runs s)) (pBot (runs s)).size) := hide (by rw [e6, HB.out]); have T6' := T6; clear r5 S5 s6 e6 hc1; obtain ⟨a5, b5, o5, c5, rfl, hc5, LB, tB⟩ := T6
            by_cases h5 : tf = 0
            . subst h5
              have hpo : xq2 s = (false, 0, 1, 3) := by
               have hd : dv (pBot (runs s)) (pBot (runs s)).size = 0 := by rw [<- HE6.out]; rfl
               unfold xq2; simp only [HDD.out.1, HDD.out.2]; simp [HLL.out.1, HLL.out.2, hd]
              have HPO := hide hpo; clear hpo T6' LB tB; go_wp2_with fail; refine (xv2 w6).mono ?_; rintro e wZ ⟨v, rfl, ⟨x1, x2, gZ, hZ, rfl, NZ, DZ, y1, y2, y3⟩, sZ⟩; have rB := r6.keep sZ; have NZ' := NZ; have DZ' := DZ; obtain ⟨b1, p1, e1, Y1', rfl, -⟩ := NZ; obtain ⟨b2, p2, e2, Y2', rfl, -⟩ := DZ; have S9 := S6.trans (sM sZ S6.size); have z0 := S6.size; have rl := r6.lt; have u0 := rB.c0; have u1 := rB.c1; have u2 := rB.c2; have uf0 := rB.f 0; have uf1 := rB.f 1; have uf2 := rB.f 2; go_wp2; have rC := ((rB.set0 (.bool false)).set1 (.slice b1 p1 e1)).set2 (.slice b2 p2 e2); refine bodyPost_ret (xk6 rfl _ _ _ _ _ _ rfl rC) rfl ?_; have M : xq0 wZ _ w.heap.size := (((xq0.refl wZ _).setCell 0 (.bool false)).setCell 1 (.slice b1 p1 e1)).setCell 2 (.slice b2 p2 e2); rw [HPO.out]; exact ⟨_, rfl, ⟨_, _, gZ, hZ, rfl, NZ'.marked M (by omega), DZ'.marked M (by omega), by omega, by omega, y3⟩, S9.trans (M.since (Nat.le_refl _))⟩
            . have h5' : ((tf : Int) == 0) = false := by simp; omega
              have hpos := bv_pos (Nat.pos_of_ne_zero h5) (tB (Nat.pos_of_ne_zero h5))
              have hpo : xq2 s = (sgn s && dv (pTop (runs s)) (pTop (runs s)).size != 0, dv (pTop (runs s)) (pTop (runs s)).size / Nat.gcd (dv (pTop (runs s)) (pTop (runs s)).size) (dv (pBot (runs s)) (pBot (runs s)).size), dv (pBot (runs s)) (pBot (runs s)).size / Nat.gcd (dv (pTop (runs s)) (pTop (runs s)).size) (dv (pBot (runs s)) (pBot (runs s)).size), 0) := by
               have hd : ¬ dv (pBot (runs s)) (pBot (runs s)).size = 0 := by rw [<- HE6.out]; omega
               unfold xq2; simp only [HDD.out.1, HDD.out.2]; simp [HLL.out.1, HLL.out.2, hd]
              have HPO := hide hpo; have HPP := hide hpos; clear hpo hpos LB tB; go_wp2_with fail; refine (yv5 (q 0) _ (by rw [HQ0.out]; have := HLL.out.1; omega) (by rw [HQ0.out]; exact digB_digs HDD.out.1)).mono ?_; rintro e w7 ⟨v7, t7, B7, rfl, T7, k7, e7, s7⟩; have S7 := S6.trans (sM s7 S6.size); have r7 := r6.keep s7; rw [HQ0.out] at e7; have JM := fun b : Bool => xx9 b _ _ t7 tf B7 Bf w7 (by omega) (by omega) T7 (T6'.keep s7) HPP.out
              rw [e7, HE6.out] at JM; go_wp2_with fail; refine (JM _).mono ?_; clear JM; rintro e wZ ⟨v, rfl, ⟨x1, x2, gZ, hZ, rfl, NZ, DZ, y1, y2, y3⟩, sZ⟩; have rB := r7.keep sZ; have NZ' := NZ; have DZ' := DZ; obtain ⟨b1, p1, e1, Y1', rfl, -⟩ := NZ; obtain ⟨b2, p2, e2, Y2', rfl, -⟩ := DZ; have S9 := S7.trans (sM sZ S7.size); have z0 := S7.size; have rl := r7.lt; have u0 := rB.c0; have u1 := rB.c1; have u2 := rB.c2; have uf0 := rB.f 0; have uf1 := rB.f 1; have uf2 := rB.f 2; obtain ⟨neg, hneg⟩ : ∃ neg, neg = (sgn s && dv (pTop (runs s)) (pTop (runs s)).size != 0) := ⟨_, rfl⟩; rw [HG.out] at hneg; rw [<- hneg]; have HNE := hide hneg; clear hneg; go_wp2; have rC := ((rB.set0 (.bool neg)).set1 (.slice b1 p1 e1)).set2 (.slice b2 p2 e2); refine bodyPost_ret (xk6 rfl _ _ _ _ _ _ rfl rC) rfl ?_; have M : xq0 wZ _ w.heap.size := (((xq0.refl wZ _).setCell 0 (.bool neg)).setCell 1 (.slice b1 p1 e1)).setCell 2 (.slice b2 p2 e2); rw [HPO.out]; exact ⟨_, rfl, ⟨_, _, gZ, hZ, by rw [HNE.out, HG.out], NZ'.marked M (by omega), DZ'.marked M (by omega), by omega, by omega, y3⟩, S9.trans (M.since (Nat.le_refl _))⟩
end Go.Proofs.YtnogbaapcjjngaaGreatDoor
