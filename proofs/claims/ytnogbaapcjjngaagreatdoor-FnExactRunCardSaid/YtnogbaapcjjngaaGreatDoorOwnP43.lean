import Derived.Test.YtnogbaapcjjngaaGreatDoorOwnP39
import Derived.Test.YtnogbaapcjjngaaGreatDoorOwnP38
import Derived.Test.YtnogbaapcjjngaaGreatDoorOwnP42
import Derived.Test.YtnogbaapcjjngaaGreatDoorOwnP30
set_option maxHeartbeats 6400000
set_option maxRecDepth 100000
namespace Go.Proofs.YtnogbaapcjjngaaGreatDoor
open Go.RowKit
structure RunN (s : ByteArray) (n : Nat) (A : Nat -> AffD) (code : Int) : Prop where
 c0 : 0 <= code
 c1 : code <= 3
 good : code = 0 -> NetP n A /\ szA A n <= 200002
 spec : ∀ w : World, Calls Tryz.prog 6 #[.string s] w fun e w' => ∃ a g cap, e = .returned (.tuple #[.agg #[.slice a n cap], .int .i64 code]) /\ n <= cap /\ Affs w' 0 a g 0 n A /\ w.Since w.heap.size w'
 impl : ∀ w : World, Calls Tryz.prog 7 #[.string s] w fun e w' => ∃ a g cap, e = .returned (.tuple #[.agg #[.slice a n cap], .int .i64 code]) /\ n <= cap /\ Affs w' 0 a g 0 n A /\ w.Since w.heap.size w'
theorem RunN.no {s : ByteArray} {code : Int} (h0 : 0 < code) (h1 : code <= 3)
 (hs : ∀ w : World, Calls Tryz.prog 6 #[.string s] w fun e w' => e = .returned (.tuple #[.agg #[.slice none 0 0], .int .i64 code]) /\ w.Since w.heap.size w')
 (hi : ∀ w : World, Calls Tryz.prog 7 #[.string s] w fun e w' => e = .returned (.tuple #[.agg #[.slice none 0 0], .int .i64 code]) /\ w.Since w.heap.size w') : RunN s 0 (fun _ => AffD.nul) code :=
 ⟨by omega, h1, fun e => absurd e (by omega), fun w => (hs w).mono (fun e w' ⟨he, s⟩ => ⟨none, 0, 0, he, Nat.le_refl _, fun i hi => absurd hi (by omega), s⟩),
   fun w => (hi w).mono (fun e w' ⟨he, s⟩ => ⟨none, 0, 0, he, Nat.le_refl _, fun i hi => absurd hi (by omega), s⟩)⟩
theorem readNet_run (s : ByteArray) (hs : s.size <= 9223372036854775807) : ∃ n A code, RunN s n A code := by
 by_cases hl : 100000 < s.size
 . refine ⟨0, _, 1, RunN.no (by omega) (by omega) (fun w => (xw1 s w hs).mono ?_) (fun w => (xw8 s w hs).mono ?_)⟩
   . rintro e w' ⟨S, ⟨-, he⟩ | ⟨h, -⟩ | ⟨h, -⟩ | ⟨h, -⟩⟩
     . exact ⟨he, S⟩
     all_goals omega
   . rintro e w' ⟨S, ⟨-, he⟩ | ⟨h, -⟩ | ⟨h, -⟩ | ⟨h, -⟩⟩
     . exact ⟨he, S⟩
     all_goals omega
 have hle : s.size <= 100000 := by omega
 by_cases hm : ∃ ms, NetS (lnsF 0 (pcs 10 s)) ms
 rotate_left
 . have hno : ∀ ms, ¬ NetS (lnsF 0 (pcs 10 s)) ms := fun ms h => hm ⟨ms, h⟩
   refine ⟨0, _, 2, RunN.no (by omega) (by omega) (fun w => (xw1 s w hs).mono ?_) (fun w => (xw8 s w hs).mono ?_)⟩
   . rintro e w' ⟨S, ⟨h, -⟩ | ⟨-, -, he⟩ | ⟨-, ms, h, -⟩ | ⟨-, ms, v, xs, zs, h, -⟩⟩
     . omega
     . exact ⟨he, S⟩
     . exact absurd h (hno ms)
     . exact absurd h (hno ms)
   . rintro e w' ⟨S, ⟨h, -⟩ | ⟨-, -, he⟩ | ⟨-, ms, h, -⟩ | ⟨-, ms, v, xs, zs, h, -⟩⟩
     . omega
     . exact ⟨he, S⟩
     . exact absurd h (hno ms)
     . exact absurd h (hno ms)
 obtain ⟨ms, hm⟩ := hm
 by_cases hP : NetP ms.length (mapA ms)
 rotate_left
 . refine ⟨0, _, 3, RunN.no (by omega) (by omega) (fun w => (xw1 s w hs).mono ?_) (fun w => (xw8 s w hs).mono ?_)⟩
   . rintro e w' ⟨S, ⟨h, -⟩ | ⟨-, h, -⟩ | ⟨-, ms', -, -, he⟩ | ⟨-, ms', v, xs, zs, h, h', -⟩⟩
     . omega
     . exact absurd hm (h ms)
     . exact ⟨he, S⟩
     . rw [<- hm.only h] at h'; exact absurd h' hP
   . rintro e w' ⟨S, ⟨h, -⟩ | ⟨-, h, -⟩ | ⟨-, ms', -, -, he⟩ | ⟨-, ms', v, xs, zs, h, h', -⟩⟩
     . omega
     . exact absurd hm (h ms)
     . exact ⟨he, S⟩
     . rw [<- hm.only h] at h'; exact absurd h' hP
 obtain ⟨L1, L2, L3⟩ := NetS.lims hle hm; have hz := hm.limz; refine ⟨ms.length, mapA ms, 0, by omega, by omega, fun _ => ⟨hP, by omega⟩, fun w => (xw1 s w hs).mono ?_, fun w => (xw8 s w hs).mono ?_⟩
 . rintro e w' ⟨S, ⟨h, -⟩ | ⟨-, h, -⟩ | ⟨-, ms', h, h', -⟩ | ⟨-, ms', v, xs, zs, h, -, he, O⟩⟩
   . omega
   . exact absurd hm (h ms)
   . rw [<- hm.only h] at h'; exact absurd hP h'
   . obtain rfl := hm.only h
     obtain ⟨a, g, cap, rfl, hc, AF⟩ := O.affs (fun i hi => (L3 i hi).1) (fun i hi => by have := (L3 i hi).2; omega); exact ⟨a, g, cap, he, hc, AF, S⟩
 . rintro e w' ⟨S, ⟨h, -⟩ | ⟨-, h, -⟩ | ⟨-, ms', h, h', -⟩ | ⟨-, ms', v, xs, zs, h, -, he, O, hi, ap⟩⟩
   . omega
   . exact absurd hm (h ms)
   . rw [<- hm.only h] at h'; exact absurd hP h'
   . obtain rfl := hm.only h
     obtain ⟨a, g, cap, rfl, hc, AF⟩ := O.affs (fun i hi => (L3 i hi).1) (fun i hi => by have := (L3 i hi).2; omega); exact ⟨a, g, cap, he, hc, AF, S⟩
theorem parseO_red (x : ByteArray) : Nat.gcd (xq2 x).2.1 (xq2 x).2.2.1 = 1 /\ (xq2 x).2.2.1 ≠ 0 /\ ((xq2 x).1 = true -> (xq2 x).2.1 ≠ 0) := by
 unfold xq2; simp only
 split
 . simp
 . split
   . simp
   . split
     . simp
     . rename_i h3
       generalize dv (pTop (runs x)) (pTop (runs x)).size = N; generalize hD : dv (pBot (runs x)) (pBot (runs x)).size = D at h3 ⊢; have hg : 0 < Nat.gcd N D := Nat.gcd_pos_of_pos_right _ (Nat.pos_of_ne_zero h3); refine ⟨Nat.coprime_div_gcd_div_gcd hg, ?_, fun h => ?_⟩
       . exact Nat.ne_of_gt (Nat.div_pos (Nat.le_of_dvd (Nat.pos_of_ne_zero h3) (Nat.gcd_dvd_right N D)) hg)
       . simp only [Bool.and_eq_true, bne_iff_ne, ne_eq] at h
         exact Nat.ne_of_gt (Nat.div_pos (Nat.le_of_dvd (Nat.pos_of_ne_zero h.2) (Nat.gcd_dvd_left N D)) hg)
theorem xj0.limbsOf {w : World} {v : Value} {g N M : Nat} (h : xj0 w v g N M) : LimbsOf N (canR N) := by
 obtain ⟨a, m, cap, Y, rfl, h1, h2, h3, h4, h5, h6, h7, h8⟩ := h; exact (canR_of (N := N) (p := (m, Y)) ⟨h6, h7, h8⟩).2.2
theorem OutR.ok {w : World} {lo k : Nat} {v : Value} {x : Nat -> ByteArray} {p : Nat -> Nat -> Prop} {xs : List Value} (h : OutR w lo v k x p xs) : ∀ i, i < k -> (numD (x i)).ok = true := fun i hi => by
 obtain ⟨u1, u2, -, -, -, W⟩ := h.at_ i hi; obtain ⟨v1, v2, g, h', e, h1, h2, -⟩ := W; obtain ⟨r1, r2, r3⟩ := parseO_red (x i); obtain ⟨a1, a2, a3⟩ := h1.limbsOf; obtain ⟨b1, b2, b3⟩ := h2.limbsOf
 show xq9 (xq2 (x i)).1 (canR (xq2 (x i)).2.1).2 (canR (xq2 (x i)).2.1).1 (canR (xq2 (x i)).2.2.1).2 (canR (xq2 (x i)).2.2.1).1 = true
 unfold xq9; rw [xz5.2 a2, xz5.2 b2, a3, b3, r1]; have m0 : (canR (xq2 (x i)).2.2.1).1 ≠ 0 := fun e => r2 (by rw [<- b3]; exact (xw4 b2).1 e)
 have n0 : (xq2 (x i)).1 = true -> (canR (xq2 (x i)).2.1).1 ≠ 0 := fun hn e => r3 hn (by rw [<- a3]; exact (xw4 a2).1 e)
 cases hq : (xq2 (x i)).1
 . simp [m0]
 . simp [m0, n0 hq]
end Go.Proofs.YtnogbaapcjjngaaGreatDoor
