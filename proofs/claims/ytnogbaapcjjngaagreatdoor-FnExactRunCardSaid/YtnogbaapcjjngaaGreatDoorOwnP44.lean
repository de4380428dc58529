import Derived.Test.YtnogbaapcjjngaaGreatDoorOwnP43
import Derived.Test.YtnogbaapcjjngaaGreatDoorOwnP40
import Derived.Test.YtnogbaapcjjngaaGreatDoorOwnP38
import Derived.Test.YtnogbaapcjjngaaGreatDoorOwnP26
set_option maxHeartbeats 6400000
set_option maxRecDepth 100000
namespace Go.Proofs.YtnogbaapcjjngaaGreatDoor
open Go.RowKit
theorem replaceAll_q (s : ByteArray) (w : World) (hs : s.size <= 20000) :
 Calls Tryz.prog 82 #[.string s, .string ⟨#[10]⟩, .string ⟨#[32]⟩] w fun e w' => e = .returned (.string (rp s)) /\ w.Since w.heap.size w' := by
 have J := replace_q s w hs; obtain ⟨o, ho⟩ : ∃ o : ByteArray, o = ⟨#[10]⟩ := ⟨_, rfl⟩; obtain ⟨v, hv⟩ : ∃ v : ByteArray, v = ⟨#[32]⟩ := ⟨_, rfl⟩; rw [<- ho, <- hv] at J ⊢; clear ho hv; go_enter Tryz.func82, Tryz.ntmps82; go_wp2_with fail; refine J.mono ?_; rintro e w1 ⟨rfl, s1⟩; clear J; go_wp2; go_ret; exact ⟨rfl, s1⟩
def RunIn (A : Nat -> AffD) (x : ByteArray) : Prop := inOk x /\ ((inW x).length : Int) = (A 0).cols
def runT (n : Nat) (A : Nat -> AffD) (x : ByteArray) : List UInt8 := (xv6 (qLay A (fun i => (numF (inW x) i).q) (n - 1)) (A (n - 1)).rows.toNat).drop 1
def RunO (n : Nat) (A : Nat -> AffD) (code : Int) (x : ByteArray) (t : ByteArray) (c : Int) : Prop :=
 (code ≠ 0 /\ t = ⟨#[]⟩ /\ c = code) ∨ (code = 0 /\ ¬ RunIn A x /\ t = ⟨#[]⟩ /\ c = 4) ∨ (code = 0 /\ RunIn A x /\ t = ⟨(runT n A x).toArray⟩ /\ c = 0)
theorem RunO.all (n : Nat) (A : Nat -> AffD) (code : Int) (x : ByteArray) : ∃ t c, RunO n A code x t c := by
 by_cases h : code = 0
 . by_cases h2 : RunIn A x
   . exact ⟨_, _, Or.inr (Or.inr ⟨h, h2, rfl, rfl⟩)⟩
   . exact ⟨_, _, Or.inr (Or.inl ⟨h, h2, rfl, rfl⟩)⟩
 . exact ⟨_, _, Or.inl ⟨h, rfl, rfl⟩⟩
theorem RunIn.ev {w : World} {n : Nat} {A : Nat -> AffD} {x : ByteArray} {a : Option Addr} {cap : Nat} {lo : Nat} {p : Nat -> Nat -> Prop} {xs : List Value} (h : RunIn A x) (NP : NetP n A) (hz : szA A n <= 200002) (O : OutR w lo (.slice a (inW x).length cap) (inW x).length (wd (inW x)) p xs) :
 EvP n A (inW x).length (numF (inW x)) /\ n + szA A n + ((inW x).length + szR (numF (inW x)) (inW x).length) <= 300000 := by
 have h1 := inW_size h.1; have h2 := h.1.1; have h3 := NP.n1; exact ⟨⟨NP, h.2, fun i hi => O.ok i hi⟩, by omega⟩
theorem run_qb {w w' : World} {n : Nat} {A : Nat -> AffD} {x : ByteArray} {a ax : Option Addr} {b off g : Nat} (ev : EvP n A (inW x).length (numF (inW x))) (hz : n + szA A n + ((inW x).length + szR (numF (inW x)) (inW x).length) <= 300000) (AF : Affs w 0 a b off n A) (HX : Rats w' 0 ax g 0 (inW x).length (numF (inW x))) :
 (∀ r, r < (A (n - 1)).rows.toNat -> Qb (qLay A (fun i => (numF (inW x) i).q) (n - 1) r) 300001) /\ (A (n - 1)).rows.toNat <= 20000 /\ (xv6 (qLay A (fun i => (numF (inW x) i).q) (n - 1)) (A (n - 1)).rows.toNat).length <= 1000000000000 := by
 obtain ⟨NP, hl, hok⟩ := ev; have n0 := NP.n0; have hC0 : (inW x).length = (A 0).cols.toNat := by omega
 have hq := net_qb NP AF.aff (by rw [<- hC0]; exact hok) (by rw [<- hC0]; exact HX.lim) (K := 300001) (by rw [<- hC0]; omega) (show n - 1 < n by omega); have hr : (A (n - 1)).rows.toNat <= 20000 := by have := (NP.shape (n - 1) (by omega)).1.2.1; omega
 refine ⟨hq, hr, Nat.le_trans (tailQ_lim hq) ?_⟩; have := Nat.mul_le_mul_right (64 * 300001 + 5) hr; omega
theorem l5Spaced_Q (a : Option Addr) (b off n cap : Nat) (Q : Nat -> Rat) (w : World) (hn : n <= 1048576) (hlim : (xv6 Q n).length <= 140737488355328) (H : xx8 w (fun _ => True) a b off n Q) (hq : ∀ i, i < n -> Qb (Q i) 1048576) :
 Calls Tryz.prog 44 #[.slice a n cap] w fun e w' => e = .returned (.string ⟨((xv6 Q n).drop 1).toArray⟩) /\ w.Since w.heap.size w' := by
 have J := l2Tail_Q a b off n cap Q w hn hlim H hq; obtain ⟨T, hT⟩ : ∃ T, xv6 Q n = T := ⟨_, rfl⟩; rw [hT] at J hlim ⊢; clear hT H hq; obtain ⟨u, hu⟩ : ∃ u : ByteArray, u = ⟨T.toArray⟩ := ⟨_, rfl⟩; have hus : u.size = T.length := by rw [hu]; simp [ByteArray.size]
 have hue : (⟨(T.drop 1).toArray⟩ : ByteArray) = u.extract 1 u.size := xw9 (by rw [Lib.extract_to_end, hu])
 have hun : u.size = 0 -> (⟨(T.drop 1).toArray⟩ : ByteArray) = u := fun h => xw9 (by
  rw [hus] at h; rw [hu, List.length_eq_zero_iff.1 h]
  rfl)
 rw [<- hu] at J; obtain ⟨z, hz⟩ : ∃ z, z = u.size := ⟨_, rfl⟩; clear hu
 by_cases h0 : 0 < u.size
 . have hz0 : (0 : Int) < (u.size : Int) := by omega
   have hz1 : (1 : Int) <= (u.size : Int) := by omega
   rw [hue]; clear hue hun hus hlim hz; go_enter Tryz.func44, Tryz.ntmps44; go_wp2_with fail; refine J.mono ?_; rintro e w1 ⟨rfl, s1⟩; clear J; go_wp2; go_ret; exact ⟨rfl, s1⟩
 . have hz0 : ¬ (0 : Int) < (u.size : Int) := by omega
   rw [hun (by omega)]; clear hue hun hus hlim hz; go_enter Tryz.func44, Tryz.ntmps44; go_wp2_with fail; refine J.mono ?_; rintro e w1 ⟨rfl, s1⟩; clear J; go_wp2; go_ret; exact ⟨rfl, s1⟩
theorem specRun_no (s x : ByteArray) (w : World) {n : Nat} {A : Nat -> AffD} {code : Int} (R : RunN s n A code) (h : code ≠ 0) :
 Calls Tryz.prog 16 #[.string s, .string x] w fun e w' => e = .returned (.tuple #[.string ⟨#[]⟩, .int .i64 code]) /\ w.Since w.heap.size w' := by
 have hcb : (code != 0) = true := by simpa using h
 go_enter Tryz.func16, Tryz.ntmps16; go_wp2_with fail; refine (R.spec w).mono ?_; rintro e w1 ⟨a, g, cap, rfl, hcap, AF, s1⟩; have t1 := sal w1 (.cells #[.slice a n cap] 24); have S2 := s1.trans (sM t1 s1.size); clear AF; go_wp2; go_ret2; exact ⟨rfl, S2⟩
theorem specRun_bad (s x : ByteArray) (w : World) (hx : x.size <= 9223372036854775807) {n : Nat} {A : Nat -> AffD} (R : RunN s n A 0) (hno : ¬ RunIn A x) :
 Calls Tryz.prog 16 #[.string s, .string x] w fun e w' => e = .returned (.tuple #[.string ⟨#[]⟩, .int .i64 4]) /\ w.Since w.heap.size w' := by
 have n0 := (R.good rfl).1.n0; have HNO := hide hno; clear hno; go_enter Tryz.func16, Tryz.ntmps16; go_wp2_with fail; refine (R.spec w).mono ?_; rintro e w1 ⟨a, g, cap, rfl, hcap, AF, s1⟩; have t1 := sal w1 (.cells #[.slice a n cap] 24); have S2 := s1.trans (sM t1 s1.size); have b2 := Box1.new w1 (.slice a n cap) 24; have A2 := AF.keep t1; clear AF; go_wp2_with fail; generalize w1.alloc (.cells #[.slice a n cap] 24) = w2 at *; generalize w1.heap.size = d1 at *; refine (l5ReadInput_q x w2 hx).mono ?_; rintro e w3 ⟨E, s3⟩; have S3 := S2.trans (sM s3 S2.size)
 rcases E with ⟨-, a', rfl⟩ | ⟨hyes, a', cap', xs, rfl, O⟩
 . clear A2
   go_wp2; go_ret2; exact ⟨rfl, S3⟩
 . obtain ⟨N, hN⟩ : ∃ N, (inW x).length = N := ⟨_, rfl⟩
   have hne : ((N : Int) != (A 0).cols) = true := by
    rw [<- hN]
    simpa using fun e => HNO.out ⟨hyes, e⟩
   rw [hN]; clear O hN hyes; obtain ⟨rfl, a1, a2, k1, k2, M⟩ := A2 0 (by omega); have g1 := (M.keep s3).c1; have b3 := (b2.keep s3).c0; have hz0 : (0 : Int) < (n : Int) := by omega
   simp only [Nat.zero_mul, Nat.add_zero] at g1; clear A2; go_wp2; go_ret2; exact ⟨rfl, S3⟩
theorem specRun_ok (s x : ByteArray) (w : World) (hx : x.size <= 9223372036854775807) {n : Nat} {A : Nat -> AffD} (R : RunN s n A 0) (hin : RunIn A x) :
 Calls Tryz.prog 16 #[.string s, .string x] w fun e w' => e = .returned (.tuple #[.string ⟨(runT n A x).toArray⟩, .int .i64 0]) /\ w.Since w.heap.size w' := by
 obtain ⟨NP, hz⟩ := R.good rfl; have n0 := NP.n0; have HIN := hide hin; have HNP := hide NP; unfold runT; obtain ⟨XF, hXF⟩ : ∃ XF, numF (inW x) = XF := ⟨_, rfl⟩; obtain ⟨rr, hrr⟩ : ∃ r, (A (n - 1)).rows.toNat = r := ⟨_, rfl⟩; rw [hXF, hrr]; obtain ⟨TT, hTT⟩ : ∃ T : ByteArray, (⟨((xv6 (qLay A (fun i => (XF i).q) (n - 1)) rr).drop 1).toArray⟩ : ByteArray) = T := ⟨_, rfl⟩; rw [hTT]; have HXF := hide hXF; have HRR := hide hrr; have HTT := hide hTT; clear hin NP hXF hrr hTT; go_enter Tryz.func16, Tryz.ntmps16; go_wp2_with fail; refine (R.spec w).mono ?_; rintro e w1 ⟨a, g, cap, rfl, hcap, AF, s1⟩; have t1 := sal w1 (.cells #[.slice a n cap] 24); have S2 := s1.trans (sM t1 s1.size); have b2 := Box1.new w1 (.slice a n cap) 24; have A2 := AF.keep t1; clear AF; go_wp2_with fail; generalize w1.alloc (.cells #[.slice a n cap] 24) = w2 at *; generalize w1.heap.size = d1 at *; refine (l5ReadInput_q x w2 hx).mono ?_; rintro e w3 ⟨E, s3⟩; have S3 := S2.trans (sM s3 S2.size)
 rcases E with ⟨hno, -⟩ | ⟨hyes, a', cap', xs, rfl, O⟩
 . exact absurd HIN.out.1 hno
 obtain ⟨ev, hz2⟩ := HIN.out.ev HNP.out hz O; obtain ⟨gx, hcx, RX⟩ := in_rats O; obtain ⟨qb, hr, tl⟩ := run_qb ev hz2 A2 RX; have he : (((inW x).length : Int) != (A 0).cols) = false := by simpa using HIN.out.2
 have HEV := hide ev; have HQB := hide qb; have HTL := hide tl; rw [HXF.out] at HEV hz2 RX HQB HTL; rw [HRR.out] at HQB HTL hr; obtain ⟨N, hN⟩ : ∃ N, (inW x).length = N := ⟨_, rfl⟩; rw [hN] at HEV hz2 RX he hcx ⊢; clear O hyes hN ev qb tl; have A3 := A2.keep s3; have J := specEvalNet_ok a a' 0 g 0 n cap 0 gx 0 N cap' A XF w3 (by omega) A3 RX HEV.out; rw [HRR.out] at J; obtain ⟨rfl, a1, a2, k1, k2, M⟩ := A2 0 (by omega); have g1 := (M.keep s3).c1; have b3 := (b2.keep s3).c0; have hz0 : (0 : Int) < (n : Int) := by omega
 simp only [Nat.zero_mul, Nat.add_zero] at g1; have hhz := hide hz2; clear A2 A3 RX hz2; go_wp2_with fail; refine J.mono ?_; rintro e w4 ⟨a5, b5, o5, cap5, rfl, Q5, s4⟩; have S4 := S3.trans (sM s4 S3.size); clear J; have JS := l5Spaced_Q a5 b5 o5 rr cap5 _ w4 (by omega) (Nat.le_trans HTL.out (by decide)) Q5 (fun i hi => (HQB.out i hi).more (by decide)); rw [HTT.out] at JS; clear Q5 g1 b3; go_wp2_with fail; refine JS.mono ?_; rintro e w5 ⟨rfl, s5⟩; have S5 := S4.trans (sM s5 S4.size); clear JS; go_wp2; go_ret2; exact ⟨rfl, S5⟩
theorem specRun_q (s x : ByteArray) (w : World) (hx : x.size <= 9223372036854775807) {n : Nat} {A : Nat -> AffD} {code : Int} (R : RunN s n A code) {t : ByteArray} {c : Int} (O : RunO n A code x t c) :
 Calls Tryz.prog 16 #[.string s, .string x] w fun e w' => e = .returned (.tuple #[.string t, .int .i64 c]) /\ w.Since w.heap.size w' := by
 rcases O with ⟨h, rfl, rfl⟩ | ⟨rfl, h', rfl, rfl⟩ | ⟨rfl, h', rfl, rfl⟩
 . exact specRun_no s x w R h
 . exact specRun_bad s x w hx R h'
 . exact specRun_ok s x w hx R h'
theorem join_Q (g cap n : Nat) (Q : Nat -> Rat) {base : Nat} (w : World) (O : w.ownsRow base 9 1 (.slice (some ⟨g, 0, none⟩) n cap) n (strV (txtQ Q n))) (hn : n <= 1048576) (hlim : (xv6 Q n).length <= 140737488355328) :
 Calls Tryz.prog 47 #[.slice (some ⟨g, 0, none⟩) n cap, .string ⟨#[32]⟩] w fun e w' => e = .returned (.string ⟨((xv6 Q n).drop 1).toArray⟩) /\ w.Since w.heap.size w' := by
 obtain ⟨hc, hg, -, hcap, -⟩ := own_texts O; have e1 := txtQ_len Q n; have e2 := join_txtQ Q n; obtain ⟨ws, hws⟩ : ∃ ws, txtQ Q n = ws := ⟨_, rfl⟩; rw [hws] at hc e1 e2
 have J := Tryz.strings_Join g 0 cap (ws.map fun l => (⟨l.toArray⟩ : ByteArray)) ⟨#[32]⟩ w (fun j x h => by
  rw [List.getElem?_map] at h; obtain ⟨y, hy, rfl⟩ := Option.map_eq_some_iff.1 h; rw [Nat.zero_add]
  exact hc j y hy) hg (by rw [List.length_map]; omega) (by rw [List.length_map]; omega) (by
   rw [bytes_map]
   show (Lib.join ws [32]).length <= _
   rw [e2, List.length_drop]; omega)
 rw [List.length_map, bytes_map, e1] at J; refine J.mono ?_; rintro e w1 ⟨rfl, b1⟩; refine ⟨?_, yq3 b1⟩
 show Ending.returned (.string ⟨(Lib.join ws [32]).toArray⟩) = _
 rw [e2]
theorem implRun_no (s x : ByteArray) (w : World) {n : Nat} {A : Nat -> AffD} {code : Int} (R : RunN s n A code) (h : code ≠ 0) :
 Calls Tryz.prog 17 #[.string s, .string x] w fun e w' => e = .returned (.tuple #[.string ⟨#[]⟩, .int .i64 code]) /\ w.Since w.heap.size w' := by
 have hcb : (code != 0) = true := by simpa using h
 go_enter Tryz.func17, Tryz.ntmps17; go_wp2_with fail; refine (R.impl w).mono ?_; rintro e w1 ⟨a, g, cap, rfl, hcap, AF, s1⟩; have t1 := sal w1 (.cells #[.slice a n cap] 24); have S2 := s1.trans (sM t1 s1.size); clear AF; go_wp2; go_ret2; exact ⟨rfl, S2⟩
theorem implRun_bad (s x : ByteArray) (w : World) (hx : x.size <= 9223372036854775807) {n : Nat} {A : Nat -> AffD} (R : RunN s n A 0) (hno : ¬ RunIn A x) :
 Calls Tryz.prog 17 #[.string s, .string x] w fun e w' => e = .returned (.tuple #[.string ⟨#[]⟩, .int .i64 4]) /\ w.Since w.heap.size w' := by
 have n0 := (R.good rfl).1.n0; have HNO := hide hno; clear hno; go_enter Tryz.func17, Tryz.ntmps17; go_wp2_with fail; refine (R.impl w).mono ?_; rintro e w1 ⟨a, g, cap, rfl, hcap, AF, s1⟩; have t1 := sal w1 (.cells #[.slice a n cap] 24); have S2 := s1.trans (sM t1 s1.size); have b2 := Box1.new w1 (.slice a n cap) 24; have A2 := AF.keep t1; clear AF; go_wp2_with fail; generalize w1.alloc (.cells #[.slice a n cap] 24) = w2 at *; generalize w1.heap.size = d1 at *; refine (inputOf_q x w2 hx (fun h w => replaceAll_q x w h)).mono ?_; rintro e w3 ⟨E, s3⟩; have S3 := S2.trans (sM s3 S2.size)
 rcases E with ⟨-, a', rfl⟩ | ⟨hyes, a', cap', xs, rfl, O⟩
 . clear A2
   go_wp2; go_ret2; exact ⟨rfl, S3⟩
 . obtain ⟨N, hN⟩ : ∃ N, (inW x).length = N := ⟨_, rfl⟩
   have hne : ((N : Int) != (A 0).cols) = true := by
    rw [<- hN]
    simpa using fun e => HNO.out ⟨hyes, e⟩
   rw [hN]; clear O hN hyes; obtain ⟨rfl, a1, a2, k1, k2, M⟩ := A2 0 (by omega); have g1 := (M.keep s3).c1; have b3 := (b2.keep s3).c0; have hz0 : (0 : Int) < (n : Int) := by omega
   simp only [Nat.zero_mul, Nat.add_zero] at g1; clear A2; go_wp2; go_ret2; exact ⟨rfl, S3⟩
theorem implRun_ok (s x : ByteArray) (w : World) (hx : x.size <= 9223372036854775807) (hP : Pow w) {n : Nat} {A : Nat -> AffD} (R : RunN s n A 0) (hin : RunIn A x) :
 Calls Tryz.prog 17 #[.string s, .string x] w fun e w' => e = .returned (.tuple #[.string ⟨(runT n A x).toArray⟩, .int .i64 0]) /\ w.Since w.heap.size w' := by
 obtain ⟨NP, hz⟩ := R.good rfl; have n0 := NP.n0; have HIN := hide hin; have HNP := hide NP; unfold runT; obtain ⟨XF, hXF⟩ : ∃ XF, numF (inW x) = XF := ⟨_, rfl⟩; obtain ⟨rr, hrr⟩ : ∃ r, (A (n - 1)).rows.toNat = r := ⟨_, rfl⟩; rw [hXF, hrr]; obtain ⟨TT, hTT⟩ : ∃ T : ByteArray, (⟨((xv6 (qLay A (fun i => (XF i).q) (n - 1)) rr).drop 1).toArray⟩ : ByteArray) = T := ⟨_, rfl⟩; rw [hTT]; have HXF := hide hXF; have HRR := hide hrr; have HTT := hide hTT; clear hin NP hXF hrr hTT; go_enter Tryz.func17, Tryz.ntmps17; go_wp2_with fail; refine (R.impl w).mono ?_; rintro e w1 ⟨a, g, cap, rfl, hcap, AF, s1⟩; have t1 := sal w1 (.cells #[.slice a n cap] 24); have S2 := s1.trans (sM t1 s1.size); have b2 := Box1.new w1 (.slice a n cap) 24; have A2 := AF.keep t1; clear AF; go_wp2_with fail; generalize w1.alloc (.cells #[.slice a n cap] 24) = w2 at *; generalize w1.heap.size = d1 at *; refine (inputOf_q x w2 hx (fun h w => replaceAll_q x w h)).mono ?_; rintro e w3 ⟨E, s3⟩; have S3 := S2.trans (sM s3 S2.size)
 rcases E with ⟨hno, -⟩ | ⟨hyes, a', cap', xs, rfl, O⟩
 . exact absurd HIN.out.1 hno
 obtain ⟨ev, hz2⟩ := HIN.out.ev HNP.out hz O; obtain ⟨gx, hcx, RX⟩ := in_rats O; obtain ⟨qb, hr, tl⟩ := run_qb ev hz2 A2 RX; have he : (((inW x).length : Int) != (A 0).cols) = false := by simpa using HIN.out.2
 have HEV := hide ev; have HQB := hide qb; have HTL := hide tl; rw [HXF.out] at HEV hz2 RX HQB HTL; rw [HRR.out] at HQB HTL hr; obtain ⟨N, hN⟩ : ∃ N, (inW x).length = N := ⟨_, rfl⟩; rw [hN] at HEV hz2 RX he hcx ⊢; clear O hyes hN ev qb tl; have A3 := A2.keep s3; have J := implEvalNet_ok a a' 0 g 0 n cap 0 gx 0 N cap' A XF w3 (Nat.zero_le _) trivial (by omega) hcap A3 RX HEV.out; rw [HRR.out] at J; obtain ⟨rfl, a1, a2, k1, k2, M⟩ := A2 0 (by omega); have g1 := (M.keep s3).c1; have b3 := (b2.keep s3).c0; have hz0 : (0 : Int) < (n : Int) := by omega
 simp only [Nat.zero_mul, Nat.add_zero] at g1; have hhz := hide hz2; clear A2 A3 RX hz2; go_wp2_with fail; refine J.mono ?_; rintro e w4 ⟨c5, E5, rfl, -, Q5, -, -, s4⟩; have S4 := S3.trans (sM s4 S3.size); clear J; have JS := textsOf_Q (some ⟨c5, 0, none⟩) c5 0 rr rr _ w4 (by omega) Q5.qs (fun i hi => (HQB.out i hi).more (by decide)) (hP.stay S4); clear Q5 g1 b3; go_wp2_with fail; refine JS.mono ?_; rintro e w5 ⟨g6, cap6, rfl, O6, s5⟩; have S5 := S4.trans (sM s5 S4.size); clear JS; have JJ := join_Q g6 cap6 rr _ w5 O6 (by omega) (Nat.le_trans HTL.out (by decide)); rw [HTT.out] at JJ; clear O6; go_wp2_with fail; refine JJ.mono ?_; rintro e w6 ⟨rfl, s6⟩; have S6 := S5.trans (sM s6 S5.size); clear JJ; go_wp2; go_ret2; exact ⟨rfl, S6⟩
theorem implRun_q (s x : ByteArray) (w : World) (hx : x.size <= 9223372036854775807) (hP : Pow w) {n : Nat} {A : Nat -> AffD} {code : Int} (R : RunN s n A code) {t : ByteArray} {c : Int} (O : RunO n A code x t c) :
 Calls Tryz.prog 17 #[.string s, .string x] w fun e w' => e = .returned (.tuple #[.string t, .int .i64 c]) /\ w.Since w.heap.size w' := by
 rcases O with ⟨h, rfl, rfl⟩ | ⟨rfl, h', rfl, rfl⟩ | ⟨rfl, h', rfl, rfl⟩
 . exact implRun_no s x w R h
 . exact implRun_bad s x w hx R h'
 . exact implRun_ok s x w hx hP R h'
theorem run_law (s x : ByteArray) (w : World) (hs : s.size <= 9223372036854775807) (hx : x.size <= 9223372036854775807) (hP : Pow w) :
 Calls Tryz.prog 5 #[.string s, .string x] w fun e w' => e = .returned (.bool true) /\ w.Since w.heap.size w' := by
 by_cases h1 : 1048576 < s.size
 . have h1' : (1048576 : Int) < (s.size : Int) := by omega
   go_enter Tryz.func5, Tryz.ntmps5; go_wp2; go_ret; exact ⟨rfl, World.Since.refl _ _⟩
 have h1' : ¬ (1048576 : Int) < (s.size : Int) := by omega
 by_cases h2 : 1048576 < x.size
 . have h2' : (1048576 : Int) < (x.size : Int) := by omega
   go_enter Tryz.func5, Tryz.ntmps5; go_wp2; go_ret; exact ⟨rfl, World.Since.refl _ _⟩
 have h2' : ¬ (1048576 : Int) < (x.size : Int) := by omega
 obtain ⟨n, A, code, R⟩ := readNet_run s hs; obtain ⟨t, c, O⟩ := RunO.all n A code x; have JS := specRun_q s x w hx R O; have JI : Hid (∀ w' : World, Pow w' -> Calls Tryz.prog 17 #[.string s, .string x] w' fun e w'' => e = .returned (.tuple #[.string t, .int .i64 c]) /\ w'.Since w'.heap.size w'') := hide (fun w' hP' => implRun_q s x w' hx hP' R O); clear R O; have htt : (t.toList == t.toList) = true := by simp
 have hcc : (c != c) = false := by simp
 go_enter Tryz.func5, Tryz.ntmps5; go_wp2_with fail; refine JS.mono ?_; rintro e w1 ⟨rfl, s1⟩; clear JS; go_wp2_with fail; refine (JI.out w1 (hP.stay s1)).mono ?_; rintro e w2 ⟨rfl, s2⟩; have S2 := s1.trans (sM s2 s1.size); go_wp2; go_ret; exact ⟨rfl, S2⟩
end Go.Proofs.YtnogbaapcjjngaaGreatDoor
