import Derived.Test.YtnogbaapcjjngaaGreatDoorOwnP20
import Derived.Test.YtnogbaapcjjngaaGreatDoorOwnP28
import Derived.Test.YtnogbaapcjjngaaGreatDoorOwnP6
import Derived.Lib.Explode
set_option maxHeartbeats 6400000
set_option maxRecDepth 100000
namespace Go.Proofs.YtnogbaapcjjngaaGreatDoor
open Go.RowKit
def cv (s : ByteArray) (p : Nat) : Nat -> Nat
 | 0 => 0
 | m + 1 => cv s p m * 10 + (bt s (p + m) - 48)
theorem dv_add (s : ByteArray) (p m : Nat) : dv s (p + m) = dv s p * 10 ^ m + cv s p m := by
 induction m with
 | zero => simp [cv]
 | succ m ih =>
   show dv s (p + m) * 10 + (bt s (p + m) - 48) = _
   rw [ih, cv, Nat.add_mul, Nat.pow_succ, Nat.mul_assoc]; omega
theorem cv_lt (s : ByteArray) (p m : Nat) (hd : ∀ k, k < s.size -> 48 <= bt s k /\ bt s k <= 57) (h : p + m <= s.size) : cv s p m < 10 ^ m := by
 induction m with
 | zero => simp [cv]
 | succ m ih =>
   have h1 := ih (by omega); have h2 := hd (p + m) (by omega); rw [cv, Nat.pow_succ]; omega
theorem ext_ext (s : ByteArray) {p m : Nat} (h : p + m <= s.size) : (s.extract p s.size).extract m (s.size - p) = s.extract (p + m) s.size := by
 have e1 : (s.extract p s.size).size = s.size - p := yj8 s (by omega) (Nat.le_refl _); have e2 : ((s.extract p s.size).extract m (s.size - p)).size = s.size - p - m := yj8 _ (by omega) (by omega); have e3 : (s.extract (p + m) s.size).size = s.size - (p + m) := yj8 s (by omega) (Nat.le_refl _); refine ext_bt (by omega) (fun k hk => ?_); rw [bt_ext _ (by omega), bt_ext _ (by omega), bt_ext _ (by omega), Nat.add_assoc]
theorem At1.sinceB {c o : Nat} {r : Option Nat} {w w1 w2 : World} (h : At1 c o r w1 w2) (S : w.Since w.heap.size w1) (hc : w.heap.size <= c) (hr : ∀ q, r = some q -> w.heap.size <= q) : w.Since w.heap.size w2 :=
 ⟨h.os.trans S.os, h.tape.trans S.tape, h.output.trans S.output, Nat.le_trans S.size h.size, fun k hk => (h.block k (Nat.lt_of_lt_of_le hk S.size) (by omega) (fun e => by have := hr k e.symm; omega)).trans (S.block k hk)⟩
theorem pow8 {i : Nat} (h : i <= 8) : 10 ^ i <= 100000000 := Nat.le_trans (Nat.pow_le_pow_right (by omega) h) (by decide)
theorem natOfDigits_any (s : ByteArray) (w : World) (hs : s.size <= 400) (hd : ∀ k, k < s.size -> 48 <= bt s k /\ bt s k <= 57) :
 Calls Tryz.prog 125 #[.string s] w fun e w' => ∃ v g, e = .returned v /\ xj0 w' v g (dv s s.size) 402 /\ w.heap.size <= g /\ g < w'.heap.size /\ w.Since w.heap.size w' := by
 have sA : w.Since w.heap.size ((w.alloc (.cells #[] 159)).alloc (.cells #[.slice (some ⟨w.heap.size, 0, none⟩) 0 0] 165)) := ((World.Since.refl _ _).alloc (Nat.le_refl _) _).alloc (by simp) _; have zA : ((w.alloc (.cells #[] 159)).alloc (.cells #[.slice (some ⟨w.heap.size, 0, none⟩) 0 0] 165)).heap.size = w.heap.size + 1 + 1 := by simp
 have own0 : ((w.alloc (.cells #[] 159)).alloc (.cells #[.slice (some ⟨w.heap.size, 0, none⟩) 0 0] 165)).ownsRow w.heap.size 159 1 (.slice (some ⟨w.heap.size, 0, none⟩) 0 0) 0 (ll (fun _ => 0) 0) := (World.ownsRow_made w #[] 0 (Nat.le_refl _) (by decide) rfl).alloc _
 have c0 : ((w.alloc (.cells #[] 159)).alloc (.cells #[.slice (some ⟨w.heap.size, 0, none⟩) 0 0] 165)).cell? ⟨w.heap.size + 1, 0, none⟩ = some (.slice (some ⟨w.heap.size, 0, none⟩) 0 0) := by
  simp
 have f0 : ((w.alloc (.cells #[] 159)).alloc (.cells #[.slice (some ⟨w.heap.size, 0, none⟩) 0 0] 165)).frozen? ⟨w.heap.size + 1, 0, none⟩ = false := by
  simp
 have HDG := hide hd; clear hd; go_enter Tryz.func125, Tryz.ntmps125; go_wp2; generalize ((w.alloc (.cells #[] 159)).alloc (.cells #[.slice (some ⟨w.heap.size, 0, none⟩) 0 0] 165)) = wA at *; obtain ⟨c, hc⟩ : ∃ c, c = w.heap.size + 1 := ⟨_, rfl⟩; rw [<- hc] at c0 f0 ⊢; have hcA : c < wA.heap.size := by omega
 have hcw : w.heap.size < c := by omega
 clear hc zA
 go_loopg [0] s.size (fun gk d wr => ∃ (p n : Nat) (v : Value) (X : Nat -> Nat), p <= s.size /\ Hid (gk = s.size - p) /\ d = .string (s.extract p s.size) /\ Hid (p = 0 ∨ (s.size - p) % 9 = 0) /\ wr.cell? ⟨c, 0, none⟩ = some v /\ wr.frozen? ⟨c, 0, none⟩ = false /\ wr.ownsRow w.heap.size 159 1 v n (ll X n) /\ Hid (v ≠ .slice none 0 0) /\ Hid (v.ownBlock ≠ some c) /\
  Hid (∀ j, j < n -> X j < 4294967296) /\ Hid (0 < n -> X (n - 1) ≠ 0) /\ Hid (lv X n = dv s p) /\ n <= p /\ c < wr.heap.size /\ w.Since w.heap.size wr)
 case atStart => exact ⟨0, 0, _, fun _ => 0, Nat.zero_le _, hide rfl, by rw [Lib.whole_piece], hide (Or.inl rfl), c0, f0, own0, hide (by simp), hide (by simp [Value.ownBlock]; omega), hide (fun j hj => absurd hj (by omega)), hide (fun h => absurd h (by omega)), hide rfl, Nat.le_refl _, hcA, sA⟩
 case round =>
  obtain ⟨p, n, v, X, hp, HG, rfl, H9, q0, qf, hown, HN, HC, HX, HT, HV, hnp, hcr, Sr⟩ := hrel; clear own0 c0 f0 sA hcA; have hsz : (s.extract p s.size).size = s.size - p := yj8 s hp (Nat.le_refl _); have HEX := hide (fun m (h : p + m <= s.size) => ext_ext s h); have HBT := hide (fun k (h : k < s.size - p) => bt_ext s (i := p) (j := s.size) h); obtain ⟨t, ht⟩ : ∃ t, t = s.extract p s.size := ⟨_, rfl⟩; rw [<- ht] at hsz HEX HBT ⊢; obtain ⟨r, hr⟩ : ∃ r, r = s.size - p := ⟨_, rfl⟩; rw [<- hr] at hsz HEX HBT; clear ht
  by_cases hr0 : 0 < r
  . obtain ⟨m, hm⟩ : ∃ m, m = (r - 1) % 9 + 1 := ⟨_, rfl⟩
    have hm1 : m <= 9 := by omega
    have hm2 : m <= r := by omega
    have H9' : Hid (p = 0 ∨ m = 9) := hide (by have := H9.out; omega); have hmI : ((r : Int) - 1) % 9 + 1 = (m : Int) := by omega
    have hszI : (t.size : Int) = (r : Int) := by omega
    have hrI : (0 : Int) < (r : Int) := by omega
    have hrb : r <= 400 := by omega
    have HM := hide hm; have HR := hide hr; clear hm hr; go_wp2
    go_loopw [5, 17] (fun q t' wr' => ∃ (i x : Nat), i <= m /\ t' = .int .i64 i /\ q = .int .u32 x /\ Hid (x = cv s p i) /\ x < 1000000000 /\ Same wr wr') (fun _ t' _ => m - (intOf t').toNat)
    case atStart => exact ⟨0, 0, Nat.zero_le _, rfl, rfl, hide rfl, by omega, Same.refl _⟩
    case round =>
     obtain ⟨i, x, him, rfl, rfl, HCV, hx9, sm⟩ := hrel
     by_cases hlt : i < m
     . have hps : p + m <= s.size := by have := HR.out; omega
       have hx8 : x < 100000000 := by
        have h1 := cv_lt s p i HDG.out (by omega); have h2 := pow8 (i := i) (by omega); have := HCV.out; omega
       have hti : i < t.size := by omega
       have hb := bt_in hti; have hbb := HBT.out i (by omega); have hdd := HDG.out (p + i) (by omega); rw [hbb] at hb; obtain ⟨y, hy⟩ : ∃ y, bt s (p + i) = y + 48 := ⟨bt s (p + i) - 48, by omega⟩; have HS : Hid (cv s p (i + 1) = x * 10 + y) := hide (by rw [cv, hy, Nat.add_sub_cancel, <- HCV.out]); rw [hy] at hb hdd; have hw2 : ((y + 48 : Nat) : Int) - 48 = (y : Int) := by omega
       have hw3 : (y : Int) + 48 - 48 = (y : Int) := by omega
       have hiI : (i : Int) < (m : Int) := by omega
       have hiR : (i : Int) < (r : Int) := by omega
       clear hbb hy; go_wp2; go_roundw
       case rel => exact ⟨i + 1, x * 10 + y, by omega, by go_num, by go_num, hide HS.out.symm, by omega, sm⟩
       case measure => simp [intOf]; omega
     . have e : i = m := by omega
       subst e; have hps : p + i <= s.size := by have := HR.out; omega
       have q1 : wr.cell? ⟨c, 0, none⟩ = some v := by rw [sm.cell]; exact q0
       have f1 : wr.frozen? ⟨c, 0, none⟩ = false := by rw [sm.frozen]; exact qf
       have o1 : wr.ownsRow w.heap.size 159 1 v n (ll X n) := hown.kept (row := none) ⟨sm.os, sm.tape, sm.output, by rw [sm.size]; exact Nat.le_refl _, fun k _ _ => by rw [sm.heap]⟩ (by cases h : v.ownBlock <;> simp); have S1 := Sr.trans (sM (sm.since _) Sr.size); have hz1 := sm.size; have J := multiplyAdd_any c 0 w.heap.size n v x X wr (by omega) (by omega) q1 f1 o1 HC.out (by omega) S1.size HX.out; have hlow := fun q hq => (o1.lt q hq).1
       have f1' := f1; clear q0 qf hown Sr q1 f1 o1; have hex := HEX.out i (by have := HR.out; omega); have hiI : (i : Int) <= (r : Int) := by omega
       go_wp2_with (go_at_call 161; with_reducible refine J.mono ?_; rintro e w2 ⟨rfl, v2, k2, V2, q2, o2, n2, b2, A2, l2, e2, m2, t2⟩)
       have hval : lv V2 k2 = dv s (p + i) := by
        rw [e2, HV.out, dv_add, HCV.out]
        rcases H9'.out with h | h
        . rw [h]; simp [dv]
        . rw [h]
       have htop : 0 < k2 -> V2 (k2 - 1) ≠ 0 := fun h0 hz => by
        rcases t2 with h | h
        . subst h
          have h1 : lv V2 k2 = lv V2 (k2 - 1) := lv_more V2 (k2 - 1) k2 (by omega) (fun j h1 h2 => by rw [show j = k2 - 1 by omega]; exact hz); have h2 := yz5 (A := V2) (B := X) (n := k2 - 1) (m := k2) (fun j hj => l2 j (by omega)) (by omega) HT.out; omega
        . exact h hz
       have S2 : w.Since w.heap.size w2 := A2.sinceB S1 (by omega) hlow; have hs2 := A2.size
       go_roundg (s.size - (p + i))
       case rel => exact ⟨p + i, k2, v2, V2, by omega, hide rfl, rfl, hide (Or.inr (by have := HM.out; have := HR.out; omega)), q2, by rw [A2.frozen]; exact f1', o2, hide (fun h => HN.out (n2 h)), hide b2, hide l2, hide htop, hide hval, by have := HM.out; omega, by omega, S2⟩
       case measure => have := HG.out; have := HM.out; have := HR.out; omega
  . obtain ⟨g, cp, rfl, k1, k2, k3, L3, F3⟩ := xj9 hown HN.out
    have e := hide (show p = s.size by omega); go_wp2; go_ret; exact ⟨_, g, rfl, ⟨_, n, cp, X, rfl, k1, by omega, fun h => (by cases h), L3, fun _ o => F3 o, HX.out, HT.out, by rw [<- e.out]; exact HV.out⟩, k2, k3, Sr⟩
end Go.Proofs.YtnogbaapcjjngaaGreatDoor
