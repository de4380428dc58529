import Derived.Test.YthaomfabdghfjaaG1P2
import Derived.Test.YthaomfabdghfjaaG1P1
import Derived.Deep.LoopGhost
namespace Go.Proofs.Ythaomfabdghfjaa
open Go.RowKit

set_option maxHeartbeats 800000 in
set_option maxRecDepth 100000 in
theorem to_any (a : Option Addr) (b off n cap : Nat) (X : Nat → Nat) (w : World) (hn : n ≤ 1048576) (hX : Limbs w a b off n X) :
    Calls Try.prog 52 #[.slice a n cap] w fun e w' => e = .returned (.slice (some ⟨w.heap.size, 0, none⟩) n n) ∧ w.Since w.heap.size w' ∧ w'.rowIs w.heap.size 73 n (fun j => .int .u32 (X j)) := by
  have hmk := run_make_row' (P := Try.prog) 49 73 (.int .u32 0) 4 Try.underlying49 Try.info73 rfl .i64 .i64 n (by omega) (by omega)
  go_enter Try.func52, Try.ntmps52
  go_wp2
  clear hmk
  go_loopw [4] (fun i wr => ∃ k : Nat, k ≤ n ∧ i = .int .i64 k ∧ w.Since w.heap.size wr ∧ wr.rowIs w.heap.size 73 n (fun j => .int .u32 (if j < k then X j else 0))) (fun i _ => n - (intOf i).toNat)
  case atStart =>
    exact ⟨0, Nat.zero_le _, rfl, (World.Since.refl _ _).alloc (Nat.le_refl _) _, (World.rowIs_made w _ n 73).congr (fun j _ => by simp)⟩
  case round =>
    obtain ⟨k, hk, rfl, hs, hr⟩ := hrel
    by_cases hlt : k < n
    · obtain ⟨rfl, hc⟩ := hX k hlt
      have hb : b < w.heap.size := World.block_lt_of_cell? _ _ hc
      have g0 : wr.cell? ⟨b, off + k, none⟩ = some (.int .u32 (X k)) := by rw [hs.cell (a := ⟨b, off + k, none⟩) hb]; exact hc
      have g1 := hr.cell hlt
      have g2 := hr.frozen k
      go_wp2
      go_roundw
      case rel =>
        refine ⟨k + 1, by omega, by go_num, hs.setCell (Nat.le_refl _) _, (hr.set k _).congr (fun j _ => ?_)⟩
        by_cases e : j = k
        · subst e; simp
        · simp only [e, if_false]
          by_cases e2 : j < k
          · rw [if_pos e2, if_pos (by omega)]
          · rw [if_neg e2, if_neg (by omega)]
      case measure => simp [intOf]; omega
    · have e : k = n := by omega
      subst e
      go_wp2
      go_ret
      exact ⟨rfl, hs, hr.congr (fun j hj => by simp [hj])⟩

end Go.Proofs.Ythaomfabdghfjaa

namespace Go.Proofs.Ythaomfabdghfjaa
open Go.RowKit

set_option maxHeartbeats 800000 in
set_option maxRecDepth 100000 in
theorem eq_true (a a' : Option Addr) (b off b' off' n cap cap' : Nat) (X : Nat → Nat) (w : World) (hn : n ≤ 4194304) (hX : Limbs w a b off n X) (hY : Limbs w a' b' off' n X) :
    Calls Try.prog 59 #[.slice a n cap, .slice a' n cap'] w fun e w' => e = .returned (.bool true) ∧ Same w w' := by
  go_enter Try.func59, Try.ntmps59
  go_wp2
  go_loopw [5] (fun i wr => ∃ k : Nat, k ≤ n ∧ i = .int .i64 k ∧ Same w wr) (fun i _ => n - (intOf i).toNat)
  case atStart => exact ⟨0, Nat.zero_le _, rfl, Same.refl _⟩
  case round =>
    obtain ⟨k, hk, rfl, hs⟩ := hrel
    by_cases hlt : k < n
    · obtain ⟨rfl, hc⟩ := hX k hlt
      obtain ⟨rfl, hc'⟩ := hY k hlt
      have g0 : wr.cell? ⟨b, off + k, none⟩ = some (.int .u32 (X k)) := by rw [hs.cell]; exact hc
      have g1 : wr.cell? ⟨b', off' + k, none⟩ = some (.int .u32 (X k)) := by rw [hs.cell]; exact hc'
      have hz : (k : Int) < (n : Int) := by omega
      go_wp2
      go_quiet (fail)
      go_wp2
      go_roundw
      case rel => exact ⟨k + 1, by omega, by go_num, hs.drewN _⟩
      case measure => simp [intOf]; omega
    · go_wp2
      go_ret
      exact ⟨rfl, hs⟩

end Go.Proofs.Ythaomfabdghfjaa

namespace Go.Proofs.Ythaomfabdghfjaa
open Go.RowKit

/-- A trimmed list of bits, read at whatever place: the slice's value. -/
def Tr (w : World) (v : Value) (n : Nat) (A : Nat → Bool) : Prop :=
  ∃ a b off cap, v = .slice a n cap ∧ n ≤ cap ∧ Bits w a b off n A ∧ (0 < n → A (n - 1) = true)

theorem Tr.keep {w w' : World} {v : Value} {n : Nat} {A : Nat → Bool} (h : Tr w v n A) (s : w.Since w.heap.size w') : Tr w' v n A := by
  obtain ⟨a, b, off, cap, h1, h2, h3, h4⟩ := h
  exact ⟨a, b, off, cap, h1, h2, h3.keep s, h4⟩

theorem Tr.same {w w' : World} {v : Value} {n : Nat} {A : Nat → Bool} (h : Tr w v n A) (s : Same w w') : Tr w' v n A := h.keep (s.since _)

theorem bits_tail {w : World} {b off n : Nat} {A : Nat → Bool} (h : Bits w (some ⟨b, off, none⟩) b off n A) (hn : 0 < n) : Bits w (some ⟨b, off + 1, none⟩) b (off + 1) (n - 1) (sh A 1) :=
  fun j hj => ⟨rfl, by have := (h (j + 1) (by omega)).2; rw [show off + 1 + j = off + (j + 1) by omega]; exact this⟩

theorem row_own_bits {w : World} {base g t cap : Nat} {S : Nat → Bool} (hr : w.rowIs g 4 cap (fun j => .bool (S j))) (ht : t ≤ cap) (hc : cap ≤ maxLen) (hb : base ≤ g) : w.ownsRow base 4 1 (.slice (some ⟨g, 0, none⟩) t cap) t (bl S t) := by
  obtain ⟨cur, h1, h2, h3⟩ := hr
  refine ⟨by rw [bl_len]; omega, .inr ⟨g, cap, cur, rfl, hb, h1, ht, hc, by omega, ?_⟩⟩
  apply List.ext_getElem?
  intro i
  rw [Nat.mul_one]
  by_cases hi : i < t
  · rw [bl_get S t i hi, List.getElem?_take, if_pos hi]
    have := h3 i (by omega)
    simpa using this
  · rw [List.getElem?_eq_none (by rw [List.length_take]; omega), List.getElem?_eq_none (by rw [bl_len]; omega)]

theorem bits_news2 {w : World} {g off t : Nat} {R : Nat → Bool} (h : Bits w (some ⟨g, off, none⟩) g off t R) : ∀ j u, (bl R t)[j]? = some u → w.cell? ((⟨g, off, none⟩ : Addr).add j) = some u := by
  intro j u hu
  have hj : j < t := by have := (List.getElem?_eq_some_iff.1 hu).1; rwa [bl_len] at this
  rw [bl_get R t j hj] at hu
  rw [Addr.add_lit, (h j hj).2]; exact hu

theorem bl_zeros (k : Nat) (B : Nat → Bool) (m : Nat) : bl (zeros k B) (k + m) = bl (fun _ => false) k ++ bl B m := by
  apply List.ext_getElem?
  intro i
  by_cases h1 : i < k
  · rw [bl_get _ _ _ (by omega), List.getElem?_append_left (by rw [bl_len]; exact h1), bl_get _ _ _ h1]
    simp [zeros, h1]
  · rw [List.getElem?_append_right (by rw [bl_len]; omega), bl_len]
    by_cases h2 : i < k + m
    · rw [bl_get _ _ _ h2, bl_get _ _ _ (by omega)]
      simp [zeros, h1]
    · rw [List.getElem?_eq_none (by rw [bl_len]; omega), List.getElem?_eq_none (by rw [bl_len]; omega)]

theorem trim_tail {A : Nat → Bool} {n : Nat} (hn : 2 ≤ n) (h : A (n - 1) = true) : 0 < n - 1 → sh A 1 (n - 1 - 1) = true := fun _ => by unfold sh; rw [show n - 1 - 1 + 1 = n - 1 by omega]; exact h

theorem even_long {A : Nat → Bool} {n : Nat} (h0 : 0 < n) (h1 : A 0 = false) (ht : A (n - 1) = true) : 2 ≤ n := by
  by_cases e : n = 1
  · subst e; simp at ht; rw [h1] at ht; cases ht
  · omega

theorem bv_pos {A : Nat → Bool} {n : Nat} (h0 : 0 < n) (ht : A (n - 1) = true) : 0 < bv A n := by
  have := bv_ge A n h0 ht
  have := Nat.pow_pos (n := n - 1) (show 0 < 2 by omega)
  omega

set_option maxHeartbeats 6400000 in
set_option maxRecDepth 100000 in
theorem l1GcdBits_any (v0 v1 : Value) (n0 m0 : Nat) (A0 B0 : Nat → Bool) (w : World) (hn : n0 ≤ 67108864) (hm : m0 ≤ 67108864) (hA : Tr w v0 n0 A0) (hB : Tr w v1 m0 B0) :
    Calls Try.prog 38 #[v0, v1] w fun e w' => ∃ v t O, e = .returned v ∧ t ≤ n0 + m0 + m0 ∧ Tr w' v t O ∧ bv O t = Nat.gcd (bv A0 n0) (bv B0 m0) ∧ w.Since w.heap.size w' := by
  obtain ⟨a, ba, oa, ca, rfl, hca, hA1, tA⟩ := hA
  obtain ⟨b, bb, ob, cb, rfl, hcb, hB1, tB⟩ := hB
  by_cases z0 : n0 = 0
  · subst z0
    go_enter Try.func38, Try.ntmps38
    go_wp2
    go_ret
    exact ⟨_, m0, B0, rfl, by omega, ⟨b, bb, ob, cb, rfl, hcb, hB1, tB⟩, by simp [bv], World.Since.refl _ _⟩
  by_cases z1 : m0 = 0
  · subst z1
    have q0 : ((n0 : Int) == 0) = false := by simp; omega
    go_enter Try.func38, Try.ntmps38
    go_wp2
    go_ret
    exact ⟨_, n0, A0, rfl, by omega, ⟨a, ba, oa, ca, rfl, hca, hA1, tA⟩, by simp [bv], World.Since.refl _ _⟩
  obtain ⟨G, hG⟩ : ∃ G, G = Nat.gcd (bv A0 n0) (bv B0 m0) := ⟨_, rfl⟩
  have HG := hide hG
  have q0 : ((n0 : Int) == 0) = false := by simp; omega
  have q1 : ((m0 : Int) == 0) = false := by simp; omega
  have HtA := hide tA
  have HtB := hide tB
  clear hG tA tB
  go_enter Try.func38, Try.ntmps38
  go_wp2
  clear q0 q1
  go_loopg [0, 1, 5] n0 (fun n x y z wr => ∃ (m tw : Nat) (A B : Nat → Bool) (p q : Option Addr) (bp op bq oq cp cq : Nat), w = wr ∧ x = .slice p n cp ∧ y = .slice q m cq ∧ z = .int .i64 tw ∧ 0 < n ∧ 0 < m ∧ n ≤ cp ∧ m ≤ cq ∧ n ≤ n0 ∧ m + tw ≤ m0 ∧
    Bits w p bp op n A ∧ Bits w q bq oq m B ∧ Hid (A (n - 1) = true) ∧ Hid (B (m - 1) = true) ∧ Hid (2 ^ tw * Nat.gcd (bv A n) (bv B m) = G))
  case atStart => exact ⟨m0, 0, A0, B0, a, b, ba, oa, bb, ob, ca, cb, rfl, rfl, rfl, rfl, by omega, by omega, hca, hcb, Nat.le_refl _, by omega, hA1, hB1, HtA.out (by omega), HtB.out (by omega), by rw [HG.out]; simp [Hid]⟩
  case round =>
    obtain ⟨m, tw, A, B, p, q, bp, op, bq, oq, cp, cq, rfl, rfl, rfl, rfl, n1, m1, hcp, hcq, hn0, hm0, hA, hB, TA, TB, HGr⟩ := hrel
    obtain ⟨n, hgn⟩ : ∃ n, n = gk := ⟨_, rfl⟩
    subst hgn
    obtain ⟨rfl, ka⟩ := hA 0 n1
    obtain ⟨rfl, kb⟩ := hB 0 m1
    rw [Nat.add_zero] at ka kb
    clear hA1 hB1 HtA HtB
    by_cases hev : A 0 = false ∧ B 0 = false
    · obtain ⟨ea, eb⟩ := hev
      have la := even_long n1 ea TA.out
      have lb := even_long m1 eb TB.out
      have E1 := hide (bv_even n1 ea)
      have E2 := hide (bv_even m1 eb)
      rw [ea] at ka
      rw [eb] at kb
      clear ea eb
      go_wp2
      go_roundg (n - 1)
      case measure => omega
      case rel =>
        go_light
        refine ⟨m - 1, tw + 1, sh A 1, sh B 1, _, _, bp, op + 1, bq, oq + 1, cp - 1, cq - 1, rfl, rfl, rfl, by go_num, by omega, by omega, by omega, by omega, by omega, by omega, bits_tail hA n1, bits_tail hB m1, trim_tail la TA.out (by omega), trim_tail lb TB.out (by omega), ?_⟩
        have h := HGr.out
        rw [E1.out, E2.out, gcd_twice, ← Nat.mul_assoc, ← Nat.pow_succ] at h
        exact h
    · have HO : Hid (bv A n % 2 = 1 ∨ bv B m % 2 = 1) := by
        cases ea : A 0
        · cases eb : B 0
          · exact absurd ⟨ea, eb⟩ hev
          · exact Or.inr (bv_odd m1 eb)
        · exact Or.inl (bv_odd n1 ea)
      have key : (A 0 = true) ∨ (A 0 = false ∧ B 0 = true) := by
        cases ea : A 0
        · cases eb : B 0
          · exact absurd ⟨ea, eb⟩ hev
          · exact Or.inr ⟨rfl, rfl⟩
        · exact Or.inl rfl
      clear hev
      have S0 := World.Since.refl w.heap.size w
      have T0 : Tr w (.slice (some ⟨bp, op, none⟩) n cp) n A := ⟨_, bp, op, cp, rfl, hcp, hA, fun _ => TA.out⟩
      have U0 : Tr w (.slice (some ⟨bq, oq, none⟩) m cq) m B := ⟨_, bq, oq, cq, rfl, hcq, hB, fun _ => TB.out⟩
      rcases key with ea | ⟨ea, eb⟩
      · rw [ea] at ka
        clear ea hA hB TA TB
        go_wp2
        obtain ⟨g2, hg2⟩ : ∃ g, g = Nat.gcd (bv A n) (bv B m) := ⟨_, rfl⟩
        have HG2 := hide hg2
        have HGG := HGr.out
        rw [← hg2] at HGG
        have HGG := hide HGG
        clear hg2 HGr ka kb
        go_loopg [0, 1] (bv A n + bv B m) (fun g x y wr => ∃ (n m : Nat) (A B : Nat → Bool), Hid (g = bv A n + bv B m) ∧ Tr wr x n A ∧ Tr wr y m B ∧ n ≤ n0 + m0 ∧ 0 < m ∧ m ≤ n0 + m0 ∧ Hid (bv A n % 2 = 1 ∨ bv B m % 2 = 1) ∧ Hid (g2 = Nat.gcd (bv A n) (bv B m)) ∧ w.Since w.heap.size wr)
        case atStart => exact ⟨n, m, A, B, rfl, T0, U0, by omega, m1, by omega, HO, HG2, S0⟩
        case round =>
          clear T0 U0 HO HG2 S0 n1 m1 hcp hcq hn0
          obtain ⟨n', m', A', B', Hg, TA, TB, hn1, m1, hm1, HO, HG2, hs⟩ := hrel
          obtain ⟨p', bp', op', cp', rfl, hcp, hA, tA⟩ := TA
          obtain ⟨q', bq', oq', cq', rfl, hcq, hB, tB⟩ := TB
          obtain ⟨rfl, kb⟩ := hB 0 m1
          rw [Nat.add_zero] at kb
          have HtA := hide tA
          have HtB := hide tB
          clear tA tB
          by_cases hn0 : 0 < n'
          · obtain ⟨rfl, ka⟩ := hA 0 hn0
            rw [Nat.add_zero] at ka
            cases ea : A' 0
            · -- a is even
              have la := even_long hn0 ea (HtA.out hn0)
              have E1 := hide (bv_even hn0 ea)
              have hp := bv_pos (A := sh A' 1) (n := n' - 1) (by omega) (trim_tail la (HtA.out hn0) (by omega))
              have hob : bv B' m' % 2 = 1 := by have := HO.out; have := E1.out; omega
              have HN : Hid (g2 = Nat.gcd (bv (sh A' 1) (n' - 1)) (bv B' m')) := by have h := HG2.out; rw [E1.out, gcd_half_left hob] at h; exact h
              have HO' : Hid (bv (sh A' 1) (n' - 1) % 2 = 1 ∨ bv B' m' % 2 = 1) := Or.inr hob
              have Hlt : Hid (bv (sh A' 1) (n' - 1) + bv B' m' < gk) := by have := Hg.out; have := E1.out; show _ < _; omega
              rw [ea] at ka
              clear ea hob hp E1
              go_wp2
              go_roundg (bv (sh A' 1) (n' - 1) + bv B' m')
              case measure => exact Hlt.out
              case rel => exact ⟨n' - 1, m', sh A' 1, B', rfl, ⟨_, bp', op' + 1, cp' - 1, rfl, by omega, bits_tail hA hn0, trim_tail la (HtA.out hn0)⟩, ⟨_, bq', oq', cq', rfl, hcq, hB, HtB.out⟩, by omega, m1, hm1, HO', HN, hs⟩
            · have hoa := bv_odd hn0 ea
              have hpa := bv_pos hn0 (HtA.out hn0)
              rw [ea] at ka
              clear ea
              cases eb : B' 0
              · -- b is even
                have lb := even_long m1 eb (HtB.out m1)
                have E1 := hide (bv_even m1 eb)
                have hp := bv_pos (A := sh B' 1) (n := m' - 1) (by omega) (trim_tail lb (HtB.out m1) (by omega))
                have HN : Hid (g2 = Nat.gcd (bv A' n') (bv (sh B' 1) (m' - 1))) := by have h := HG2.out; rw [E1.out, gcd_half_right hoa] at h; exact h
                have HO' : Hid (bv A' n' % 2 = 1 ∨ bv (sh B' 1) (m' - 1) % 2 = 1) := Or.inl hoa
                have Hlt : Hid (bv A' n' + bv (sh B' 1) (m' - 1) < gk) := by have := Hg.out; have := E1.out; show _ < _; omega
                rw [eb] at kb
                clear eb hoa hpa hp E1
                go_wp2
                go_roundg (bv A' n' + bv (sh B' 1) (m' - 1))
                case measure => exact Hlt.out
                case rel => exact ⟨n', m' - 1, A', sh B' 1, rfl, ⟨_, bp', op', cp', rfl, hcp, hA, HtA.out⟩, ⟨_, bq', oq' + 1, cq' - 1, rfl, by omega, bits_tail hB m1, trim_tail lb (HtB.out m1)⟩, hn1, by omega, by omega, HO', HN, hs⟩
              · have hob := bv_odd m1 eb
                have hpb := bv_pos m1 (HtB.out m1)
                rw [eb] at kb
                clear eb
                have HP := hide (And.intro hoa (And.intro hob (And.intro hpa hpb)))
                clear hoa hob hpa hpb
                go_wp2_with fail
                refine (l1CmpBits_any _ _ bp' op' n' cp' bq' oq' m' cq' A' B' _ (by omega) (by omega) hA hB HtA.out HtB.out).mono ?_
                rintro e w2 ⟨rfl, s2⟩
                have hA := hA.same s2
                have hB := hB.same s2
                have hs : w.Since w.heap.size w2 := hs.trans (s2.since _)
                clear s2 ka kb
                by_cases hge : bv B' m' ≤ bv A' n'
                · have hc := cmpN_nonneg hge
                  have hlen := bv_len HtB.out hge
                  have HN : Hid (g2 = Nat.gcd (bv A' n' - bv B' m') (bv B' m')) := by have h := HG2.out; rw [← gcd_sub_left hge] at h; exact h
                  have Hge := hide hge
                  clear hge
                  generalize cmpN (bv A' n') (bv B' m') = z at *
                  go_wp2_with fail
                  refine (l1SubBits_any _ _ bp' op' n' cp' bq' oq' m' cq' A' B' _ (by omega) hlen hA hB Hge.out).mono ?_
                  rintro e w3 ⟨g3, t3, c3, D, rfl, k1, k2, hD, k3, k4, k5, s3⟩
                  have HD := hide k4
                  have HV := hide k5
                  have hB := hB.keep s3
                  have hs3 : w.Since w.heap.size w3 := hs.trans (sinceMono s3 hs.size)
                  clear k4 k5 s3 hs hA
                  go_wp2
                  go_roundg (bv D t3 + bv B' m')
                  case measure => have := Hg.out; have := HV.out; have := HP.out; have := Hge.out; omega
                  case rel => exact ⟨t3, m', D, B', rfl, ⟨_, g3, 0, c3, rfl, k1, hD, HD.out⟩, ⟨_, bq', oq', cq', rfl, hcq, hB, HtB.out⟩, by omega, m1, hm1, Or.inr HP.out.2.1, by rw [HV.out]; exact HN, hs3⟩
                · have hlt : bv A' n' < bv B' m' := by omega
                  have hc := cmpN_neg hlt
                  have hlen := bv_len HtA.out (Nat.le_of_lt hlt)
                  have HN : Hid (g2 = Nat.gcd (bv A' n') (bv B' m' - bv A' n')) := by have h := HG2.out; rw [← gcd_sub_right (Nat.le_of_lt hlt)] at h; exact h
                  have Hlt := hide hlt
                  clear hge hlt
                  generalize cmpN (bv A' n') (bv B' m') = z at *
                  go_wp2_with fail
                  refine (l1SubBits_any _ _ bq' oq' m' cq' bp' op' n' cp' B' A' _ (by omega) hlen hB hA (Nat.le_of_lt Hlt.out)).mono ?_
                  rintro e w3 ⟨g3, t3, c3, D, rfl, k1, k2, hD, k3, k4, k5, s3⟩
                  have HD := hide k4
                  have HV := hide k5
                  have hA := hA.keep s3
                  have hs3 : w.Since w.heap.size w3 := hs.trans (sinceMono s3 hs.size)
                  have ht3 : 0 < t3 := by
                    by_cases e : 0 < t3
                    · exact e
                    · have e0 : t3 = 0 := by omega
                      rw [e0] at k5
                      have := Hlt.out
                      simp [bv] at k5
                      omega
                  have hne : ((t3 : Int) == 0) = false := by simp; omega
                  clear k4 k5 s3 hs hB
                  go_wp2
                  go_roundg (bv A' n' + bv D t3)
                  case measure => have := Hg.out; have := HV.out; have := HP.out; have := Hlt.out; omega
                  case rel => exact ⟨n', t3, A', D, rfl, ⟨_, bp', op', cp', rfl, hcp, hA, HtA.out⟩, ⟨_, g3, 0, c3, rfl, k1, hD, HD.out⟩, hn1, ht3, by omega, Or.inl HP.out.1, by rw [HV.out]; exact HN, hs3⟩
          · have e0 : n' = 0 := by omega
            subst e0
            obtain ⟨i0, hi, hz0, hz1, hz2⟩ := info_parts Try.info4
            have hmk := run_make_row' (P := Try.prog) 68 4 (.bool false) 1 Try.underlying68 Try.info4 rfl .i64 .i64 tw (by omega) (by omega)
            have hrow := World.rowIs_made wr (.bool false) tw 4
            have hsz := hs.size
            have hB2 := hB.keep (w' := wr.alloc (.cells (madeCells #[.bool false] tw) 4)) ((World.Since.refl _ _).alloc (Nat.le_refl _) _)
            clear kb
            go_wp2_with (at_builtin; refine wpList_append_own _ rfl _ _ 68 rfl w.heap.size 4 i0 (.bool false) 1 1 Try.underlying68 hi hz0 hz1 hz2 rfl (by decide) _ _ _ rfl (row_own_bits (S := fun _ => false) hrow (Nat.le_refl _) (by unfold maxLen; omega) hsz) ⟨bq', oq', none⟩ m' cq' (bl B' m') rfl (by rw [bl_len]; omega) (bits_news2 hB2) (bl_one B' m') (by unfold maxLen; omega) (by omega) (by simp; omega) ?_)
            intro v' w3 hown hgrow hnn
            rw [← bl_zeros] at hown
            have hs3 : w.Since w.heap.size w3 := (hs.alloc hsz _).grown hgrow (by simp; omega) (fun k hk => by simp [Value.ownBlock] at hk; omega)
            obtain ⟨g3, c3, rfl, k1, k2, k3⟩ := own_bits_some hown hnn
            clear hown hgrow hnn hB2 hrow hmk hi hz0 hz1 hz2
            go_wp2
            go_ret
            refine ⟨_, tw + m', zeros tw B', rfl, by omega, ⟨_, g3, 0, c3, rfl, k1, k3, fun _ => ?_⟩, ?_, hs3⟩
            · unfold zeros
              rw [if_neg (by omega), show tw + m' - 1 - tw = m' - 1 by omega]
              exact HtB.out m1
            · rw [bv_zeros, ← HG.out, ← HGG.out, HG2.out]
              simp [bv]
      · rw [ea] at ka
        rw [eb] at kb
        clear ea eb hA hB TA TB
        go_wp2
        obtain ⟨g2, hg2⟩ : ∃ g, g = Nat.gcd (bv A n) (bv B m) := ⟨_, rfl⟩
        have HG2 := hide hg2
        have HGG := HGr.out
        rw [← hg2] at HGG
        have HGG := hide HGG
        clear hg2 HGr ka kb
        go_loopg [0, 1] (bv A n + bv B m) (fun g x y wr => ∃ (n m : Nat) (A B : Nat → Bool), Hid (g = bv A n + bv B m) ∧ Tr wr x n A ∧ Tr wr y m B ∧ n ≤ n0 + m0 ∧ 0 < m ∧ m ≤ n0 + m0 ∧ Hid (bv A n % 2 = 1 ∨ bv B m % 2 = 1) ∧ Hid (g2 = Nat.gcd (bv A n) (bv B m)) ∧ w.Since w.heap.size wr)
        case atStart => exact ⟨n, m, A, B, rfl, T0, U0, by omega, m1, by omega, HO, HG2, S0⟩
        case round =>
          clear T0 U0 HO HG2 S0 n1 m1 hcp hcq hn0
          obtain ⟨n', m', A', B', Hg, TA, TB, hn1, m1, hm1, HO, HG2, hs⟩ := hrel
          obtain ⟨p', bp', op', cp', rfl, hcp, hA, tA⟩ := TA
          obtain ⟨q', bq', oq', cq', rfl, hcq, hB, tB⟩ := TB
          obtain ⟨rfl, kb⟩ := hB 0 m1
          rw [Nat.add_zero] at kb
          have HtA := hide tA
          have HtB := hide tB
          clear tA tB
          by_cases hn0 : 0 < n'
          · obtain ⟨rfl, ka⟩ := hA 0 hn0
            rw [Nat.add_zero] at ka
            cases ea : A' 0
            · -- a is even
              have la := even_long hn0 ea (HtA.out hn0)
              have E1 := hide (bv_even hn0 ea)
              have hp := bv_pos (A := sh A' 1) (n := n' - 1) (by omega) (trim_tail la (HtA.out hn0) (by omega))
              have hob : bv B' m' % 2 = 1 := by have := HO.out; have := E1.out; omega
              have HN : Hid (g2 = Nat.gcd (bv (sh A' 1) (n' - 1)) (bv B' m')) := by have h := HG2.out; rw [E1.out, gcd_half_left hob] at h; exact h
              have HO' : Hid (bv (sh A' 1) (n' - 1) % 2 = 1 ∨ bv B' m' % 2 = 1) := Or.inr hob
              have Hlt : Hid (bv (sh A' 1) (n' - 1) + bv B' m' < gk) := by have := Hg.out; have := E1.out; show _ < _; omega
              rw [ea] at ka
              clear ea hob hp E1
              go_wp2
              go_roundg (bv (sh A' 1) (n' - 1) + bv B' m')
              case measure => exact Hlt.out
              case rel => exact ⟨n' - 1, m', sh A' 1, B', rfl, ⟨_, bp', op' + 1, cp' - 1, rfl, by omega, bits_tail hA hn0, trim_tail la (HtA.out hn0)⟩, ⟨_, bq', oq', cq', rfl, hcq, hB, HtB.out⟩, by omega, m1, hm1, HO', HN, hs⟩
            · have hoa := bv_odd hn0 ea
              have hpa := bv_pos hn0 (HtA.out hn0)
              rw [ea] at ka
              clear ea
              cases eb : B' 0
              · -- b is even
                have lb := even_long m1 eb (HtB.out m1)
                have E1 := hide (bv_even m1 eb)
                have hp := bv_pos (A := sh B' 1) (n := m' - 1) (by omega) (trim_tail lb (HtB.out m1) (by omega))
                have HN : Hid (g2 = Nat.gcd (bv A' n') (bv (sh B' 1) (m' - 1))) := by have h := HG2.out; rw [E1.out, gcd_half_right hoa] at h; exact h
                have HO' : Hid (bv A' n' % 2 = 1 ∨ bv (sh B' 1) (m' - 1) % 2 = 1) := Or.inl hoa
                have Hlt : Hid (bv A' n' + bv (sh B' 1) (m' - 1) < gk) := by have := Hg.out; have := E1.out; show _ < _; omega
                rw [eb] at kb
                clear eb hoa hpa hp E1
                go_wp2
                go_roundg (bv A' n' + bv (sh B' 1) (m' - 1))
                case measure => exact Hlt.out
                case rel => exact ⟨n', m' - 1, A', sh B' 1, rfl, ⟨_, bp', op', cp', rfl, hcp, hA, HtA.out⟩, ⟨_, bq', oq' + 1, cq' - 1, rfl, by omega, bits_tail hB m1, trim_tail lb (HtB.out m1)⟩, hn1, by omega, by omega, HO', HN, hs⟩
              · have hob := bv_odd m1 eb
                have hpb := bv_pos m1 (HtB.out m1)
                rw [eb] at kb
                clear eb
                have HP := hide (And.intro hoa (And.intro hob (And.intro hpa hpb)))
                clear hoa hob hpa hpb
                go_wp2_with fail
                refine (l1CmpBits_any _ _ bp' op' n' cp' bq' oq' m' cq' A' B' _ (by omega) (by omega) hA hB HtA.out HtB.out).mono ?_
                rintro e w2 ⟨rfl, s2⟩
                have hA := hA.same s2
                have hB := hB.same s2
                have hs : w.Since w.heap.size w2 := hs.trans (s2.since _)
                clear s2 ka kb
                by_cases hge : bv B' m' ≤ bv A' n'
                · have hc := cmpN_nonneg hge
                  have hlen := bv_len HtB.out hge
                  have HN : Hid (g2 = Nat.gcd (bv A' n' - bv B' m') (bv B' m')) := by have h := HG2.out; rw [← gcd_sub_left hge] at h; exact h
                  have Hge := hide hge
                  clear hge
                  generalize cmpN (bv A' n') (bv B' m') = z at *
                  go_wp2_with fail
                  refine (l1SubBits_any _ _ bp' op' n' cp' bq' oq' m' cq' A' B' _ (by omega) hlen hA hB Hge.out).mono ?_
                  rintro e w3 ⟨g3, t3, c3, D, rfl, k1, k2, hD, k3, k4, k5, s3⟩
                  have HD := hide k4
                  have HV := hide k5
                  have hB := hB.keep s3
                  have hs3 : w.Since w.heap.size w3 := hs.trans (sinceMono s3 hs.size)
                  clear k4 k5 s3 hs hA
                  go_wp2
                  go_roundg (bv D t3 + bv B' m')
                  case measure => have := Hg.out; have := HV.out; have := HP.out; have := Hge.out; omega
                  case rel => exact ⟨t3, m', D, B', rfl, ⟨_, g3, 0, c3, rfl, k1, hD, HD.out⟩, ⟨_, bq', oq', cq', rfl, hcq, hB, HtB.out⟩, by omega, m1, hm1, Or.inr HP.out.2.1, by rw [HV.out]; exact HN, hs3⟩
                · have hlt : bv A' n' < bv B' m' := by omega
                  have hc := cmpN_neg hlt
                  have hlen := bv_len HtA.out (Nat.le_of_lt hlt)
                  have HN : Hid (g2 = Nat.gcd (bv A' n') (bv B' m' - bv A' n')) := by have h := HG2.out; rw [← gcd_sub_right (Nat.le_of_lt hlt)] at h; exact h
                  have Hlt := hide hlt
                  clear hge hlt
                  generalize cmpN (bv A' n') (bv B' m') = z at *
                  go_wp2_with fail
                  refine (l1SubBits_any _ _ bq' oq' m' cq' bp' op' n' cp' B' A' _ (by omega) hlen hB hA (Nat.le_of_lt Hlt.out)).mono ?_
                  rintro e w3 ⟨g3, t3, c3, D, rfl, k1, k2, hD, k3, k4, k5, s3⟩
                  have HD := hide k4
                  have HV := hide k5
                  have hA := hA.keep s3
                  have hs3 : w.Since w.heap.size w3 := hs.trans (sinceMono s3 hs.size)
                  have ht3 : 0 < t3 := by
                    by_cases e : 0 < t3
                    · exact e
                    · have e0 : t3 = 0 := by omega
                      rw [e0] at k5
                      have := Hlt.out
                      simp [bv] at k5
                      omega
                  have hne : ((t3 : Int) == 0) = false := by simp; omega
                  clear k4 k5 s3 hs hB
                  go_wp2
                  go_roundg (bv A' n' + bv D t3)
                  case measure => have := Hg.out; have := HV.out; have := HP.out; have := Hlt.out; omega
                  case rel => exact ⟨n', t3, A', D, rfl, ⟨_, bp', op', cp', rfl, hcp, hA, HtA.out⟩, ⟨_, g3, 0, c3, rfl, k1, hD, HD.out⟩, hn1, ht3, by omega, Or.inl HP.out.1, by rw [HV.out]; exact HN, hs3⟩
          · have e0 : n' = 0 := by omega
            subst e0
            obtain ⟨i0, hi, hz0, hz1, hz2⟩ := info_parts Try.info4
            have hmk := run_make_row' (P := Try.prog) 68 4 (.bool false) 1 Try.underlying68 Try.info4 rfl .i64 .i64 tw (by omega) (by omega)
            have hrow := World.rowIs_made wr (.bool false) tw 4
            have hsz := hs.size
            have hB2 := hB.keep (w' := wr.alloc (.cells (madeCells #[.bool false] tw) 4)) ((World.Since.refl _ _).alloc (Nat.le_refl _) _)
            clear kb
            go_wp2_with (at_builtin; refine wpList_append_own _ rfl _ _ 68 rfl w.heap.size 4 i0 (.bool false) 1 1 Try.underlying68 hi hz0 hz1 hz2 rfl (by decide) _ _ _ rfl (row_own_bits (S := fun _ => false) hrow (Nat.le_refl _) (by unfold maxLen; omega) hsz) ⟨bq', oq', none⟩ m' cq' (bl B' m') rfl (by rw [bl_len]; omega) (bits_news2 hB2) (bl_one B' m') (by unfold maxLen; omega) (by omega) (by simp; omega) ?_)
            intro v' w3 hown hgrow hnn
            rw [← bl_zeros] at hown
            have hs3 : w.Since w.heap.size w3 := (hs.alloc hsz _).grown hgrow (by simp; omega) (fun k hk => by simp [Value.ownBlock] at hk; omega)
            obtain ⟨g3, c3, rfl, k1, k2, k3⟩ := own_bits_some hown hnn
            clear hown hgrow hnn hB2 hrow hmk hi hz0 hz1 hz2
            go_wp2
            go_ret
            refine ⟨_, tw + m', zeros tw B', rfl, by omega, ⟨_, g3, 0, c3, rfl, k1, k3, fun _ => ?_⟩, ?_, hs3⟩
            · unfold zeros
              rw [if_neg (by omega), show tw + m' - 1 - tw = m' - 1 by omega]
              exact HtB.out m1
            · rw [bv_zeros, ← HG.out, ← HGG.out, HG2.out]
              simp [bv]

end Go.Proofs.Ythaomfabdghfjaa
