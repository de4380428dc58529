import Derived.Test.YthaomfabdghfjaaGreatG1P2
import Derived.Test.YthaomfabdghfjaaGreatG1P1
import Derived.Deep.LoopGhost
namespace Go.Proofs.YthaomfabdghfjaaGreat
open Go.RowKit

/-- A trimmed list of bits, read at whatever place: the slice's value. -/
def Tr (w : World) (v : Value) (n : Nat) (A : Nat → Bool) : Prop :=
  ∃ a b off cap, v = .slice a n cap ∧ n ≤ cap ∧ Bits w a b off n A ∧ (0 < n → A (n - 1) = true)

theorem Tr.keep {w w' : World} {v : Value} {n : Nat} {A : Nat → Bool} (h : Tr w v n A) (s : w.Since w.heap.size w') : Tr w' v n A := by
  obtain ⟨a, b, off, cap, h1, h2, h3, h4⟩ := h
  exact ⟨a, b, off, cap, h1, h2, h3.keep s, h4⟩

theorem Tr.same {w w' : World} {v : Value} {n : Nat} {A : Nat → Bool} (h : Tr w v n A) (s : Same w w') : Tr w' v n A := h.keep (s.since _)

theorem bits_tail {w : World} {b off n : Nat} {A : Nat → Bool} (h : Bits w (some ⟨b, off, none⟩) b off n A) (hn : 0 < n) : Bits w (some ⟨b, off + 1, none⟩) b (off + 1) (n - 1) (sh A 1) :=
  fun j hj => ⟨rfl, by have := (h (j + 1) (by omega)).2; rw [show off + 1 + j = off + (j + 1) by omega]; exact this⟩

theorem row_own_bits {w : World} {base g t cap : Nat} {S : Nat → Bool} (hr : w.rowIs g 4 cap (fun j => .bool (S j))) (ht : t ≤ cap) (hc : cap ≤ maxLen) (hb : base ≤ g) : w.ownsRow base 4 1 (.slice (some ⟨g, 0, none⟩) t cap) t (bl S t) := by
  obtain ⟨cur, h1, h2, h3⟩ := hr
  refine ⟨by rw [bl_len]; omega, .inr ⟨g, cap, cur, rfl, hb, h1, ht, hc, by omega, ?_⟩⟩
  apply List.ext_getElem?
  intro i
  rw [Nat.mul_one]
  by_cases hi : i < t
  · rw [bl_get S t i hi, List.getElem?_take, if_pos hi]
    have := h3 i (by omega)
    simpa using this
  · rw [List.getElem?_eq_none (by rw [List.length_take]; omega), List.getElem?_eq_none (by rw [bl_len]; omega)]

theorem bits_news2 {w : World} {g off t : Nat} {R : Nat → Bool} (h : Bits w (some ⟨g, off, none⟩) g off t R) : ∀ j u, (bl R t)[j]? = some u → w.cell? ((⟨g, off, none⟩ : Addr).add j) = some u := by
  intro j u hu
  have hj : j < t := by have := (List.getElem?_eq_some_iff.1 hu).1; rwa [bl_len] at this
  rw [bl_get R t j hj] at hu
  rw [Addr.add_lit, (h j hj).2]; exact hu

theorem bl_zeros (k : Nat) (B : Nat → Bool) (m : Nat) : bl (zeros k B) (k + m) = bl (fun _ => false) k ++ bl B m := by
  apply List.ext_getElem?
  intro i
  by_cases h1 : i < k
  · rw [bl_get _ _ _ (by omega), List.getElem?_append_left (by rw [bl_len]; exact h1), bl_get _ _ _ h1]
    simp [zeros, h1]
  · rw [List.getElem?_append_right (by rw [bl_len]; omega), bl_len]
    by_cases h2 : i < k + m
    · rw [bl_get _ _ _ h2, bl_get _ _ _ (by omega)]
      simp [zeros, h1]
    · rw [List.getElem?_eq_none (by rw [bl_len]; omega), List.getElem?_eq_none (by rw [bl_len]; omega)]

theorem trim_tail {A : Nat → Bool} {n : Nat} (hn : 2 ≤ n) (h : A (n - 1) = true) : 0 < n - 1 → sh A 1 (n - 1 - 1) = true := fun _ => by unfold sh; rw [show n - 1 - 1 + 1 = n - 1 by omega]; exact h

theorem even_long {A : Nat → Bool} {n : Nat} (h0 : 0 < n) (h1 : A 0 = false) (ht : A (n - 1) = true) : 2 ≤ n := by
  by_cases e : n = 1
  · subst e; simp at ht; rw [h1] at ht; cases ht
  · omega

theorem bv_pos {A : Nat → Bool} {n : Nat} (h0 : 0 < n) (ht : A (n - 1) = true) : 0 < bv A n := by
  have := bv_ge A n h0 ht
  have := Nat.pow_pos (n := n - 1) (show 0 < 2 by omega)
  omega

set_option maxHeartbeats 6400000 in
set_option maxRecDepth 100000 in
theorem l1GcdBits_any (v0 v1 : Value) (n0 m0 : Nat) (A0 B0 : Nat → Bool) (w : World) (hn : n0 ≤ 1073741824) (hm : m0 ≤ 1073741824) (hA : Tr w v0 n0 A0) (hB : Tr w v1 m0 B0) :
    Calls Tryz.prog 105 #[v0, v1] w fun e w' => ∃ v t O, e = .returned v ∧ t ≤ n0 + m0 + m0 ∧ Tr w' v t O ∧ bv O t = Nat.gcd (bv A0 n0) (bv B0 m0) ∧ w.Since w.heap.size w' := by
  obtain ⟨a, ba, oa, ca, rfl, hca, hA1, tA⟩ := hA
  obtain ⟨b, bb, ob, cb, rfl, hcb, hB1, tB⟩ := hB
  by_cases z0 : n0 = 0
  · subst z0
    go_enter Tryz.func105, Tryz.ntmps105
    go_wp2
    go_ret
    exact ⟨_, m0, B0, rfl, by omega, ⟨b, bb, ob, cb, rfl, hcb, hB1, tB⟩, by simp [bv], World.Since.refl _ _⟩
  by_cases z1 : m0 = 0
  · subst z1
    have q0 : ((n0 : Int) == 0) = false := by simp; omega
    go_enter Tryz.func105, Tryz.ntmps105
    go_wp2
    go_ret
    exact ⟨_, n0, A0, rfl, by omega, ⟨a, ba, oa, ca, rfl, hca, hA1, tA⟩, by simp [bv], World.Since.refl _ _⟩
  obtain ⟨G, hG⟩ : ∃ G, G = Nat.gcd (bv A0 n0) (bv B0 m0) := ⟨_, rfl⟩
  have HG := hide hG
  have q0 : ((n0 : Int) == 0) = false := by simp; omega
  have q1 : ((m0 : Int) == 0) = false := by simp; omega
  have HtA := hide tA
  have HtB := hide tB
  clear hG tA tB
  go_enter Tryz.func105, Tryz.ntmps105
  go_wp2
  clear q0 q1
  go_loopg [0, 1, 5] n0 (fun n x y z wr => ∃ (m tw : Nat) (A B : Nat → Bool) (p q : Option Addr) (bp op bq oq cp cq : Nat), w = wr ∧ x = .slice p n cp ∧ y = .slice q m cq ∧ z = .int .i64 tw ∧ 0 < n ∧ 0 < m ∧ n ≤ cp ∧ m ≤ cq ∧ n ≤ n0 ∧ m + tw ≤ m0 ∧
    Bits w p bp op n A ∧ Bits w q bq oq m B ∧ Hid (A (n - 1) = true) ∧ Hid (B (m - 1) = true) ∧ Hid (2 ^ tw * Nat.gcd (bv A n) (bv B m) = G))
  case atStart => exact ⟨m0, 0, A0, B0, a, b, ba, oa, bb, ob, ca, cb, rfl, rfl, rfl, rfl, by omega, by omega, hca, hcb, Nat.le_refl _, by omega, hA1, hB1, HtA.out (by omega), HtB.out (by omega), by rw [HG.out]; simp [Hid]⟩
  case round =>
    obtain ⟨m, tw, A, B, p, q, bp, op, bq, oq, cp, cq, rfl, rfl, rfl, rfl, n1, m1, hcp, hcq, hn0, hm0, hA, hB, TA, TB, HGr⟩ := hrel
    obtain ⟨n, hgn⟩ : ∃ n, n = gk := ⟨_, rfl⟩
    subst hgn
    obtain ⟨rfl, ka⟩ := hA 0 n1
    obtain ⟨rfl, kb⟩ := hB 0 m1
    rw [Nat.add_zero] at ka kb
    clear hA1 hB1 HtA HtB
    by_cases hev : A 0 = false ∧ B 0 = false
    · obtain ⟨ea, eb⟩ := hev
      have la := even_long n1 ea TA.out
      have lb := even_long m1 eb TB.out
      have E1 := hide (bv_even n1 ea)
      have E2 := hide (bv_even m1 eb)
      rw [ea] at ka
      rw [eb] at kb
      clear ea eb
      go_wp2
      go_roundg (n - 1)
      case measure => omega
      case rel =>
        go_light
        refine ⟨m - 1, tw + 1, sh A 1, sh B 1, _, _, bp, op + 1, bq, oq + 1, cp - 1, cq - 1, rfl, rfl, rfl, by go_num, by omega, by omega, by omega, by omega, by omega, by omega, bits_tail hA n1, bits_tail hB m1, trim_tail la TA.out (by omega), trim_tail lb TB.out (by omega), ?_⟩
        have h := HGr.out
        rw [E1.out, E2.out, gcd_twice, ← Nat.mul_assoc, ← Nat.pow_succ] at h
        exact h
    · have HO : Hid (bv A n % 2 = 1 ∨ bv B m % 2 = 1) := by
        cases ea : A 0
        · cases eb : B 0
          · exact absurd ⟨ea, eb⟩ hev
          · exact Or.inr (bv_odd m1 eb)
        · exact Or.inl (bv_odd n1 ea)
      have key : (A 0 = true) ∨ (A 0 = false ∧ B 0 = true) := by
        cases ea : A 0
        · cases eb : B 0
          · exact absurd ⟨ea, eb⟩ hev
          · exact Or.inr ⟨rfl, rfl⟩
        · exact Or.inl rfl
      clear hev
      have S0 := World.Since.refl w.heap.size w
      have T0 : Tr w (.slice (some ⟨bp, op, none⟩) n cp) n A := ⟨_, bp, op, cp, rfl, hcp, hA, fun _ => TA.out⟩
      have U0 : Tr w (.slice (some ⟨bq, oq, none⟩) m cq) m B := ⟨_, bq, oq, cq, rfl, hcq, hB, fun _ => TB.out⟩
      rcases key with ea | ⟨ea, eb⟩
      · rw [ea] at ka
        clear ea hA hB TA TB
        go_wp2
        obtain ⟨g2, hg2⟩ : ∃ g, g = Nat.gcd (bv A n) (bv B m) := ⟨_, rfl⟩
        have HG2 := hide hg2
        have HGG := HGr.out
        rw [← hg2] at HGG
        have HGG := hide HGG
        clear hg2 HGr ka kb
        go_loopg [0, 1] (bv A n + bv B m) (fun g x y wr => ∃ (n m : Nat) (A B : Nat → Bool), Hid (g = bv A n + bv B m) ∧ Tr wr x n A ∧ Tr wr y m B ∧ n ≤ n0 + m0 ∧ 0 < m ∧ m ≤ n0 + m0 ∧ Hid (bv A n % 2 = 1 ∨ bv B m % 2 = 1) ∧ Hid (g2 = Nat.gcd (bv A n) (bv B m)) ∧ w.Since w.heap.size wr)
        case atStart => exact ⟨n, m, A, B, rfl, T0, U0, by omega, m1, by omega, HO, HG2, S0⟩
        case round =>
          clear T0 U0 HO HG2 S0 n1 m1 hcp hcq hn0
          obtain ⟨n', m', A', B', Hg, TA, TB, hn1, m1, hm1, HO, HG2, hs⟩ := hrel
          obtain ⟨p', bp', op', cp', rfl, hcp, hA, tA⟩ := TA
          obtain ⟨q', bq', oq', cq', rfl, hcq, hB, tB⟩ := TB
          obtain ⟨rfl, kb⟩ := hB 0 m1
          rw [Nat.add_zero] at kb
          have HtA := hide tA
          have HtB := hide tB
          clear tA tB
          by_cases hn0 : 0 < n'
          · obtain ⟨rfl, ka⟩ := hA 0 hn0
            rw [Nat.add_zero] at ka
            cases ea : A' 0
            · -- a is even
              have la := even_long hn0 ea (HtA.out hn0)
              have E1 := hide (bv_even hn0 ea)
              have hp := bv_pos (A := sh A' 1) (n := n' - 1) (by omega) (trim_tail la (HtA.out hn0) (by omega))
              have hob : bv B' m' % 2 = 1 := by have := HO.out; have := E1.out; omega
              have HN : Hid (g2 = Nat.gcd (bv (sh A' 1) (n' - 1)) (bv B' m')) := by have h := HG2.out; rw [E1.out, gcd_half_left hob] at h; exact h
              have HO' : Hid (bv (sh A' 1) (n' - 1) % 2 = 1 ∨ bv B' m' % 2 = 1) := Or.inr hob
              have Hlt : Hid (bv (sh A' 1) (n' - 1) + bv B' m' < gk) := by have := Hg.out; have := E1.out; show _ < _; omega
              rw [ea] at ka
              clear ea hob hp E1
              go_wp2
              go_roundg (bv (sh A' 1) (n' - 1) + bv B' m')
              case measure => exact Hlt.out
              case rel => exact ⟨n' - 1, m', sh A' 1, B', rfl, ⟨_, bp', op' + 1, cp' - 1, rfl, by omega, bits_tail hA hn0, trim_tail la (HtA.out hn0)⟩, ⟨_, bq', oq', cq', rfl, hcq, hB, HtB.out⟩, by omega, m1, hm1, HO', HN, hs⟩
            · have hoa := bv_odd hn0 ea
              have hpa := bv_pos hn0 (HtA.out hn0)
              rw [ea] at ka
              clear ea
              cases eb : B' 0
              · -- b is even
                have lb := even_long m1 eb (HtB.out m1)
                have E1 := hide (bv_even m1 eb)
                have hp := bv_pos (A := sh B' 1) (n := m' - 1) (by omega) (trim_tail lb (HtB.out m1) (by omega))
                have HN : Hid (g2 = Nat.gcd (bv A' n') (bv (sh B' 1) (m' - 1))) := by have h := HG2.out; rw [E1.out, gcd_half_right hoa] at h; exact h
                have HO' : Hid (bv A' n' % 2 = 1 ∨ bv (sh B' 1) (m' - 1) % 2 = 1) := Or.inl hoa
                have Hlt : Hid (bv A' n' + bv (sh B' 1) (m' - 1) < gk) := by have := Hg.out; have := E1.out; show _ < _; omega
                rw [eb] at kb
                clear eb hoa hpa hp E1
                go_wp2
                go_roundg (bv A' n' + bv (sh B' 1) (m' - 1))
                case measure => exact Hlt.out
                case rel => exact ⟨n', m' - 1, A', sh B' 1, rfl, ⟨_, bp', op', cp', rfl, hcp, hA, HtA.out⟩, ⟨_, bq', oq' + 1, cq' - 1, rfl, by omega, bits_tail hB m1, trim_tail lb (HtB.out m1)⟩, hn1, by omega, by omega, HO', HN, hs⟩
              · have hob := bv_odd m1 eb
                have hpb := bv_pos m1 (HtB.out m1)
                rw [eb] at kb
                clear eb
                have HP := hide (And.intro hoa (And.intro hob (And.intro hpa hpb)))
                clear hoa hob hpa hpb
                go_wp2_with fail
                refine (l1CmpBits_any _ _ bp' op' n' cp' bq' oq' m' cq' A' B' _ (by omega) (by omega) hA hB HtA.out HtB.out).mono ?_
                rintro e w2 ⟨rfl, s2⟩
                have hA := hA.same s2
                have hB := hB.same s2
                have hs : w.Since w.heap.size w2 := hs.trans (s2.since _)
                clear s2 ka kb
                by_cases hge : bv B' m' ≤ bv A' n'
                · have hc := cmpN_nonneg hge
                  have hlen := bv_len HtB.out hge
                  have HN : Hid (g2 = Nat.gcd (bv A' n' - bv B' m') (bv B' m')) := by have h := HG2.out; rw [← gcd_sub_left hge] at h; exact h
                  have Hge := hide hge
                  clear hge
                  generalize cmpN (bv A' n') (bv B' m') = z at *
                  go_wp2_with fail
                  refine (l1SubBits_any _ _ bp' op' n' cp' bq' oq' m' cq' A' B' _ (by omega) hlen hA hB Hge.out).mono ?_
                  rintro e w3 ⟨g3, t3, c3, D, rfl, k1, k2, hD, k3, k4, k5, s3⟩
                  have HD := hide k4
                  have HV := hide k5
                  have hB := hB.keep s3
                  have hs3 : w.Since w.heap.size w3 := hs.trans (sinceMono s3 hs.size)
                  clear k4 k5 s3 hs hA
                  go_wp2
                  go_roundg (bv D t3 + bv B' m')
                  case measure => have := Hg.out; have := HV.out; have := HP.out; have := Hge.out; omega
                  case rel => exact ⟨t3, m', D, B', rfl, ⟨_, g3, 0, c3, rfl, k1, hD, HD.out⟩, ⟨_, bq', oq', cq', rfl, hcq, hB, HtB.out⟩, by omega, m1, hm1, Or.inr HP.out.2.1, by rw [HV.out]; exact HN, hs3⟩
                · have hlt : bv A' n' < bv B' m' := by omega
                  have hc := cmpN_neg hlt
                  have hlen := bv_len HtA.out (Nat.le_of_lt hlt)
                  have HN : Hid (g2 = Nat.gcd (bv A' n') (bv B' m' - bv A' n')) := by have h := HG2.out; rw [← gcd_sub_right (Nat.le_of_lt hlt)] at h; exact h
                  have Hlt := hide hlt
                  clear hge hlt
                  generalize cmpN (bv A' n') (bv B' m') = z at *
                  go_wp2_with fail
                  refine (l1SubBits_any _ _ bq' oq' m' cq' bp' op' n' cp' B' A' _ (by omega) hlen hB hA (Nat.le_of_lt Hlt.out)).mono ?_
                  rintro e w3 ⟨g3, t3, c3, D, rfl, k1, k2, hD, k3, k4, k5, s3⟩
                  have HD := hide k4
                  have HV := hide k5
                  have hA := hA.keep s3
                  have hs3 : w.Since w.heap.size w3 := hs.trans (sinceMono s3 hs.size)
                  have ht3 : 0 < t3 := by
                    by_cases e : 0 < t3
                    · exact e
                    · have e0 : t3 = 0 := by omega
                      rw [e0] at k5
                      have := Hlt.out
                      simp [bv] at k5
                      omega
                  have hne : ((t3 : Int) == 0) = false := by simp; omega
                  clear k4 k5 s3 hs hB
                  go_wp2
                  go_roundg (bv A' n' + bv D t3)
                  case measure => have := Hg.out; have := HV.out; have := HP.out; have := Hlt.out; omega
                  case rel => exact ⟨n', t3, A', D, rfl, ⟨_, bp', op', cp', rfl, hcp, hA, HtA.out⟩, ⟨_, g3, 0, c3, rfl, k1, hD, HD.out⟩, hn1, ht3, by omega, Or.inl HP.out.1, by rw [HV.out]; exact HN, hs3⟩
          · have e0 : n' = 0 := by omega
            subst e0
            obtain ⟨i0, hi, hz0, hz1, hz2⟩ := info_parts Tryz.info4
            have hmk := run_make_row' (P := Tryz.prog) 156 4 (.bool false) 1 Tryz.underlying156 Tryz.info4 rfl .i64 .i64 tw (by omega) (by omega)
            have hrow := World.rowIs_made wr (.bool false) tw 4
            have hsz := hs.size
            have hB2 := hB.keep (w' := wr.alloc (.cells (madeCells #[.bool false] tw) 4)) ((World.Since.refl _ _).alloc (Nat.le_refl _) _)
            clear kb
            go_wp2_with (at_builtin; refine wpList_append_own _ rfl _ _ 156 rfl w.heap.size 4 i0 (.bool false) 1 1 Tryz.underlying156 hi hz0 hz1 hz2 rfl (by decide) _ _ _ rfl (row_own_bits (S := fun _ => false) hrow (Nat.le_refl _) (by unfold maxLen; omega) hsz) ⟨bq', oq', none⟩ m' cq' (bl B' m') rfl (by rw [bl_len]; omega) (bits_news2 hB2) (bl_one B' m') (by unfold maxLen; omega) (by omega) (by simp; omega) ?_)
            intro v' w3 hown hgrow hnn
            rw [← bl_zeros] at hown
            have hs3 : w.Since w.heap.size w3 := (hs.alloc hsz _).grown hgrow (by simp; omega) (fun k hk => by simp [Value.ownBlock] at hk; omega)
            obtain ⟨g3, c3, rfl, k1, k2, k3⟩ := own_bits_some hown hnn
            clear hown hgrow hnn hB2 hrow hmk hi hz0 hz1 hz2
            go_wp2
            go_ret
            refine ⟨_, tw + m', zeros tw B', rfl, by omega, ⟨_, g3, 0, c3, rfl, k1, k3, fun _ => ?_⟩, ?_, hs3⟩
            · unfold zeros
              rw [if_neg (by omega), show tw + m' - 1 - tw = m' - 1 by omega]
              exact HtB.out m1
            · rw [bv_zeros, ← HG.out, ← HGG.out, HG2.out]
              simp [bv]
      · rw [ea] at ka
        rw [eb] at kb
        clear ea eb hA hB TA TB
        go_wp2
        obtain ⟨g2, hg2⟩ : ∃ g, g = Nat.gcd (bv A n) (bv B m) := ⟨_, rfl⟩
        have HG2 := hide hg2
        have HGG := HGr.out
        rw [← hg2] at HGG
        have HGG := hide HGG
        clear hg2 HGr ka kb
        go_loopg [0, 1] (bv A n + bv B m) (fun g x y wr => ∃ (n m : Nat) (A B : Nat → Bool), Hid (g = bv A n + bv B m) ∧ Tr wr x n A ∧ Tr wr y m B ∧ n ≤ n0 + m0 ∧ 0 < m ∧ m ≤ n0 + m0 ∧ Hid (bv A n % 2 = 1 ∨ bv B m % 2 = 1) ∧ Hid (g2 = Nat.gcd (bv A n) (bv B m)) ∧ w.Since w.heap.size wr)
        case atStart => exact ⟨n, m, A, B, rfl, T0, U0, by omega, m1, by omega, HO, HG2, S0⟩
        case round =>
          clear T0 U0 HO HG2 S0 n1 m1 hcp hcq hn0
          obtain ⟨n', m', A', B', Hg, TA, TB, hn1, m1, hm1, HO, HG2, hs⟩ := hrel
          obtain ⟨p', bp', op', cp', rfl, hcp, hA, tA⟩ := TA
          obtain ⟨q', bq', oq', cq', rfl, hcq, hB, tB⟩ := TB
          obtain ⟨rfl, kb⟩ := hB 0 m1
          rw [Nat.add_zero] at kb
          have HtA := hide tA
          have HtB := hide tB
          clear tA tB
          by_cases hn0 : 0 < n'
          · obtain ⟨rfl, ka⟩ := hA 0 hn0
            rw [Nat.add_zero] at ka
            cases ea : A' 0
            · -- a is even
              have la := even_long hn0 ea (HtA.out hn0)
              have E1 := hide (bv_even hn0 ea)
              have hp := bv_pos (A := sh A' 1) (n := n' - 1) (by omega) (trim_tail la (HtA.out hn0) (by omega))
              have hob : bv B' m' % 2 = 1 := by have := HO.out; have := E1.out; omega
              have HN : Hid (g2 = Nat.gcd (bv (sh A' 1) (n' - 1)) (bv B' m')) := by have h := HG2.out; rw [E1.out, gcd_half_left hob] at h; exact h
              have HO' : Hid (bv (sh A' 1) (n' - 1) % 2 = 1 ∨ bv B' m' % 2 = 1) := Or.inr hob
              have Hlt : Hid (bv (sh A' 1) (n' - 1) + bv B' m' < gk) := by have := Hg.out; have := E1.out; show _ < _; omega
              rw [ea] at ka
              clear ea hob hp E1
              go_wp2
              go_roundg (bv (sh A' 1) (n' - 1) + bv B' m')
              case measure => exact Hlt.out
              case rel => exact ⟨n' - 1, m', sh A' 1, B', rfl, ⟨_, bp', op' + 1, cp' - 1, rfl, by omega, bits_tail hA hn0, trim_tail la (HtA.out hn0)⟩, ⟨_, bq', oq', cq', rfl, hcq, hB, HtB.out⟩, by omega, m1, hm1, HO', HN, hs⟩
            · have hoa := bv_odd hn0 ea
              have hpa := bv_pos hn0 (HtA.out hn0)
              rw [ea] at ka
              clear ea
              cases eb : B' 0
              · -- b is even
                have lb := even_long m1 eb (HtB.out m1)
                have E1 := hide (bv_even m1 eb)
                have hp := bv_pos (A := sh B' 1) (n := m' - 1) (by omega) (trim_tail lb (HtB.out m1) (by omega))
                have HN : Hid (g2 = Nat.gcd (bv A' n') (bv (sh B' 1) (m' - 1))) := by have h := HG2.out; rw [E1.out, gcd_half_right hoa] at h; exact h
                have HO' : Hid (bv A' n' % 2 = 1 ∨ bv (sh B' 1) (m' - 1) % 2 = 1) := Or.inl hoa
                have Hlt : Hid (bv A' n' + bv (sh B' 1) (m' - 1) < gk) := by have := Hg.out; have := E1.out; show _ < _; omega
                rw [eb] at kb
                clear eb hoa hpa hp E1
                go_wp2
                go_roundg (bv A' n' + bv (sh B' 1) (m' - 1))
                case measure => exact Hlt.out
                case rel => exact ⟨n', m' - 1, A', sh B' 1, rfl, ⟨_, bp', op', cp', rfl, hcp, hA, HtA.out⟩, ⟨_, bq', oq' + 1, cq' - 1, rfl, by omega, bits_tail hB m1, trim_tail lb (HtB.out m1)⟩, hn1, by omega, by omega, HO', HN, hs⟩
              · have hob := bv_odd m1 eb
                have hpb := bv_pos m1 (HtB.out m1)
                rw [eb] at kb
                clear eb
                have HP := hide (And.intro hoa (And.intro hob (And.intro hpa hpb)))
                clear hoa hob hpa hpb
                go_wp2_with fail
                refine (l1CmpBits_any _ _ bp' op' n' cp' bq' oq' m' cq' A' B' _ (by omega) (by omega) hA hB HtA.out HtB.out).mono ?_
                rintro e w2 ⟨rfl, s2⟩
                have hA := hA.same s2
                have hB := hB.same s2
                have hs : w.Since w.heap.size w2 := hs.trans (s2.since _)
                clear s2 ka kb
                by_cases hge : bv B' m' ≤ bv A' n'
                · have hc := cmpN_nonneg hge
                  have hlen := bv_len HtB.out hge
                  have HN : Hid (g2 = Nat.gcd (bv A' n' - bv B' m') (bv B' m')) := by have h := HG2.out; rw [← gcd_sub_left hge] at h; exact h
                  have Hge := hide hge
                  clear hge
                  generalize cmpN (bv A' n') (bv B' m') = z at *
                  go_wp2_with fail
                  refine (l1SubBits_any _ _ bp' op' n' cp' bq' oq' m' cq' A' B' _ (by omega) hlen hA hB Hge.out).mono ?_
                  rintro e w3 ⟨g3, t3, c3, D, rfl, k1, k2, hD, k3, k4, k5, s3⟩
                  have HD := hide k4
                  have HV := hide k5
                  have hB := hB.keep s3
                  have hs3 : w.Since w.heap.size w3 := hs.trans (sinceMono s3 hs.size)
                  clear k4 k5 s3 hs hA
                  go_wp2
                  go_roundg (bv D t3 + bv B' m')
                  case measure => have := Hg.out; have := HV.out; have := HP.out; have := Hge.out; omega
                  case rel => exact ⟨t3, m', D, B', rfl, ⟨_, g3, 0, c3, rfl, k1, hD, HD.out⟩, ⟨_, bq', oq', cq', rfl, hcq, hB, HtB.out⟩, by omega, m1, hm1, Or.inr HP.out.2.1, by rw [HV.out]; exact HN, hs3⟩
                · have hlt : bv A' n' < bv B' m' := by omega
                  have hc := cmpN_neg hlt
                  have hlen := bv_len HtA.out (Nat.le_of_lt hlt)
                  have HN : Hid (g2 = Nat.gcd (bv A' n') (bv B' m' - bv A' n')) := by have h := HG2.out; rw [← gcd_sub_right (Nat.le_of_lt hlt)] at h; exact h
                  have Hlt := hide hlt
                  clear hge hlt
                  generalize cmpN (bv A' n') (bv B' m') = z at *
                  go_wp2_with fail
                  refine (l1SubBits_any _ _ bq' oq' m' cq' bp' op' n' cp' B' A' _ (by omega) hlen hB hA (Nat.le_of_lt Hlt.out)).mono ?_
                  rintro e w3 ⟨g3, t3, c3, D, rfl, k1, k2, hD, k3, k4, k5, s3⟩
                  have HD := hide k4
                  have HV := hide k5
                  have hA := hA.keep s3
                  have hs3 : w.Since w.heap.size w3 := hs.trans (sinceMono s3 hs.size)
                  have ht3 : 0 < t3 := by
                    by_cases e : 0 < t3
                    · exact e
                    · have e0 : t3 = 0 := by omega
                      rw [e0] at k5
                      have := Hlt.out
                      simp [bv] at k5
                      omega
                  have hne : ((t3 : Int) == 0) = false := by simp; omega
                  clear k4 k5 s3 hs hB
                  go_wp2
                  go_roundg (bv A' n' + bv D t3)
                  case measure => have := Hg.out; have := HV.out; have := HP.out; have := Hlt.out; omega
                  case rel => exact ⟨n', t3, A', D, rfl, ⟨_, bp', op', cp', rfl, hcp, hA, HtA.out⟩, ⟨_, g3, 0, c3, rfl, k1, hD, HD.out⟩, hn1, ht3, by omega, Or.inl HP.out.1, by rw [HV.out]; exact HN, hs3⟩
          · have e0 : n' = 0 := by omega
            subst e0
            obtain ⟨i0, hi, hz0, hz1, hz2⟩ := info_parts Tryz.info4
            have hmk := run_make_row' (P := Tryz.prog) 156 4 (.bool false) 1 Tryz.underlying156 Tryz.info4 rfl .i64 .i64 tw (by omega) (by omega)
            have hrow := World.rowIs_made wr (.bool false) tw 4
            have hsz := hs.size
            have hB2 := hB.keep (w' := wr.alloc (.cells (madeCells #[.bool false] tw) 4)) ((World.Since.refl _ _).alloc (Nat.le_refl _) _)
            clear kb
            go_wp2_with (at_builtin; refine wpList_append_own _ rfl _ _ 156 rfl w.heap.size 4 i0 (.bool false) 1 1 Tryz.underlying156 hi hz0 hz1 hz2 rfl (by decide) _ _ _ rfl (row_own_bits (S := fun _ => false) hrow (Nat.le_refl _) (by unfold maxLen; omega) hsz) ⟨bq', oq', none⟩ m' cq' (bl B' m') rfl (by rw [bl_len]; omega) (bits_news2 hB2) (bl_one B' m') (by unfold maxLen; omega) (by omega) (by simp; omega) ?_)
            intro v' w3 hown hgrow hnn
            rw [← bl_zeros] at hown
            have hs3 : w.Since w.heap.size w3 := (hs.alloc hsz _).grown hgrow (by simp; omega) (fun k hk => by simp [Value.ownBlock] at hk; omega)
            obtain ⟨g3, c3, rfl, k1, k2, k3⟩ := own_bits_some hown hnn
            clear hown hgrow hnn hB2 hrow hmk hi hz0 hz1 hz2
            go_wp2
            go_ret
            refine ⟨_, tw + m', zeros tw B', rfl, by omega, ⟨_, g3, 0, c3, rfl, k1, k3, fun _ => ?_⟩, ?_, hs3⟩
            · unfold zeros
              rw [if_neg (by omega), show tw + m' - 1 - tw = m' - 1 by omega]
              exact HtB.out m1
            · rw [bv_zeros, ← HG.out, ← HGG.out, HG2.out]
              simp [bv]

end Go.Proofs.YthaomfabdghfjaaGreat

namespace Go.Proofs.YthaomfabdghfjaaGreat
open Go.RowKit

theorem add_close {w wr : World} {O0 O A : Nat → Bool} {n L j i : Nat} {x y cb : Bool} (s c' : Bool) (hs : w.Since w.heap.size wr) (hr : wr.rowIs w.heap.size 4 L (fun k => .bool (O k))) (HR : AddRel O0 O A n j i cb)
    (hx : O (j + i) = x) (hy : ext A n i = y) (es : s = ((x != y) != cb)) (ec : c' = ((x && y) || (x && cb) || (y && cb))) :
    ∃ O', w.Since w.heap.size (wr.setCell ⟨w.heap.size, j + i, none⟩ (.bool s)) ∧ (wr.setCell ⟨w.heap.size, j + i, none⟩ (.bool s)).rowIs w.heap.size 4 L (fun k => .bool (O' k)) ∧ AddRel O0 O' A n j (i + 1) c' := by
  subst es ec
  refine ⟨_, hs.setCell (Nat.le_refl _) _, (hr.set (j + i) _).congr (fun k _ => ?_), addRel_step HR hx hy⟩
  by_cases e : k = j + i
  · simp [e]
  · simp [e]

set_option maxHeartbeats 3200000 in
set_option maxRecDepth 100000 in
theorem l1MulBits_any (a a' : Option Addr) (b off n cap b' off' m cap' : Nat) (A B : Nat → Bool) (w : World) (hn : n ≤ 2147483648) (hm : m ≤ 2147483648) (hA : Bits w a b off n A) (hB : Bits w a' b' off' m B) :
    Calls Tryz.prog 133 #[.slice a n cap, .slice a' m cap'] w fun e w' => ∃ g t cap'' O, e = .returned (.slice (some ⟨g, 0, none⟩) t cap'') ∧ t ≤ cap'' ∧ t ≤ n + m ∧ Bits w' (some ⟨g, 0, none⟩) g 0 t O ∧ w.heap.size ≤ g ∧
      (0 < t → O (t - 1) = true) ∧ bv O t = bv A n * bv B m ∧ w.Since w.heap.size w' := by
  have hmk := run_make_row' (P := Tryz.prog) 156 4 (.bool false) 1 Tryz.underlying156 Tryz.info4 rfl .i64 .i64 (n + m) (by omega) (by omega)
  rw [Int.natCast_add] at hmk
  go_enter Tryz.func133, Tryz.ntmps133
  go_wp2
  clear hmk
  go_loopw [6] (fun q wr => ∃ j : Nat, j ≤ m ∧ q = .int .i64 j ∧ w.Since w.heap.size wr ∧ ∃ O, wr.rowIs w.heap.size 4 (n + m) (fun k => .bool (O k)) ∧ bv O (n + m) = bv A n * bv B j) (fun q _ => m - (intOf q).toNat)
  case atStart =>
    exact ⟨0, Nat.zero_le _, rfl, (World.Since.refl _ _).alloc (Nat.le_refl _) _, fun _ => false, World.rowIs_made w _ _ _, by rw [bv_more (fun _ => false) 0 (n + m) (by omega) (fun _ _ _ => rfl)]; simp [bv]⟩
  case round =>
    obtain ⟨j, hj, rfl, hs, O0, hr0, h0⟩ := hrel
    have H0 : Hid (bv O0 (n + m) = bv A n * bv B j) := h0
    clear h0
    by_cases hlt : j < m
    · obtain ⟨rfl, hc⟩ := hB j hlt
      have g0 : wr.cell? ⟨b', off' + j, none⟩ = some (.bool (B j)) := by rw [hs.cell (a := ⟨b', off' + j, none⟩) (hB.lt (by omega))]; exact hc
      clear hc
      cases hbj : B j
      · rw [hbj] at g0
        have HB : Hid (B j = false) := hbj
        clear hbj
        go_wp2
        go_roundw
        case rel => exact ⟨j + 1, by omega, by go_num, hs, O0, hr0, mul_skip H0.out HB.out⟩
        case measure => simp [intOf]; omega
      · rw [hbj] at g0
        have HB : Hid (B j = true) := hbj
        clear hbj
        go_wp2
        clear g0
        go_loopw [7, 8] (fun c t wr' => ∃ (i : Nat) (cb : Bool) (O : Nat → Bool), j + i ≤ n + m ∧ t = .int .i64 i ∧ c = .bool cb ∧ w.Since w.heap.size wr' ∧ wr'.rowIs w.heap.size 4 (n + m) (fun k => .bool (O k)) ∧ AddRel O0 O A n j i cb) (fun _ t _ => n + m - (intOf t).toNat)
        case atStart => exact ⟨0, false, O0, by omega, rfl, rfl, hs, hr0, addRel_start O0 A n j⟩
        case round =>
          clear hr0 hs
          obtain ⟨i, cb, O, hi, rfl, rfl, hs, hr, hR⟩ := hrel
          have HR : Hid (AddRel O0 O A n j i cb) := hR
          clear hR
          by_cases hlt2 : j + i < n + m
          · have g1 := hr.cell hlt2
            have g2 := hr.frozen (j + i)
            obtain ⟨x, hx⟩ : ∃ x, x = O (j + i) := ⟨_, rfl⟩
            rw [← hx] at g1
            have HX : Hid (O (j + i) = x) := hx.symm
            clear hx
            by_cases hin : i < n
            · obtain ⟨rfl, hc⟩ := hA i hin
              have g3 : wr.cell? ⟨b, off + i, none⟩ = some (.bool (A i)) := by rw [hs.cell (a := ⟨b, off + i, none⟩) (hA.lt (by omega))]; exact hc
              obtain ⟨y, hy⟩ : ∃ y, y = A i := ⟨_, rfl⟩
              rw [← hy] at g3
              have HY : Hid (ext A n i = y) := by simp [Hid, ext, hin, hy]
              clear hy hc
              cases x <;> cases y <;> cases cb
              all_goals
                go_wp2
                go_roundw
                case rel =>
                  go_light
                  obtain ⟨O', k1, k2, k3⟩ := add_close _ _ hs hr HR.out HX.out HY.out rfl rfl
                  exact ⟨i + 1, _, O', by omega, by go_num, rfl, k1, k2, k3⟩
                case measure => go_light; simp [intOf]; omega
            · have HY : Hid (ext A n i = false) := by simp [Hid, ext, hin]
              cases x <;> cases cb
              all_goals
                go_wp2
                go_roundw
                case rel =>
                  go_light
                  obtain ⟨O', k1, k2, k3⟩ := add_close _ _ hs hr HR.out HX.out HY.out rfl rfl
                  exact ⟨i + 1, _, O', by omega, by go_num, rfl, k1, k2, k3⟩
                case measure => go_light; simp [intOf]; omega
          · have e : j + i = n + m := by omega
            go_wp2
            go_roundw
            case rel => exact ⟨j + 1, by omega, by go_num, hs, O, hr, addRel_end HR.out e hlt H0.out HB.out⟩
            case measure => simp [intOf]; omega
    · have e : j = m := by omega
      subst e
      go_wp2_with fail
      refine (l1Trim_any _ w.heap.size 0 (n + j) _ O0 _ (by omega) (Nat.le_refl _) (bits_row hr0)).mono ?_
      rintro e w1 ⟨rfl, rfl⟩
      go_wp2
      go_ret
      have htl := tlen_le O0 (n + j)
      exact ⟨w.heap.size, _, _, O0, rfl, htl, htl, (bits_row hr0).take htl, Nat.le_refl _, fun h => tlen_top _ _ h, (bv_tlen _ _).trans H0.out, hs⟩

end Go.Proofs.YthaomfabdghfjaaGreat

namespace Go.Proofs.YthaomfabdghfjaaGreat
open Go.RowKit

/-- What a function that hands back a new natural leaves: a plain list of limbs of the value N, on memory that is new since w. -/
def NatOut (w w' : World) (v : Value) (N M : Nat) : Prop :=
  ∃ a g m cap Y, v = .slice a m cap ∧ m ≤ cap ∧ m ≤ M ∧ Limbs w' a g 0 m Y ∧ w.heap.size ≤ g ∧ (0 < m → ∀ o, w'.frozen? ⟨g, o, none⟩ = false) ∧
      (∀ j, j < m → Y j < 4294967296) ∧ (0 < m → Y (m - 1) ≠ 0) ∧ lv Y m = N

theorem natOut_mk {w w' : World} {a : Option Addr} {g m cap N M : Nat} {Y : Nat → Nat} (hs : w.heap.size ≤ w'.heap.size) (h1 : m ≤ cap) (h2 : m ≤ M) (h3 : Limbs w' a g 0 m Y) (h4 : 0 < m → w.heap.size ≤ g)
    (h5 : 0 < m → ∀ o, w'.frozen? ⟨g, o, none⟩ = false) (h6 : ∀ j, j < m → Y j < 4294967296) (h7 : 0 < m → Y (m - 1) ≠ 0) (h8 : lv Y m = N) : NatOut w w' (.slice a m cap) N M := by
  by_cases h0 : 0 < m
  · exact ⟨a, g, m, cap, Y, rfl, h1, h2, h3, h4 h0, h5, h6, h7, h8⟩
  · exact ⟨a, w'.heap.size, m, cap, Y, rfl, h1, h2, fun j hj => absurd hj (by omega), hs, fun h => absurd h h0, h6, h7, h8⟩

end Go.Proofs.YthaomfabdghfjaaGreat

namespace Go.Proofs.YthaomfabdghfjaaGreat
open Go.RowKit

theorem carry_cast (x y p c : Nat) : ((x : Int) * y + p + c) / 4294967296 = (((x * y + p + c) / 4294967296 : Nat) : Int) := by
  have h : (((x * y + p + c : Nat) : Int)) = (x : Int) * y + p + c := by simp
  rw [← h]; omega

set_option maxHeartbeats 3200000 in
set_option maxRecDepth 100000 in
theorem multiply_any (c o : Nat) (a a' : Option Addr) (b off n cap b' off' m cap' : Nat) (X Y : Nat → Nat) (w : World) (hn : n ≤ 67108864) (hm : m ≤ 67108864) (hX : Limbs w a b off n X) (hY : Limbs w a' b' off' m Y)
    (hXl : ∀ j, j < n → X j < 4294967296) (hYl : ∀ j, j < m → Y j < 4294967296) (hc0 : w.cell? ⟨c, o, none⟩ = some (.slice a n cap)) (hf0 : w.frozen? ⟨c, o, none⟩ = false) :
    Calls Tryz.prog 124 #[.pointer (some ⟨c, o, none⟩), .slice a' m cap'] w fun e w' => e = .returned (.tuple #[]) ∧ ∃ w2 P, w.Since w.heap.size w2 ∧ w2.rowIs w.heap.size 119 (n + m) (fun j => .int .u32 (P j : Nat)) ∧
      (∀ k, P k < 4294967296) ∧ lv P (n + m) = lv X n * lv Y m ∧ w' = w2.setCell ⟨c, o, none⟩ (.slice (some ⟨w.heap.size, 0, none⟩) (tlen (nz P) (n + m)) (n + m)) := by
  have hmk := run_make_row' (P := Tryz.prog) 115 119 (.int .u32 0) 4 Tryz.underlying115 Tryz.info119 rfl .i64 .i64 (n + m) (by omega) (by omega)
  rw [Int.natCast_add] at hmk
  have hcl : c < w.heap.size := World.block_lt_of_cell? _ _ hc0
  go_enter Tryz.func124, Tryz.ntmps124
  go_wp2
  clear hmk
  go_loopw [23] (fun q wr => ∃ (i : Nat) (P : Nat → Nat), i ≤ n ∧ q = .int .i64 i ∧ w.Since w.heap.size wr ∧ wr.rowIs w.heap.size 119 (n + m) (fun k => .int .u32 (P k)) ∧ wr.rowIs (w.heap.size + 1) 115 1 (fun _ => .slice (some ⟨w.heap.size, 0, none⟩) (n + m) (n + m)) ∧
     (∀ k, P k < 4294967296) ∧ lv P (i + m) = lv X i * lv Y m) (fun q _ => n - (intOf q).toNat)
  case atStart =>
    refine ⟨0, fun _ => 0, Nat.zero_le _, rfl, ((World.Since.refl _ _).alloc (Nat.le_refl _) _).alloc (by simp) _, ((World.rowIs_made w _ _ _).alloc _), ?_, fun _ => Nat.zero_lt_succ _, ?_⟩
    · have := World.rowIs_alloc (w.alloc (Obj.cells (madeCells #[Value.int IntKind.u32 0] (n + m)) 119)) #[Value.slice (some ⟨w.heap.size, 0, none⟩) (n + m) (n + m)] 115 (fun _ => .slice (some ⟨w.heap.size, 0, none⟩) (n + m) (n + m)) (fun i hi => by simp at hi; subst hi; rfl)
      simpa using this
    · rw [lv_more (fun _ => 0) 0 (0 + m) (by omega) (fun _ _ _ => rfl)]; simp [lv]
  case round =>
    obtain ⟨i, P0, hin, rfl, hs, hr0, hbox, hPl, h0⟩ := hrel
    have H0 : Hid (lv P0 (i + m) = lv X i * lv Y m) := h0
    have HPl : Hid (∀ k, P0 k < 4294967296) := hPl
    clear h0 hPl
    by_cases hlt : i < n
    · obtain ⟨rfl, hc⟩ := hX i hlt
      have g0 : wr.cell? ⟨b, off + i, none⟩ = some (.int .u32 (X i)) := by rw [hs.cell (a := ⟨b, off + i, none⟩) (hX.lt (by omega))]; exact hc
      clear hc
      have hxi := hXl i hlt
      obtain ⟨x, hx⟩ : ∃ x, x = X i := ⟨_, rfl⟩
      rw [← hx] at g0 hxi
      have HX : Hid (x = X i) := hx
      clear hx
      go_wp2
      clear g0
      go_loopw [7, 30] (fun c t wr' => ∃ (j cr : Nat) (P : Nat → Nat), j ≤ m ∧ t = .int .i64 j ∧ c = .int .u64 cr ∧ w.Since w.heap.size wr' ∧ wr'.rowIs w.heap.size 119 (n + m) (fun k => .int .u32 (P k)) ∧
        wr'.rowIs (w.heap.size + 1) 115 1 (fun _ => .slice (some ⟨w.heap.size, 0, none⟩) (n + m) (n + m)) ∧ MulRel P0 P x Y i j cr) (fun _ t _ => m - (intOf t).toNat)
      case atStart => exact ⟨0, 0, P0, by omega, rfl, rfl, hs, hr0, hbox, mulRel_start HPl.out x Y i⟩
      case round =>
        clear hr0 hs hbox
        obtain ⟨j, cr, P, hj, rfl, rfl, hs, hr, hbox, hR⟩ := hrel
        have HR : Hid (MulRel P0 P x Y i j cr) := hR
        clear hR
        have b0 := hbox.cell (i := 0) (by omega)
        by_cases hlt2 : j < m
        · obtain ⟨rfl, hc⟩ := hY j hlt2
          have g0 : wr.cell? ⟨b', off' + j, none⟩ = some (.int .u32 (Y j)) := by rw [hs.cell (a := ⟨b', off' + j, none⟩) (hY.lt (by omega))]; exact hc
          clear hc
          have hyj := hYl j hlt2
          have g1 := hr.cell (i := i + j) (by omega)
          have g2 := hr.frozen (i + j)
          have hsum := mulRel_sum HR.out hxi hyj
          have HST := hide (mulRel_step HR.out hxi hyj rfl)
          obtain ⟨y, hy⟩ : ∃ y, y = Y j := ⟨_, rfl⟩
          obtain ⟨p, hp⟩ : ∃ p, p = P (i + j) := ⟨_, rfl⟩
          have hcr : cr < 4294967296 := HR.out.2.2.1
          have hpl : p < 4294967296 := by rw [hp]; exact HR.out.2.1 _
          rw [← hy] at g0 hyj hsum HST
          rw [← hp] at g1 hsum HST
          clear hy hp
          have hm0 : (0 : Int) ≤ (x : Int) * (y : Int) := by rw [← Int.natCast_mul]; omega
          have hm1 : (x : Int) * (y : Int) + (p : Int) + (cr : Int) ≤ 18446744073709551615 := by rw [← Int.natCast_mul]; omega
          clear hsum
          go_wp2
          go_roundw
          case rel =>
            go_light
            refine ⟨j + 1, (x * y + p + cr) / 4294967296, _, by omega, by go_num, congrArg (Value.int .u64) (carry_cast x y p cr), hs.setCell (Nat.le_refl _) _, (hr.set (i + j) _).congr (fun k _ => ?_), hbox.setOther (by simp) _, HST.out⟩
            by_cases e : k = i + j
            · simp [e]
            · simp [e]
          case measure => simp [intOf]; omega
        · have e : j = m := by omega
          subst e
          have g1 := hr.cell (i := i + j) (by omega)
          have g2 := hr.frozen (i + j)
          have hcr : cr < 4294967296 := HR.out.2.2.1
          go_wp2
          go_roundw
          case rel =>
            go_light
            rw [HX.out] at HR
            refine ⟨i + 1, _, by omega, by go_num, hs.setCell (Nat.le_refl _) _, (hr.set (i + j) _).congr (fun k _ => ?_), hbox.setOther (by simp) _, fun k => ?_, mulRel_end HR.out H0.out⟩
            · by_cases e : k = i + j
              · simp [e]
              · simp [e]
            · show (if k = i + j then cr else P k) < _
              split
              · exact hcr
              · exact HR.out.2.1 k
          case measure => simp [intOf]; omega
    · have e : i = n := by omega
      subst e
      have b0 := hbox.cell (i := 0) (by omega)
      have b1 := hbox.frozen 0
      go_wp2_with fail
      refine (trim_any (w.heap.size + 1) _ w.heap.size 0 (i + m) (i + m) P0 _ (by omega) (Nat.le_refl _) b0 b1 (limbs_row hr0)).mono ?_
      rintro e w1 ⟨rfl, rfl⟩
      have q0 : wr.frozen? ⟨c, o, none⟩ = false := by rw [hs.frozen (a := ⟨c, o, none⟩) hcl]; exact hf0
      have q1 : wr.cell? ⟨c, o, none⟩ = some (.slice a i cap) := by rw [hs.cell (a := ⟨c, o, none⟩) hcl]; exact hc0
      have q2 : c ≠ w.heap.size + 1 := by omega
      go_wp2
      go_end0
      exact ⟨rfl, _, P0, hs.setCell (Nat.le_succ _) _, hr0.setOther (by simp) _, HPl.out, H0.out, rfl⟩


end Go.Proofs.YthaomfabdghfjaaGreat

namespace Go.Proofs.YthaomfabdghfjaaGreat
open Go.RowKit

/-- What holds when i bits have been added. -/
def SumRel (O A B : Nat → Bool) (n m i : Nat) (c : Bool) : Prop := bv O i + c.toNat * 2 ^ i = bv (ext A n) i + bv (ext B m) i

theorem sumRel_step {O A B : Nat → Bool} {n m i : Nat} {c x y : Bool} (h : SumRel O A B n m i c) (hx : ext A n i = x) (hy : ext B m i = y) :
    SumRel (upd O i ((x != y) != c)) A B n m (i + 1) ((x && y) || (x && c) || (y && c)) := by
  unfold SumRel at *
  have hf := full_add x y c
  simp only [bv, bv_upd O i _ i (Nat.le_refl _), upd_same, hx, hy]
  generalize ((x != y) != c).toNat = s at hf ⊢
  generalize ((x && y) || (x && c) || (y && c)).toNat = d at hf ⊢
  have e : s * 2 ^ i + d * 2 ^ (i + 1) = x.toNat * 2 ^ i + y.toNat * 2 ^ i + c.toNat * 2 ^ i := by
    rw [← Nat.add_mul, ← Nat.add_mul, ← hf, Nat.add_mul, Nat.pow_succ, Nat.mul_comm (2 ^ i) 2, ← Nat.mul_assoc, Nat.mul_comm d 2]
  omega

theorem sumRel_end {O A B : Nat → Bool} {n m i : Nat} {c : Bool} (h : SumRel O A B n m i c) (hn : n ≤ i) (hm : m ≤ i) : bv O i + c.toNat * 2 ^ i = bv A n + bv B m := by
  unfold SumRel at h
  rw [bv_ext A n i hn, bv_ext B m i hm] at h
  exact h

theorem not_eq2b (y c : Bool) : (!(y == c)) = ((false != y) != c) := by cases y <;> cases c <;> rfl

set_option maxHeartbeats 6400000 in
set_option maxRecDepth 100000 in
theorem l1AddBits_any (a a' : Option Addr) (b off n cap b' off' m cap' : Nat) (A B : Nat → Bool) (w : World) (hn : n ≤ 2147483648) (hm : m ≤ 2147483648) (hA : Bits w a b off n A) (hB : Bits w a' b' off' m B) :
    Calls Tryz.prog 135 #[.slice a n cap, .slice a' m cap'] w fun e w' => ∃ g t cap'' D, e = .returned (.slice (some ⟨g, 0, none⟩) t cap'') ∧ t ≤ cap'' ∧ t ≤ max n m + 1 ∧ Bits w' (some ⟨g, 0, none⟩) g 0 t D ∧ w.heap.size ≤ g ∧
      (0 < t → D (t - 1) = true) ∧ bv D t = bv A n + bv B m ∧ w.Since w.heap.size w' := by
  obtain ⟨i0, hi, hz0, hz1, hz2⟩ := info_parts Tryz.info4
  obtain ⟨k, hk1, hk2, hk3, hk4, hk5⟩ : ∃ k, n ≤ k ∧ m ≤ k ∧ k ≤ 2147483648 ∧ k ≤ max n m ∧ (k = n ∨ k = m) := by
    rcases Nat.le_total n m with h | h
    · exact ⟨m, h, Nat.le_refl _, hm, Nat.le_max_right _ _, Or.inr rfl⟩
    · exact ⟨n, Nat.le_refl _, h, hn, Nat.le_max_left _ _, Or.inl rfl⟩
  have HK := hide hk4
  clear hk4
  go_enter Tryz.func135, Tryz.ntmps135
  go_wp2
  go_loopw [5, 6, 7] (fun v c t wr => ∃ (i : Nat) (cb : Bool) (D : Nat → Bool), i ≤ k ∧ t = .int .i64 i ∧ c = .bool cb ∧ Hid (v ≠ .slice none 0 0) ∧ wr.ownsRow w.heap.size 4 1 v i (bl D i) ∧ w.Since w.heap.size wr ∧ Hid (SumRel D A B n m i cb)) (fun _ _ t _ => k - (intOf t).toNat)
  case atStart => exact ⟨0, false, fun _ => false, Nat.zero_le _, rfl, rfl, hide (by simp), World.ownsRow_made w #[] 0 (Nat.le_refl _) (by decide) rfl, (World.Since.refl _ _).alloc (Nat.le_refl _) _, hide (by simp [SumRel, bv])⟩
  case round =>
    obtain ⟨i, cb, D, hin, rfl, rfl, HN, hown, hs, HR⟩ := hrel
    by_cases hlt : i < n
    · by_cases him : i < m
      · obtain ⟨rfl, hc⟩ := hA i hlt
        have g0 : wr.cell? ⟨b, off + i, none⟩ = some (.bool (A i)) := by rw [hs.cell (a := ⟨b, off + i, none⟩) (hA.lt (by omega))]; exact hc
        clear hc
        obtain ⟨x, hx⟩ : ∃ x, x = A i := ⟨_, rfl⟩
        rw [← hx] at g0
        have HX : Hid (ext A n i = x) := by simp [Hid, ext, hlt, hx]
        clear hx
        obtain ⟨rfl, hc⟩ := hB i him
        have g1 : wr.cell? ⟨b', off' + i, none⟩ = some (.bool (B i)) := by rw [hs.cell (a := ⟨b', off' + i, none⟩) (hB.lt (by omega))]; exact hc
        obtain ⟨y, hy⟩ : ∃ y, y = B i := ⟨_, rfl⟩
        rw [← hy] at g1
        have HY : Hid (ext B m i = y) := by simp [Hid, ext, him, hy]
        clear hc hy
        have HS := hide (sumRel_step HR.out HX.out HY.out)
        go_wp2_with (at_builtin; refine wpList_append_own _ rfl _ _ 156 rfl w.heap.size 4 i0 (.bool false) 1 1 Tryz.underlying156 hi hz0 hz1 hz2 rfl (by decide) _ _ _ rfl (hown.alloc _) ⟨wr.heap.size, 0, none⟩ 1 1 [.bool _] rfl rfl (new_cell _ _ _) (one_one _ rfl) (by unfold maxLen; omega) (by omega) (by have := hs.size; simp; omega) ?_)
        intro v' w1 hown' hgrow hnn
        have hs1 : w.Since w.heap.size w1 := (hs.alloc hs.size _).grown hgrow (by have := hs.size; simp; omega) (fun k hk => (hown.lt k hk).1)
        have HN' := hide hnn
        rw [not_eq3 x y cb, ← bl_upd] at hown'
        clear hgrow hown hs hnn HN
        cases x <;> cases y <;> cases cb
        all_goals
          go_wp2
          go_roundw
          case rel => exact ⟨i + 1, _, _, by omega, by go_num, rfl, HN', hown', hs1, HS⟩
          case measure => simp [intOf]; omega
      · obtain ⟨rfl, hc⟩ := hA i hlt
        have g0 : wr.cell? ⟨b, off + i, none⟩ = some (.bool (A i)) := by rw [hs.cell (a := ⟨b, off + i, none⟩) (hA.lt (by omega))]; exact hc
        clear hc
        obtain ⟨x, hx⟩ : ∃ x, x = A i := ⟨_, rfl⟩
        rw [← hx] at g0
        have HX : Hid (ext A n i = x) := by simp [Hid, ext, hlt, hx]
        clear hx
        have HY : Hid (ext B m i = false) := by simp [Hid, ext, him]
        have HS := hide (sumRel_step HR.out HX.out HY.out)
        go_wp2_with (at_builtin; refine wpList_append_own _ rfl _ _ 156 rfl w.heap.size 4 i0 (.bool false) 1 1 Tryz.underlying156 hi hz0 hz1 hz2 rfl (by decide) _ _ _ rfl (hown.alloc _) ⟨wr.heap.size, 0, none⟩ 1 1 [.bool _] rfl rfl (new_cell _ _ _) (one_one _ rfl) (by unfold maxLen; omega) (by omega) (by have := hs.size; simp; omega) ?_)
        intro v' w1 hown' hgrow hnn
        have hs1 : w.Since w.heap.size w1 := (hs.alloc hs.size _).grown hgrow (by have := hs.size; simp; omega) (fun k hk => (hown.lt k hk).1)
        have HN' := hide hnn
        rw [not_eq2 x cb, ← bl_upd] at hown'
        clear hgrow hown hs hnn HN
        cases x <;> cases cb
        all_goals
          go_wp2
          go_roundw
          case rel => exact ⟨i + 1, _, _, by omega, by go_num, rfl, HN', hown', hs1, HS⟩
          case measure => simp [intOf]; omega
    · by_cases him : i < m
      · have HX : Hid (ext A n i = false) := by simp [Hid, ext, hlt]
        obtain ⟨rfl, hc⟩ := hB i him
        have g1 : wr.cell? ⟨b', off' + i, none⟩ = some (.bool (B i)) := by rw [hs.cell (a := ⟨b', off' + i, none⟩) (hB.lt (by omega))]; exact hc
        obtain ⟨y, hy⟩ : ∃ y, y = B i := ⟨_, rfl⟩
        rw [← hy] at g1
        have HY : Hid (ext B m i = y) := by simp [Hid, ext, him, hy]
        clear hc hy
        have HS := hide (sumRel_step HR.out HX.out HY.out)
        go_wp2_with (at_builtin; refine wpList_append_own _ rfl _ _ 156 rfl w.heap.size 4 i0 (.bool false) 1 1 Tryz.underlying156 hi hz0 hz1 hz2 rfl (by decide) _ _ _ rfl (hown.alloc _) ⟨wr.heap.size, 0, none⟩ 1 1 [.bool _] rfl rfl (new_cell _ _ _) (one_one _ rfl) (by unfold maxLen; omega) (by omega) (by have := hs.size; simp; omega) ?_)
        intro v' w1 hown' hgrow hnn
        have hs1 : w.Since w.heap.size w1 := (hs.alloc hs.size _).grown hgrow (by have := hs.size; simp; omega) (fun k hk => (hown.lt k hk).1)
        have HN' := hide hnn
        rw [not_eq2b y cb, ← bl_upd] at hown'
        clear hgrow hown hs hnn HN
        cases y <;> cases cb
        all_goals
          go_wp2
          go_roundw
          case rel => exact ⟨i + 1, _, _, by omega, by go_num, rfl, HN', hown', hs1, HS⟩
          case measure => simp [intOf]; omega
      · have e : i = k := by omega
        subst e
        have HE := hide (sumRel_end HR.out hk1 hk2)
        cases cb
        · obtain ⟨g, cap3, rfl, hmc, hg, hD⟩ := own_bits_some hown HN.out
          go_wp2_with fail
          refine (l1Trim_any _ g 0 i cap3 D _ (by omega) hmc hD).mono ?_
          rintro e w1 ⟨rfl, rfl⟩
          go_wp2
          go_ret
          have htl := tlen_le D i
          have := HK.out
          exact ⟨g, _, cap3, D, rfl, by omega, by omega, hD.take htl, hg, fun h => tlen_top _ _ h, (bv_tlen _ _).trans (by have := HE.out; simpa using this), hs⟩
        · go_wp2_with (at_builtin; refine wpList_append_own _ rfl _ _ 156 rfl w.heap.size 4 i0 (.bool false) 1 1 Tryz.underlying156 hi hz0 hz1 hz2 rfl (by decide) _ _ _ rfl (hown.alloc _) ⟨wr.heap.size, 0, none⟩ 1 1 [.bool true] rfl rfl (new_cell _ _ _) (one_one _ rfl) (by unfold maxLen; omega) (by omega) (by have := hs.size; simp; omega) ?_)
          intro v' w1 hown' hgrow hnn
          have hs1 : w.Since w.heap.size w1 := (hs.alloc hs.size _).grown hgrow (by have := hs.size; simp; omega) (fun k hk => (hown.lt k hk).1)
          rw [← bl_upd] at hown'
          obtain ⟨g, cap3, rfl, hmc, hg, hD⟩ := own_bits_some hown' hnn
          clear hgrow hown hs
          go_wp2_with fail
          refine (l1Trim_any _ g 0 (i + 1) cap3 (upd D i true) _ (by omega) hmc hD).mono ?_
          rintro e w2 ⟨rfl, rfl⟩
          go_wp2
          go_ret
          have htl := tlen_le (upd D i true) (i + 1)
          have := HK.out
          refine ⟨g, _, cap3, upd D i true, rfl, by omega, by omega, hD.take htl, hg, fun h => tlen_top _ _ h, (bv_tlen _ _).trans ?_, hs1⟩
          have h9 := HE.out
          simp only [bv, upd_same, bv_upd D i true i (Nat.le_refl _)]
          exact h9

end Go.Proofs.YthaomfabdghfjaaGreat

namespace Go.Proofs.YthaomfabdghfjaaGreat
open Go.RowKit

set_option maxHeartbeats 800000 in
set_option maxRecDepth 100000 in
theorem to_any (a : Option Addr) (b off n cap : Nat) (X : Nat → Nat) (w : World) (hn : n ≤ 16777216) (hX : Limbs w a b off n X) :
    Calls Tryz.prog 69 #[.slice a n cap] w fun e w' => e = .returned (.slice (some ⟨w.heap.size, 0, none⟩) n n) ∧ w.Since w.heap.size w' ∧ w'.rowIs w.heap.size 119 n (fun j => .int .u32 (X j)) := by
  have hmk := run_make_row' (P := Tryz.prog) 61 119 (.int .u32 0) 4 Tryz.underlying61 Tryz.info119 rfl .i64 .i64 n (by omega) (by omega)
  go_enter Tryz.func69, Tryz.ntmps69
  go_wp2
  clear hmk
  go_loopw [4] (fun i wr => ∃ k : Nat, k ≤ n ∧ i = .int .i64 k ∧ w.Since w.heap.size wr ∧ wr.rowIs w.heap.size 119 n (fun j => .int .u32 (if j < k then X j else 0))) (fun i _ => n - (intOf i).toNat)
  case atStart =>
    exact ⟨0, Nat.zero_le _, rfl, (World.Since.refl _ _).alloc (Nat.le_refl _) _, (World.rowIs_made w _ n 119).congr (fun j _ => by simp)⟩
  case round =>
    obtain ⟨k, hk, rfl, hs, hr⟩ := hrel
    by_cases hlt : k < n
    · obtain ⟨rfl, hc⟩ := hX k hlt
      have hb : b < w.heap.size := World.block_lt_of_cell? _ _ hc
      have g0 : wr.cell? ⟨b, off + k, none⟩ = some (.int .u32 (X k)) := by rw [hs.cell (a := ⟨b, off + k, none⟩) hb]; exact hc
      have g1 := hr.cell hlt
      have g2 := hr.frozen k
      go_wp2
      go_roundw
      case rel =>
        refine ⟨k + 1, by omega, by go_num, hs.setCell (Nat.le_refl _) _, (hr.set k _).congr (fun j _ => ?_)⟩
        by_cases e : j = k
        · subst e; simp
        · simp only [e, if_false]
          by_cases e2 : j < k
          · rw [if_pos e2, if_pos (by omega)]
          · rw [if_neg e2, if_neg (by omega)]
      case measure => simp [intOf]; omega
    · have e : k = n := by omega
      subst e
      go_wp2
      go_ret
      exact ⟨rfl, hs, hr.congr (fun j hj => by simp [hj])⟩

end Go.Proofs.YthaomfabdghfjaaGreat

namespace Go.Proofs.YthaomfabdghfjaaGreat
open Go.RowKit

set_option maxHeartbeats 800000 in
set_option maxRecDepth 100000 in
theorem eq_true (a a' : Option Addr) (b off b' off' n cap cap' : Nat) (X : Nat → Nat) (w : World) (hn : n ≤ 67108864) (hX : Limbs w a b off n X) (hY : Limbs w a' b' off' n X) :
    Calls Tryz.prog 77 #[.slice a n cap, .slice a' n cap'] w fun e w' => e = .returned (.bool true) ∧ Same w w' := by
  go_enter Tryz.func77, Tryz.ntmps77
  go_wp2
  go_loopw [5] (fun i wr => ∃ k : Nat, k ≤ n ∧ i = .int .i64 k ∧ Same w wr) (fun i _ => n - (intOf i).toNat)
  case atStart => exact ⟨0, Nat.zero_le _, rfl, Same.refl _⟩
  case round =>
    obtain ⟨k, hk, rfl, hs⟩ := hrel
    by_cases hlt : k < n
    · obtain ⟨rfl, hc⟩ := hX k hlt
      obtain ⟨rfl, hc'⟩ := hY k hlt
      have g0 : wr.cell? ⟨b, off + k, none⟩ = some (.int .u32 (X k)) := by rw [hs.cell]; exact hc
      have g1 : wr.cell? ⟨b', off' + k, none⟩ = some (.int .u32 (X k)) := by rw [hs.cell]; exact hc'
      have hz : (k : Int) < (n : Int) := by omega
      go_wp2
      go_quiet (fail)
      go_wp2
      go_roundw
      case rel => exact ⟨k + 1, by omega, by go_num, hs.drewN _⟩
      case measure => simp [intOf]; omega
    · go_wp2
      go_ret
      exact ⟨rfl, hs⟩

set_option maxHeartbeats 800000 in
set_option maxRecDepth 100000 in
theorem mark_any (a : Option Addr) (b n cap : Nat) (X : Nat → Nat) (k0 : Nat) (w : World) (hn : n ≤ 67108864) (hk0 : k0 ≤ 268435456) (hX : Limbs w a b 0 n X) (hf : 0 < n → ∀ o, w.frozen? ⟨b, o, none⟩ = false) :
    Calls Tryz.prog 43 #[.slice a n cap, .int .i64 k0] w fun e w' => e = .returned (.int .i64 ((k0 + n : Nat) : Int)) ∧ Marked w w' b ∧ Limbs w' a b 0 n (fun j => k0 + j) := by
  go_enter Tryz.func43, Tryz.ntmps43
  go_wp2
  go_loopw [1, 5] (fun q i wr => ∃ k : Nat, k ≤ n ∧ i = .int .i64 k ∧ q = .int .i64 ((k0 + k : Nat) : Int) ∧ Marked w wr b ∧ Limbs wr a b 0 n (fun j => if j < k then k0 + j else X j)) (fun _ i _ => n - (intOf i).toNat)
  case atStart => exact ⟨0, Nat.zero_le _, rfl, rfl, Marked.refl _ _, fun j hj => by simpa using hX j hj⟩
  case round =>
    obtain ⟨k, hk, rfl, rfl, hs, hr⟩ := hrel
    by_cases hlt : k < n
    · obtain ⟨rfl, hc⟩ := hr k hlt
      have g0 : wr.cell? ⟨b, k, none⟩ = some (.int .u32 ((X k : Nat) : Int)) := by simpa using hc
      have g1 : wr.frozen? ⟨b, k, none⟩ = false := by rw [hs.frozen]; exact hf (by omega) k
      clear hc
      go_wp2
      go_roundw
      case rel =>
        refine ⟨k + 1, by omega, by go_num, by go_num, hs.setCell _ _, fun j hj => ⟨rfl, ?_⟩⟩
        go_light
        by_cases e : j = k
        · subst e
          rw [Nat.zero_add, World.cell?_setCell_same _ _ _ g0]
          simp
        · rw [World.cell?_setCell_other _ _ _ _ (fun h => by have := congrArg Addr.off h; simp at this; omega)]
          have := (hr j hj).2
          simp only [this]
          by_cases e2 : j < k
          · rw [if_pos e2, if_pos (by omega)]
          · rw [if_neg e2, if_neg (by omega)]
      case measure => simp [intOf]; omega
    · have e : k = n := by omega
      subst e
      go_wp2
      go_ret
      exact ⟨rfl, hs, fun j hj => by have := hr j hj; simpa [hj] using this⟩

set_option maxHeartbeats 800000 in
set_option maxRecDepth 100000 in
theorem held_any (a : Option Addr) (b off n cap : Nat) (k0 : Nat) (w : World) (hn : n ≤ 67108864) (hk0 : k0 ≤ 268435456) (hX : Limbs w a b off n (fun j => k0 + j)) :
    Calls Tryz.prog 44 #[.slice a n cap, .int .i64 k0] w fun e w' => e = .returned (.int .i64 ((k0 + n : Nat) : Int)) ∧ w' = w := by
  go_enter Tryz.func44, Tryz.ntmps44
  go_wp2
  go_loop [1, 5] (fun q i => ∃ k : Nat, k ≤ n ∧ i = .int .i64 k ∧ q = .int .i64 ((k0 + k : Nat) : Int)) (fun _ i => n - (intOf i).toNat)
  case atStart => exact ⟨0, Nat.zero_le _, rfl, rfl⟩
  case round =>
    obtain ⟨k, hk, rfl, rfl⟩ := hrel
    by_cases hlt : k < n
    · obtain ⟨rfl, hc⟩ := hX k hlt
      go_wp2
      go_round
      case rel => exact ⟨k + 1, by omega, by go_num, by go_num⟩
      case measure => simp [intOf]; omega
    · have e : k = n := by omega
      subst e
      go_wp2
      go_ret
      exact ⟨rfl, rfl⟩

end Go.Proofs.YthaomfabdghfjaaGreat
