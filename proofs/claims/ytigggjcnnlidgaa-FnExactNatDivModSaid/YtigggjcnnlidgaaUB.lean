import Derived.Test.YtigggjcnnlidgaaUA
namespace Go.Proofs.Ytigggjcnnlidgaa
open Go.RowKit

theorem Fr.to_since {c o b : Nat} {w w1 w2 : World} (h : Fr c o b w1 w2) (s : w.Since w.heap.size w1) (hc : w.heap.size ≤ c) (hb : w.heap.size ≤ b) : w.Since w.heap.size w2 :=
  ⟨h.os.trans s.os, h.tape.trans s.tape, h.output.trans s.output, Nat.le_trans s.size h.size, fun k hk => (h.block k (Nat.lt_of_lt_of_le hk s.size) (by omega) (by omega)).trans (s.block k hk)⟩

/-- A list that was made by append: a new natural. -/
theorem own_nat {w : World} {base : Nat} {v : Value} {m : Nat} {X : Nat → Nat} (h : w.ownsRow base 33 1 v m (ll X m)) (far : Nat) (hfar : base ≤ far) :
    ∃ a g cap, v = .slice a m cap ∧ m ≤ cap ∧ (a = none → cap = 0) ∧ base ≤ g ∧ (g = far ∨ g < w.heap.size) ∧ (0 < m → g < w.heap.size) ∧ Limbs w a g 0 m X ∧ (0 < m → ∀ o, w.frozen? ⟨g, o, none⟩ = false) := by
  have hc := @World.ownsRow.cells _ _ _ _ _ _ _ h
  rcases h.2 with ⟨rfl, rfl⟩ | ⟨g, cap, cur, rfl, hb, hg, hm, _⟩
  · exact ⟨none, far, 0, rfl, Nat.le_refl _, fun _ => rfl, hfar, Or.inl rfl, fun h => absurd h (by omega), fun j hj => absurd hj (by omega), fun h => absurd h (by omega)⟩
  · have hlt := (Array.getElem?_eq_some_iff.1 hg).1
    refine ⟨_, g, cap, rfl, hm, fun h => (by cases h), hb, Or.inr hlt, fun _ => hlt, fun j hj => ⟨rfl, ?_⟩, fun _ o => by simp [World.frozen?, hg]⟩
    have := hc (g := g) rfl j _ (ll_get X m j hj)
    rw [Addr.add_lit] at this; exact this

theorem lv_nought {X : Nat → Nat} {n : Nat} (h : lv X n = 0) : tlen (nz X) n = 0 := by
  by_cases e : tlen (nz X) n = 0
  · exact e
  · have h1 := tlen_top (nz X) n (by omega)
    have h2 := lv_ge X (tlen (nz X) n) (by omega) (by simpa [nz] using h1)
    rw [lv_tlen, h] at h2
    have := Nat.pow_pos (n := 32 * (tlen (nz X) n - 1)) (show 0 < 2 by omega)
    omega

theorem lv_some {X : Nat → Nat} {n : Nat} (h : 0 < lv X n) : 0 < tlen (nz X) n := by
  by_cases e : tlen (nz X) n = 0
  · have := lv_tlen X n
    rw [e] at this
    simp [lv] at this
    omega
  · omega

theorem NatAt.since {w w' : World} {v : Value} {g N M B : Nat} (h : NatAt w v g N M) (s : w.Since B w') (hg : g < B) : NatAt w' v g N M := by
  obtain ⟨a, m, cap, Y, h1, h2, h3, h4, h5, h6, h7⟩ := h
  exact ⟨a, m, cap, Y, h1, h2, h3, h4, h5.since s (fun _ => hg), fun h x => by rw [s.frozen (a := ⟨g, x, none⟩) hg]; exact h6 h x, h7⟩

theorem NatAt.same {w w' : World} {v : Value} {g N M : Nat} (h : NatAt w v g N M) (s : Same w w') : NatAt w' v g N M := by
  obtain ⟨a, m, cap, Y, h1, h2, h3, h4, h5, h6, h7⟩ := h
  exact ⟨a, m, cap, Y, h1, h2, h3, h4, h5.same s, fun h x => by rw [s.frozen]; exact h6 h x, h7⟩

theorem natAt_mono {w : World} {v : Value} {g N M M' : Nat} (h : NatAt w v g N M) (hM : M ≤ M') : NatAt w v g N M' := by
  obtain ⟨a, m, cap, Y, h1, h2, h3, h4⟩ := h
  exact ⟨a, m, cap, Y, h1, h2, by omega, h4⟩

set_option maxHeartbeats 1600000 in
set_option maxRecDepth 100000 in
theorem implNatDivMod_zero (a a' : Option Addr) (n cap b' off' m cap' : Nat) (Y : Nat → Nat) (w : World) (hm : m ≤ 1048576) (hmc : m ≤ cap') (hY : Limbs w a' b' off' m Y) (h0 : lv Y m = 0) :
    Calls Try.prog 12 #[.slice a n cap, .slice a' m cap'] w fun e w' => e = .returned (.tuple #[.slice none 0 0, .slice none 0 0, .bool false]) ∧ w.Since w.heap.size w' := by
  have e0 := lv_nought h0
  go_enter Try.func12, Try.ntmps12
  go_wp2_with fail
  refine (readOnly_any a' b' off' m cap' Y _ (by omega) hmc hY).mono ?_
  rintro e w1 ⟨rfl, hs1⟩
  rw [e0]
  clear h0 e0
  go_wp2_with fail
  refine (isZero_any w1.heap.size 0 a' 0 cap' _ (by simp [go_sem])).mono ?_
  rintro e w2 ⟨rfl, rfl⟩
  go_wp2
  go_ret3
  exact ⟨rfl, hs1.alloc hs1.size _⟩

set_option maxHeartbeats 1600000 in
set_option maxRecDepth 100000 in
theorem implNatDivMod_any (a a' : Option Addr) (b n cap b' m cap' : Nat) (X Y : Nat → Nat) (w : World) (hn : n ≤ 1048576) (hm : m ≤ 1048576) (hnc : n ≤ cap) (hmc : m ≤ cap') (hac : a = none → cap = 0) (hX : Limbs w a b 0 n X) (hY : Limbs w a' b' 0 m Y)
    (hXl : ∀ j, j < n → X j < 4294967296) (hYl : ∀ j, j < m → Y j < 4294967296) (h0 : 0 < lv Y m) :
    Calls Try.prog 12 #[.slice a n cap, .slice a' m cap'] w fun e w' => ∃ vq vr gq gr, e = .returned (.tuple #[vq, vr, .bool true]) ∧ NatAt w' vq gq (lv X n / lv Y m) (n + 2) ∧ NatAt w' vr gr (lv X n % lv Y m) (n + 2) ∧
      w.heap.size ≤ gq ∧ w.heap.size ≤ gr ∧ gq ≠ gr ∧ w.Since w.heap.size w' := by
  have e0 := lv_some h0
  have l2 := tlen_le (nz Y) m
  have HTY := hide (tlen_top (nz Y) m e0)
  have HVY := hide (lv_tlen Y m)
  obtain ⟨t, ht⟩ : ∃ t, t = tlen (nz Y) m := ⟨_, rfl⟩
  rw [← ht] at e0 l2 HTY HVY
  have HT := hide ht
  clear h0 ht
  go_enter Try.func12, Try.ntmps12
  go_wp2_with fail
  refine (readOnly_any a' b' 0 m cap' Y _ (by omega) hmc hY).mono ?_
  rintro e w1 ⟨rfl, s1⟩
  rw [← HT.out]
  go_wp2_with fail
  refine (isZero_any w1.heap.size 0 a' t cap' _ (by simp [go_sem])).mono ?_
  rintro e w2 ⟨rfl, hw2⟩
  have s2 : w.Since w.heap.size w2 := by rw [hw2]; exact s1.alloc s1.size _
  have bx2 : w2.cell? ⟨w1.heap.size, 0, none⟩ = some (.slice a' t cap') := by rw [hw2]; simp [go_sem]
  have z12 : w1.heap.size < w2.heap.size := by rw [hw2]; simp
  have zw := s1.size
  clear hw2 s1
  have ht0 : ((t : Int) == 0) = false := by simp; omega
  go_wp2_with fail
  refine (ownCopy_any a b 0 n cap X _ (by omega) hnc hac (hX.keep s2)).mono ?_
  rintro e w3 ⟨v3, rfl, own3, s3⟩
  have S3 : w.Since w.heap.size w3 := s2.trans (sinceMono s3 s2.size)
  have bx3 : w3.cell? ⟨w1.heap.size, 0, none⟩ = some (.slice a' t cap') := by rw [s3.cell (a := ⟨w1.heap.size, 0, none⟩) z12]; exact bx2
  have z23 := s3.size
  obtain ⟨a3, g3, c3, rfl, k1, k2, k3, k4, k5, L3, F3⟩ := own_nat own3 (w3.heap.size + 1) (by omega)
  have HTX := hide (tlen_top (nz X) n)
  have HVX := hide (lv_tlen X n)
  have hxl := tlen_le (nz X) n
  obtain ⟨u, hu⟩ : ∃ t, t = tlen (nz X) n := ⟨_, rfl⟩
  rw [← hu] at k1 k5 L3 F3 HTX HVX hxl ⊢
  clear own3 hu s2 s3 bx2
  have bxA : ∀ x, (w3.alloc x).cell? ⟨w1.heap.size, 0, none⟩ = some (.slice a' t cap') := fun x => by rw [World.cell?_alloc_old _ _ _ (by show w1.heap.size ≠ _; omega)]; exact bx3
  have sA : w3.Since w3.heap.size (w3.alloc (.cells #[.slice a3 u c3] 34)) := (World.Since.refl _ _).alloc (Nat.le_refl _) _
  have SA : w.Since w.heap.size (w3.alloc (.cells #[.slice a3 u c3] 34)) := S3.alloc S3.size _
  have cA : (w3.alloc (.cells #[.slice a3 u c3] 34)).cell? ⟨w3.heap.size, 0, none⟩ = some (.slice a3 u c3) := by simp [go_sem]
  have fA : (w3.alloc (.cells #[.slice a3 u c3] 34)).frozen? ⟨w3.heap.size, 0, none⟩ = false := by simp [go_sem]
  have zA : (w3.alloc (.cells #[.slice a3 u c3] 34)).heap.size = w3.heap.size + 1 := by simp
  have LA := L3.keep sA
  have FA : 0 < u → ∀ x, (w3.alloc (.cells #[.slice a3 u c3] 34)).frozen? ⟨g3, x, none⟩ = false := fun h x => by rw [sA.frozen (a := ⟨g3, x, none⟩) (k5 h)]; exact F3 h x
  have YA := (hY.keep SA).take l2
  go_wp2_with fail
  generalize w3.alloc (.cells #[.slice a3 u c3] 34) = wA at *
  refine (divideBy_any w3.heap.size 0 a3 a' g3 u c3 b' t cap' X Y wA (by omega) k1 k2 e0 (by omega) cA fA LA YA (fun j hj => hXl j (by omega)) (fun j hj => hYl j (by omega)) FA (by omega) (fun h => by have := k5 h; omega) (fun h => by have := HTX.out h; simpa [nz] using this) (by have := HTY.out; simpa [nz] using this)).mono ?_
  rintro e w4 ⟨vq, vr, gq, gr, rfl, q1, q2, q3, q4, q5, q6, q7, q8, fr⟩
  rw [HVX.out, HVY.out] at q2 q3
  have S4 : w.Since w.heap.size w4 := fr.to_since SA (by omega) (by omega)
  rw [zA] at q4 q5
  clear fr LA FA YA SA sA S3 L3 F3 cA fA zA bxA bx3 hX hY hXl hYl
  have p2 := hide q2
  have p3 := hide q3
  clear q2 q3
  go_wp2
  go_quiet (fail)
  go_wp2
  go_ret3
  exact ⟨vq, vr, gq, gr, rfl, natAt_mono (p2.out.same ((Same.refl _).drewN _)) (by omega), natAt_mono (p3.out.same ((Same.refl _).drewN _)) (by omega), by omega, by omega, q6, S4.trans (((Same.refl _).drewN _).since _)⟩

end Go.Proofs.Ytigggjcnnlidgaa
