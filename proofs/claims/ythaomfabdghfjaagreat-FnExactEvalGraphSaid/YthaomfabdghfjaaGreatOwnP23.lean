import Derived.Test.YthaomfabdghfjaaGreatOwnP22
set_option maxHeartbeats 6400000
set_option maxRecDepth 100000
namespace Go.Proofs.YthaomfabdghfjaaGreat
open Go.RowKit
theorem markNodeS_own (lo hi c n cap k0 : Nat) (A : Nat -> xq1) (w : World) (hn : n <= 1048576) (hsz : szN A n <= 1048576) (hk0 : k0 <= 288230376151711744) (H : OwnN w lo hi c n A) :
 Calls Tryz.prog 56 #[.slice (some ⟨c, 0, none⟩) n cap, .int .i64 k0] w fun e w' => ∃ k1 : Nat, k1 <= k0 + 5 * n + szN A n * 8388609 /\ e = .returned (.int .i64 (k1 : Int)) /\ Fra w w' (fun k => lo <= k /\ k < hi) := by
 have sp := H.span; obtain ⟨E, ha, hb, hE, hd, ho⟩ := H.ex; have hf := H.f; go_enter Tryz.func56, Tryz.ntmps56; go_wp2
 go_loopw [1, 5] (fun q i wr => ∃ (k Kk : Nat), k <= n /\ i = .int .i64 k /\ q = .int .i64 (Kk : Int) /\ Kk <= k0 + 5 * k + szN A k * 8388609 /\ Fra w wr (fun k => lo <= k /\ k < hi) /\ OwnDs wr c k n E A) (fun _ i _ => n - (intOf i).toNat)
 case atStart => exact ⟨0, k0, Nat.zero_le _, rfl, rfl, by omega, Fra.refl _ _, ho⟩
 case round =>
  obtain ⟨k, Kk, hk, rfl, rfl, hK, hs, ho⟩ := hrel; have m1 := szN_mono (A := A) hk
  by_cases hlt : k < n
  . obtain ⟨v0, v1, v2, v3, v4, g1, r⟩ := ho k (Nat.le_refl _) hlt
    have e0 := r.c0; have e1 := r.c1; have e2 := r.c2; have e3 := r.c3; have e4 := r.c4; have e5 := r.c5; have fz0 : wr.frozen? ⟨c, k * 6, none⟩ = false := by rw [hs.frozen]; exact hf _
    have fz1 : wr.frozen? ⟨c, k * 6 + 1, none⟩ = false := by rw [hs.frozen]; exact hf _
    have fz2 : wr.frozen? ⟨c, k * 6 + 2, none⟩ = false := by rw [hs.frozen]; exact hf _
    have fz3 : wr.frozen? ⟨c, k * 6 + 3, none⟩ = false := by rw [hs.frozen]; exact hf _
    have fz4 : wr.frozen? ⟨c, k * 6 + 4, none⟩ = false := by rw [hs.frozen]; exact hf _
    have p1 := r.U1.span; have b1 : c < E k := Nat.lt_of_lt_of_le hb (xk0 hE (Nat.zero_le _) hk); have m2 := szN_mono (A := A) (show k + 1 <= n by omega); rw [szN_succ] at m2; have m3 : (A k).nv <= (A k).size := by unfold xq1.size; omega
    have q1 := xk0 hE (Nat.zero_le k) hk; have q2 := xk0 hE (i := k + 1) (j := n) (by omega) (Nat.le_refl _); go_wp2_with fail; have M1 : xq0 wr (((((wr.setCell ⟨c, k * 6, none⟩ (.int .i64 (Kk : Int))).setCell ⟨c, k * 6 + 1, none⟩ (.int .i64 ((Kk : Int) + 1))).setCell ⟨c, k * 6 + 2, none⟩ (.int .i64 ((Kk : Int) + 1 + 1))).setCell ⟨c, k * 6 + 3, none⟩ (.int .i64 ((Kk : Int) + 1 + 1 + 1))).setCell ⟨c, k * 6 + 4, none⟩ (.int .i64 ((Kk : Int) + 1 + 1 + 1 + 1))) c := (((((xq0.refl wr c).setCell _ _).setCell _ _).setCell _ _).setCell _ _).setCell _ _
    have d1 : ∀ o, o < k * 6 ∨ k * 6 + 4 < o -> (((((wr.setCell ⟨c, k * 6, none⟩ (.int .i64 (Kk : Int))).setCell ⟨c, k * 6 + 1, none⟩ (.int .i64 ((Kk : Int) + 1))).setCell ⟨c, k * 6 + 2, none⟩ (.int .i64 ((Kk : Int) + 1 + 1))).setCell ⟨c, k * 6 + 3, none⟩ (.int .i64 ((Kk : Int) + 1 + 1 + 1))).setCell ⟨c, k * 6 + 4, none⟩ (.int .i64 ((Kk : Int) + 1 + 1 + 1 + 1))).cell? ⟨c, o, none⟩ = wr.cell? ⟨c, o, none⟩ := fun o h1 => by
     rw [xj0 _ _ (by omega), xj0 _ _ (by omega), xj0 _ _ (by omega), xj0 _ _ (by omega), xj0 _ _ (by omega)]
    generalize (((((wr.setCell ⟨c, k * 6, none⟩ (.int .i64 (Kk : Int))).setCell ⟨c, k * 6 + 1, none⟩ (.int .i64 ((Kk : Int) + 1))).setCell ⟨c, k * 6 + 2, none⟩ (.int .i64 ((Kk : Int) + 1 + 1))).setCell ⟨c, k * 6 + 3, none⟩ (.int .i64 ((Kk : Int) + 1 + 1 + 1))).setCell ⟨c, k * 6 + 4, none⟩ (.int .i64 ((Kk : Int) + 1 + 1 + 1 + 1))) = w1 at *; rw [show ((Kk : Int) + 1 + 1 + 1 + 1 + 1) = ((Kk + 1 + 1 + 1 + 1 + 1 : Nat) : Int) by omega]; refine (yx1 (E k) (E (k + 1)) g1 (A k).nv (A k).nv (Kk + 1 + 1 + 1 + 1 + 1) w1 (by omega) (by omega) (r.U1.frame M1.fr (fun k h1 h2 h3 => by omega))).mono ?_; rintro e w2 ⟨ka, hka, rfl, F2⟩; go_wp2; go_roundw
    case rel =>
     have F : Fra wr w2 (fun x => x = c ∨ E k <= x /\ x < E (k + 1)) :=
      (M1.fr.mono (fun x h0 => .inl h0)).trans (F2.mono (fun x h0 => .inr h0))
     have hcb : ∀ o, o < k * 6 ∨ k * 6 + 4 < o -> w2.cell? ⟨c, o, none⟩ = wr.cell? ⟨c, o, none⟩ := fun o h0 => by
      rw [F2.cell (a := ⟨c, o, none⟩) (fun h0 => by have : E k <= c := h0.1; omega), d1 o h0]
     refine ⟨k + 1, ka, by omega, by go_num, rfl, ?_, hs.trans (F.mono fun x hx => ?_), fun i hi hi' => ?_⟩
     . rw [szN_succ]; omega
     . rcases hx with hx | hx <;> omega
     . obtain ⟨v0', v1', v2', v3', v4', g1', r'⟩ := ho i (by omega) hi'
       have := xk0 hE (i := k + 1) (j := i) (by omega) (by omega); exact ⟨v0', v1', v2', v3', v4', g1', r'.frame F (fun x h1 h2 h3 => by have := hE k hlt; rcases h3 with h3 | h3 <;> omega) (fun o h1 h2 => hcb o (by omega))⟩
    case measure => simp [intOf]; omega
  . have e : k = n := by omega
    subst e; go_wp2; go_ret; exact ⟨Kk, hK, rfl, hs⟩
theorem markGraph_own (lo hi c1 c2 c3 x1 x2 x3 k0 : Nat) (g : xq8) (w : World) (hsz : g.size <= 1048576) (hk0 : k0 <= 1048576) (hh : hi <= w.heap.size) (H : OwnG w lo hi g c1 c2 c3) :
 Calls Tryz.prog 23 #[.agg #[.int .i64 g.inn, .int .i64 g.rounds, .slice (some ⟨c1, 0, none⟩) g.nl x1, .slice (some ⟨c2, 0, none⟩) g.nh x2, .slice (some ⟨c3, 0, none⟩) g.nn x3, .int .i64 g.out], .int .i64 k0] w fun e w' => ∃ k1 : Nat, e = .returned (.int .i64 (k1 : Int)) /\ k1 <= 288230376151711744 /\
  ∃ w1, w.Since w.heap.size w1 /\ Fra w1 w' (fun k => lo <= k /\ k < hi) := by
 have ts := hsz; unfold xq8.size at ts; have sA := sal w (.cells #[.int .i64 g.inn, .int .i64 g.rounds, .slice (some ⟨c1, 0, none⟩) g.nl x1, .slice (some ⟨c2, 0, none⟩) g.nh x2, .slice (some ⟨c3, 0, none⟩) g.nn x3, .int .i64 g.out] 50); have oA := Box6.new w (.int .i64 g.inn) (.int .i64 g.rounds) (.slice (some ⟨c1, 0, none⟩) g.nl x1) (.slice (some ⟨c2, 0, none⟩) g.nh x2) (.slice (some ⟨c3, 0, none⟩) g.nn x3) (.int .i64 g.out) 50; go_enter Tryz.func23, Tryz.ntmps23; go_wp2_with fail; generalize w.alloc (.cells #[.int .i64 g.inn, .int .i64 g.rounds, .slice (some ⟨c1, 0, none⟩) g.nl x1, .slice (some ⟨c2, 0, none⟩) g.nh x2, .slice (some ⟨c3, 0, none⟩) g.nn x3, .int .i64 g.out] 50) = w1 at *; obtain ⟨m1, m2, a1, a2, a3, U1, U2, U3⟩ := (H.keep sA).ex; refine (yx1 lo m1 c1 g.nl x1 k0 w1 (by omega) (by omega) U1).mono ?_; rintro e w2 ⟨k1, h1, rfl, F1⟩; have i3 : w2.cell? ⟨w.heap.size, 3, none⟩ = some (.slice (some ⟨c2, 0, none⟩) g.nh x2) := by rw [F1.cell (a := ⟨w.heap.size, 3, none⟩) (fun h0 => by have : w.heap.size < m1 := h0.2; omega)]; exact oA.c3
 have i4 : w2.cell? ⟨w.heap.size, 4, none⟩ = some (.slice (some ⟨c3, 0, none⟩) g.nn x3) := by rw [F1.cell (a := ⟨w.heap.size, 4, none⟩) (fun h0 => by have : w.heap.size < m1 := h0.2; omega)]; exact oA.c4
 go_wp2_with fail; refine (yx1 m1 m2 c2 g.nh x2 k1 w2 (by omega) (by omega) (U2.frame F1 (fun k h1 h2 h3 => by have := h3.2; omega))).mono ?_; rintro e w3 ⟨k2, h2, rfl, F2⟩; have j4 : w3.cell? ⟨w.heap.size, 4, none⟩ = some (.slice (some ⟨c3, 0, none⟩) g.nn x3) := by rw [F2.cell (a := ⟨w.heap.size, 4, none⟩) (fun h0 => by have : w.heap.size < m2 := h0.2; omega)]; exact i4
 clear i3 i4; go_wp2_with fail; refine (markNodeS_own m2 hi c3 g.nn x3 k2 g.N w3 (by omega) (by omega) (by omega) ((U3.frame F1 (fun k h1 h2 h3 => by have := h3.2; omega)).frame F2 (fun k h1 h2 h3 => by have := h3.2; omega))).mono ?_; rintro e w4 ⟨k3, h3, rfl, F3⟩; go_wp2; go_ret; exact ⟨k3, rfl, by omega, _, sA, ((F1.mono (fun x h0 => ⟨h0.1, by have := h0.2; omega⟩)).trans (F2.mono (fun x h0 => ⟨by have := h0.1; omega, by have := h0.2; omega⟩))).trans (F3.mono (fun x h0 => ⟨by have := h0.1; omega, h0.2⟩))⟩
end Go.Proofs.YthaomfabdghfjaaGreat
