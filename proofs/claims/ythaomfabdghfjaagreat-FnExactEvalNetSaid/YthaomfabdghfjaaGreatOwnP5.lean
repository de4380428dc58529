import Derived.Test.YthaomfabdghfjaaGreatOwnP4
import Derived.Test.YthaomfabdghfjaaGreatG1P3
namespace Go.Proofs.YthaomfabdghfjaaGreat
open Go.RowKit

theorem shapeFits_yes (d : AffD) (a1 a2 : Option Addr) (k1 k2 : Nat) (w : World) (h : d.shape) :
    Calls Tryz.prog 112 #[.agg #[.int .i64 d.rows, .int .i64 d.cols, .slice a1 d.nw k1, .slice a2 d.nb k2]] w fun e w' => e = .returned (.bool true) ∧ w.Since w.heap.size w' :=
  (shapeFits_any d a1 a2 k1 k2 w).mono fun e w' ⟨r, he, hi, hs⟩ => ⟨by rw [he, hi.2 h], hs⟩

theorem shapeFits_no (d : AffD) (a1 a2 : Option Addr) (k1 k2 : Nat) (w : World) (h : ¬ d.shape) :
    Calls Tryz.prog 112 #[.agg #[.int .i64 d.rows, .int .i64 d.cols, .slice a1 d.nw k1, .slice a2 d.nb k2]] w fun e w' => e = .returned (.bool false) ∧ w.Since w.heap.size w' :=
  (shapeFits_any d a1 a2 k1 k2 w).mono fun e w' ⟨r, he, hi, hs⟩ => ⟨by rw [he]; cases r; rfl; exact absurd (hi.1 rfl) h, hs⟩

/-- What chainFits asks. -/
structure ChainP (n : Nat) (A : Nat → AffD) : Prop where
  n0 : 1 ≤ n
  n1 : n ≤ 10000
  shape : ∀ k, k < n → (A k).shape
  chain : ∀ k, k < n → 0 < k → (A k).cols = (A (k - 1)).rows
  sum : sumC A n ≤ 20000

set_option maxHeartbeats 3200000 in
set_option maxRecDepth 100000 in
theorem chainFits_any (a : Option Addr) (lo b off n cap : Nat) (A : Nat → AffD) (w : World) (hn : n ≤ 16777216) (H : Affs w lo a b off n A) :
    Calls Tryz.prog 70 #[.agg #[.slice a n cap]] w fun e w' => ∃ r : Bool, e = .returned (.bool r) ∧ (r = true ↔ ChainP n A) ∧ w.Since w.heap.size w' := by
  have sA : w.Since w.heap.size (w.alloc (.cells #[.slice a n cap] 33)) := (World.Since.refl _ _).alloc (Nat.le_refl _) _
  have bA := Box1.new w (.slice a n cap) 33
  by_cases h0 : (n : Int) < 1
  · have HN := hide (show ¬ ChainP n A from fun p => by have := p.n0; omega)
    go_enter Tryz.func70, Tryz.ntmps70
    go_wp2
    go_ret
    exact ⟨false, rfl, ⟨(fun h => by cases h), fun h => absurd h HN.out⟩, sA⟩
  by_cases h1 : (10000 : Int) < n
  · have HN := hide (show ¬ ChainP n A from fun p => by have := p.n1; omega)
    go_enter Tryz.func70, Tryz.ntmps70
    go_wp2
    go_ret
    exact Or.inl ⟨rfl, HN.out, sA⟩
  go_enter Tryz.func70, Tryz.ntmps70
  go_wp2_with fail
  generalize w.alloc (.cells #[.slice a n cap] 33) = wA at *
  go_loopw [3, 19] (fun q i wr => ∃ k : Nat, k ≤ n ∧ i = .int .i64 k ∧ q = .int .i64 (sumC A k) ∧ wA.Since wA.heap.size wr ∧ (∀ j, j < k → (A j).shape) ∧ (∀ j, j < k → 0 < j → (A j).cols = (A (j - 1)).rows)) (fun _ i _ => n - (intOf i).toNat)
  case atStart => exact ⟨0, Nat.zero_le _, rfl, rfl, World.Since.refl _ _, fun i hi => absurd hi (by omega), fun i hi => absurd hi (by omega)⟩
  case round =>
    obtain ⟨k, hk, rfl, rfl, s, O, C⟩ := hrel
    by_cases hlt : k < n
    · have B1 := bA.keep s
      have b0 := B1.c0
      have S1 : w.Since w.heap.size wr := sA.trans (sinceMono s sA.size)
      obtain ⟨rfl, a1, a2, k1, k2, M⟩ := H k hlt
      have M' := M.keep S1
      have g0 := M'.c0
      have g1 := M'.c1
      have g2 := M'.c2
      have g3 := M'.c3
      have hz : (k : Int) < (n : Int) := by omega
      have t1 : wr.Since wr.heap.size (wr.alloc (.cells #[.int .i64 (A k).rows, .int .i64 (A k).cols, .slice a1 (A k).nw k1, .slice a2 (A k).nb k2] 66)) := (World.Since.refl _ _).alloc (Nat.le_refl _) _
      have cB := Box4.new wr (.int .i64 (A k).rows) (.int .i64 (A k).cols) (.slice a1 (A k).nw k1) (.slice a2 (A k).nb k2) 66
      go_wp2_with fail
      generalize wr.alloc (.cells #[.int .i64 (A k).rows, .int .i64 (A k).cols, .slice a1 (A k).nw k1, .slice a2 (A k).nb k2] 66) = w1 at *
      have S2 : w.Since w.heap.size w1.drew := ⟨(S1.trans (sinceMono t1 S1.size)).os, (S1.trans (sinceMono t1 S1.size)).tape, (S1.trans (sinceMono t1 S1.size)).output, (S1.trans (sinceMono t1 S1.size)).size, (S1.trans (sinceMono t1 S1.size)).block⟩
      have B2 : Box1 w1.drew w.heap.size (.slice (some ⟨b, off, none⟩) n cap) := ⟨(B1.keep t1).c0, (B1.keep t1).f⟩
      have D2 : Box4 w1.drew wr.heap.size (.int .i64 (A k).rows) (.int .i64 (A k).cols) (.slice a1 (A k).nw k1) (.slice a2 (A k).nb k2) := ⟨cB.c0, cB.c1, cB.c2, cB.c3, cB.f⟩
      have p0 := B2.c0
      have d0 := cB.c0
      have d1 := cB.c1
      have d2 := cB.c2
      have d3 := cB.c3
      have d0' := D2.c0
      have d1' := D2.c1
      have d2' := D2.c2
      have d3' := D2.c3
      have sd1 : wA.Since wA.heap.size w1.drew := ⟨(s.trans (sinceMono t1 s.size)).os, (s.trans (sinceMono t1 s.size)).tape, (s.trans (sinceMono t1 s.size)).output, (s.trans (sinceMono t1 s.size)).size, (s.trans (sinceMono t1 s.size)).block⟩
      clear g0 g1 g2 g3 b0
      by_cases hsh : (A k).shape
      rotate_left
      · have HN := hide hsh
        have J1 := shapeFits_no (A k) a1 a2 k1 k2 w1.drew hsh
        clear hsh
        -- REGION A
        refine wp_region_held_drew (S := (fun w' => w'.cell? ⟨wr.heap.size, 0, none⟩ = some (.int .i64 (A k).rows) ∧ w'.cell? ⟨wr.heap.size, 1, none⟩ = some (.int .i64 (A k).cols) ∧ w'.cell? ⟨wr.heap.size, 2, none⟩ = some (.slice a1 (A k).nw k1) ∧ w'.cell? ⟨wr.heap.size, 3, none⟩ = some (.slice a2 (A k).nb k2))) (by kernel_rfl) ?_ (fun hHeld => ?_)
        · go_keep
        refine take_at 0 (some 24) (.agg #[.int .i64 (A k).rows, .int .i64 (A k).cols, .slice a1 (A k).nw k1, .slice a2 (A k).nb k2]) rfl (by kernel_rfl) (by kernel_rfl) (by kernel_rfl) (by kernel_rfl) (fun _ _ _ h => h) (by kernel_rfl) (by assumption) ?_ ?_
        · intro w' hSw
          try dsimp only at hSw
          go_simp
        simp only [Act.put, List.setIfInBounds_toArray, List.set_cons_zero, List.set_cons_succ]
        refine wpAnyH_ready (rs := [1]) (by kernel_rfl) (by simp) ?_
        refine AllReadyH.cons rfl (fun K hK => ?_) AllReadyH.nil
        go_simp
        go_wp2_with (go_at_call 112; with_reducible refine J1.mono ?_; rintro e w3 ⟨rfl, s3⟩)
        have S3 : w.Since w.heap.size w3 := S2.trans (sinceMono s3 S2.size)
        have D3 := D2.keep s3
        have i0 := D3.c0
        have i1 := D3.c1
        have i2 := D3.c2
        have i3 := D3.c3
        refine hK.out _ _ ?_ (fun hHeld2 => ?_)
        · exact ⟨i0, i1, i2, i3⟩
        clear hK K hHeld
        refine take_at 2 (some 26) (.bool true) rfl (by kernel_rfl) (by kernel_rfl) (by kernel_rfl) (by kernel_rfl) (fun _ _ _ h => h) (by kernel_rfl) (by assumption) ?_ ?_
        · intro w' hSw
          clear hSw
          kernel_rfl
        simp only [Act.put, List.setIfInBounds_toArray, List.set_cons_zero, List.set_cons_succ]
        refine take_at 3 (some 27) (.bool true) rfl (by kernel_rfl) (by kernel_rfl) (by kernel_rfl) (by kernel_rfl) (fun _ _ _ h => h) (by kernel_rfl) (by assumption) ?_ ?_
        · intro w' hSw
          clear hSw
          kernel_rfl
        simp only [Act.put, List.setIfInBounds_toArray, List.set_cons_zero, List.set_cons_succ]
        refine skip_at 4 (some 28) rfl (by kernel_rfl) (by kernel_rfl) (by kernel_rfl) (by kernel_rfl) (fun _ _ _ h => h) (by kernel_rfl) (by assumption) ?_
        simp only [Act.put, List.setIfInBounds_toArray, List.set_cons_zero, List.set_cons_succ]
        refine skip_at 5 (some 29) rfl (by kernel_rfl) (by kernel_rfl) (by kernel_rfl) (by kernel_rfl) (fun _ _ _ h => h) (by kernel_rfl) (by assumption) ?_
        simp only [Act.put, List.setIfInBounds_toArray, List.set_cons_zero, List.set_cons_succ]
        refine skip_at 6 (some 30) rfl (by kernel_rfl) (by kernel_rfl) (by kernel_rfl) (by kernel_rfl) (fun _ _ _ h => h) (by kernel_rfl) (by assumption) ?_
        simp only [Act.put, List.setIfInBounds_toArray, List.set_cons_zero, List.set_cons_succ]
        refine skip_at 7 (some 31) rfl (by kernel_rfl) (by kernel_rfl) (by kernel_rfl) (by kernel_rfl) (fun _ _ _ h => h) (by kernel_rfl) (by assumption) ?_
        simp only [Act.put, List.setIfInBounds_toArray, List.set_cons_zero, List.set_cons_succ]
        refine skip_at 8 (some 32) rfl (by kernel_rfl) (by kernel_rfl) (by kernel_rfl) (by kernel_rfl) (fun _ _ _ h => h) (by kernel_rfl) (by assumption) ?_
        simp only [Act.put, List.setIfInBounds_toArray, List.set_cons_zero, List.set_cons_succ]
        refine skip_at 9 (some 33) rfl (by kernel_rfl) (by kernel_rfl) (by kernel_rfl) (by kernel_rfl) (fun _ _ _ h => h) (by kernel_rfl) (by assumption) ?_
        simp only [Act.put, List.setIfInBounds_toArray, List.set_cons_zero, List.set_cons_succ]
        refine skip_at 10 (some 34) rfl (by kernel_rfl) (by kernel_rfl) (by kernel_rfl) (by kernel_rfl) (fun _ _ _ h => h) (by kernel_rfl) (by assumption) ?_
        simp only [Act.put, List.setIfInBounds_toArray, List.set_cons_zero, List.set_cons_succ]
        refine skip_at 11 (some 35) rfl (by kernel_rfl) (by kernel_rfl) (by kernel_rfl) (by kernel_rfl) (fun _ _ _ h => h) (by kernel_rfl) (by assumption) ?_
        simp only [Act.put, List.setIfInBounds_toArray, List.set_cons_zero, List.set_cons_succ]
        refine skip_at 12 (some 36) rfl (by kernel_rfl) (by kernel_rfl) (by kernel_rfl) (by kernel_rfl) (fun _ _ _ h => h) (by kernel_rfl) (by assumption) ?_
        simp only [Act.put, List.setIfInBounds_toArray, List.set_cons_zero, List.set_cons_succ]
        refine skip_at 13 (some 37) rfl (by kernel_rfl) (by kernel_rfl) (by kernel_rfl) (by kernel_rfl) (fun _ _ _ h => h) (by kernel_rfl) (by assumption) ?_
        simp only [Act.put, List.setIfInBounds_toArray, List.set_cons_zero, List.set_cons_succ]
        refine skip_at 14 (some 38) rfl (by kernel_rfl) (by kernel_rfl) (by kernel_rfl) (by kernel_rfl) (fun _ _ _ h => h) (by kernel_rfl) (by assumption) ?_
        simp only [Act.put, List.setIfInBounds_toArray, List.set_cons_zero, List.set_cons_succ]
        refine skip_at 15 (some 39) rfl (by kernel_rfl) (by kernel_rfl) (by kernel_rfl) (by kernel_rfl) (fun _ _ _ h => h) (by kernel_rfl) (by assumption) ?_
        simp only [Act.put, List.setIfInBounds_toArray, List.set_cons_zero, List.set_cons_succ]
        refine skip_at 16 (some 40) rfl (by kernel_rfl) (by kernel_rfl) (by kernel_rfl) (by kernel_rfl) (fun _ _ _ h => h) (by kernel_rfl) (by assumption) ?_
        simp only [Act.put, List.setIfInBounds_toArray, List.set_cons_zero, List.set_cons_succ]
        refine skip_at 17 (some 41) rfl (by kernel_rfl) (by kernel_rfl) (by kernel_rfl) (by kernel_rfl) (fun _ _ _ h => h) (by kernel_rfl) (by assumption) ?_
        simp only [Act.put, List.setIfInBounds_toArray, List.set_cons_zero, List.set_cons_succ]
        refine take_at 18 (some 42) (.bool true) rfl (by kernel_rfl) (by kernel_rfl) (by kernel_rfl) (by kernel_rfl) (fun _ _ _ h => h) (by kernel_rfl) (by assumption) ?_ ?_
        · intro w' hSw
          clear hSw
          kernel_rfl
        simp only [Act.put, List.setIfInBounds_toArray, List.set_cons_zero, List.set_cons_succ]
        refine wpAnyH_done (by kernel_rfl) ?_ _
        all_goals go_wp2
        all_goals go_ret
        all_goals exact ⟨false, rfl, ⟨(fun h => by cases h), fun p => absurd (p.shape k hlt) HN.out⟩, S3⟩
      have HS := hide hsh
      have hb := hsh.1.bounds
      have sb := sumC_bound (A := A) (k := k) O
      have J1 := shapeFits_yes (A k) a1 a2 k1 k2 w1.drew hsh
      clear hsh
      rcases Nat.eq_zero_or_pos k with h00 | hpos
      · have hg : decide ((0 : Int) < k) = false := by simp; omega
        have OO : ∀ j, j < k + 1 → (A j).shape := fun j hj => by
          obtain rfl : j = k := by omega
          exact HS.out
        have CC : ∀ j, j < k + 1 → 0 < j → (A j).cols = (A (j - 1)).rows := fun j hj h => by omega
        have HO := hide (And.intro OO CC)
        have H0 := hide h00
        clear OO CC O C h00
        -- REGION B
        refine wp_region_held_drew (S := (fun w' => w'.cell? ⟨wr.heap.size, 0, none⟩ = some (.int .i64 (A k).rows) ∧ w'.cell? ⟨wr.heap.size, 1, none⟩ = some (.int .i64 (A k).cols) ∧ w'.cell? ⟨wr.heap.size, 2, none⟩ = some (.slice a1 (A k).nw k1) ∧ w'.cell? ⟨wr.heap.size, 3, none⟩ = some (.slice a2 (A k).nb k2))) (by kernel_rfl) ?_ (fun hHeld => ?_)
        · go_keep
        refine take_at 0 (some 24) (.agg #[.int .i64 (A k).rows, .int .i64 (A k).cols, .slice a1 (A k).nw k1, .slice a2 (A k).nb k2]) rfl (by kernel_rfl) (by kernel_rfl) (by kernel_rfl) (by kernel_rfl) (fun _ _ _ h => h) (by kernel_rfl) (by assumption) ?_ ?_
        · intro w' hSw
          try dsimp only at hSw
          go_simp
        simp only [Act.put, List.setIfInBounds_toArray, List.set_cons_zero, List.set_cons_succ]
        refine wpAnyH_ready (rs := [1]) (by kernel_rfl) (by simp) ?_
        refine AllReadyH.cons rfl (fun K hK => ?_) AllReadyH.nil
        go_simp
        go_wp2_with (go_at_call 112; with_reducible refine J1.mono ?_; rintro e w3 ⟨rfl, s3⟩)
        have S3 : w.Since w.heap.size w3 := S2.trans (sinceMono s3 S2.size)
        have D3 := D2.keep s3
        have i0 := D3.c0
        have i1 := D3.c1
        have i2 := D3.c2
        have i3 := D3.c3
        refine hK.out _ _ ?_ (fun hHeld2 => ?_)
        · exact ⟨i0, i1, i2, i3⟩
        clear hK K hHeld
        refine take_at 2 (some 26) (.bool false) rfl (by kernel_rfl) (by kernel_rfl) (by kernel_rfl) (by kernel_rfl) (fun _ _ _ h => h) (by kernel_rfl) (by assumption) ?_ ?_
        · intro w' hSw
          clear hSw
          kernel_rfl
        simp only [Act.put, List.setIfInBounds_toArray, List.set_cons_zero, List.set_cons_succ]
        refine take_at 3 (some 27) (.bool false) rfl (by kernel_rfl) (by kernel_rfl) (by kernel_rfl) (by kernel_rfl) (fun _ _ _ h => h) (by kernel_rfl) (by assumption) ?_ ?_
        · intro w' hSw
          clear hSw
          kernel_rfl
        simp only [Act.put, List.setIfInBounds_toArray, List.set_cons_zero, List.set_cons_succ]
        refine take_at 4 (some 28) (.int .i64 k) rfl (by kernel_rfl) (by kernel_rfl) (by kernel_rfl) (by kernel_rfl) (fun _ _ _ h => h) (by kernel_rfl) (by assumption) ?_ ?_
        · intro w' hSw
          clear hSw
          kernel_rfl
        simp only [Act.put, List.setIfInBounds_toArray, List.set_cons_zero, List.set_cons_succ]
        refine take_at 5 (some 29) (.bool false) rfl (by kernel_rfl) (by kernel_rfl) (by kernel_rfl) (by kernel_rfl) (fun _ _ _ h => h) (by kernel_rfl) (by assumption) ?_ ?_
        · intro w' hSw
          try dsimp only at hSw
          go_simp
          exact H0.out
        simp only [Act.put, List.setIfInBounds_toArray, List.set_cons_zero, List.set_cons_succ]
        refine take_at 6 (some 30) (.bool false) rfl (by kernel_rfl) (by kernel_rfl) (by kernel_rfl) (by kernel_rfl) (fun _ _ _ h => h) (by kernel_rfl) (by assumption) ?_ ?_
        · intro w' hSw
          clear hSw
          kernel_rfl
        simp only [Act.put, List.setIfInBounds_toArray, List.set_cons_zero, List.set_cons_succ]
        refine skip_at 7 (some 31) rfl (by kernel_rfl) (by kernel_rfl) (by kernel_rfl) (by kernel_rfl) (fun _ _ _ h => h) (by kernel_rfl) (by assumption) ?_
        simp only [Act.put, List.setIfInBounds_toArray, List.set_cons_zero, List.set_cons_succ]
        refine skip_at 8 (some 32) rfl (by kernel_rfl) (by kernel_rfl) (by kernel_rfl) (by kernel_rfl) (fun _ _ _ h => h) (by kernel_rfl) (by assumption) ?_
        simp only [Act.put, List.setIfInBounds_toArray, List.set_cons_zero, List.set_cons_succ]
        refine skip_at 9 (some 33) rfl (by kernel_rfl) (by kernel_rfl) (by kernel_rfl) (by kernel_rfl) (fun _ _ _ h => h) (by kernel_rfl) (by assumption) ?_
        simp only [Act.put, List.setIfInBounds_toArray, List.set_cons_zero, List.set_cons_succ]
        refine skip_at 10 (some 34) rfl (by kernel_rfl) (by kernel_rfl) (by kernel_rfl) (by kernel_rfl) (fun _ _ _ h => h) (by kernel_rfl) (by assumption) ?_
        simp only [Act.put, List.setIfInBounds_toArray, List.set_cons_zero, List.set_cons_succ]
        refine skip_at 11 (some 35) rfl (by kernel_rfl) (by kernel_rfl) (by kernel_rfl) (by kernel_rfl) (fun _ _ _ h => h) (by kernel_rfl) (by assumption) ?_
        simp only [Act.put, List.setIfInBounds_toArray, List.set_cons_zero, List.set_cons_succ]
        refine skip_at 12 (some 36) rfl (by kernel_rfl) (by kernel_rfl) (by kernel_rfl) (by kernel_rfl) (fun _ _ _ h => h) (by kernel_rfl) (by assumption) ?_
        simp only [Act.put, List.setIfInBounds_toArray, List.set_cons_zero, List.set_cons_succ]
        refine skip_at 13 (some 37) rfl (by kernel_rfl) (by kernel_rfl) (by kernel_rfl) (by kernel_rfl) (fun _ _ _ h => h) (by kernel_rfl) (by assumption) ?_
        simp only [Act.put, List.setIfInBounds_toArray, List.set_cons_zero, List.set_cons_succ]
        refine skip_at 14 (some 38) rfl (by kernel_rfl) (by kernel_rfl) (by kernel_rfl) (by kernel_rfl) (fun _ _ _ h => h) (by kernel_rfl) (by assumption) ?_
        simp only [Act.put, List.setIfInBounds_toArray, List.set_cons_zero, List.set_cons_succ]
        refine skip_at 15 (some 39) rfl (by kernel_rfl) (by kernel_rfl) (by kernel_rfl) (by kernel_rfl) (fun _ _ _ h => h) (by kernel_rfl) (by assumption) ?_
        simp only [Act.put, List.setIfInBounds_toArray, List.set_cons_zero, List.set_cons_succ]
        refine skip_at 16 (some 40) rfl (by kernel_rfl) (by kernel_rfl) (by kernel_rfl) (by kernel_rfl) (fun _ _ _ h => h) (by kernel_rfl) (by assumption) ?_
        simp only [Act.put, List.setIfInBounds_toArray, List.set_cons_zero, List.set_cons_succ]
        refine take_at 17 (some 41) (.bool false) rfl (by kernel_rfl) (by kernel_rfl) (by kernel_rfl) (by kernel_rfl) (fun _ _ _ h => h) (by kernel_rfl) (by assumption) ?_ ?_
        · intro w' hSw
          clear hSw
          kernel_rfl
        simp only [Act.put, List.setIfInBounds_toArray, List.set_cons_zero, List.set_cons_succ]
        refine take_at 18 (some 42) (.bool false) rfl (by kernel_rfl) (by kernel_rfl) (by kernel_rfl) (by kernel_rfl) (fun _ _ _ h => h) (by kernel_rfl) (by assumption) ?_ ?_
        · intro w' hSw
          clear hSw
          kernel_rfl
        simp only [Act.put, List.setIfInBounds_toArray, List.set_cons_zero, List.set_cons_succ]
        refine wpAnyH_done (by kernel_rfl) ?_ _
        go_wp2_with fail
        refine (cellsOf_any (A k) _ HS.out.1).mono ?_
        rintro e w4 ⟨rfl, rfl⟩
        go_wp2
        go_roundw
        case rel => exact ⟨k + 1, by omega, by go_num, rfl, sd1.trans (sinceMono s3 sd1.size), HO.out.1, HO.out.2⟩
        case measure => simp [intOf]; omega
      · obtain ⟨p, hp⟩ : ∃ p, p = k - 1 := ⟨_, rfl⟩
        have HP := hide hp
        obtain ⟨-, a1', a2', k1', k2', M0⟩ := H p (by omega)
        have e0 := (M0.keep S2).c0
        have hg : (0 : Int) < k := by omega
        have hk1 : IntKind.i64.wrap ((k : Int) - 1) = (p : Int) := by rw [IntKind.wrap_i64]; omega
        have hk2 : (p : Int) < n := by omega
        have hk3 : (k : Int) - 1 = p := by omega
        clear hp
        by_cases hch : (A k).cols = (A p).rows
        · have HC := hide hch
          have q : ((A k).cols != (A p).rows) = false := by simpa using hch
          clear hch
          have OO : ∀ j, j < k + 1 → (A j).shape := fun j hj => by
            by_cases e : j = k
            · subst e; exact HS.out
            · exact O j (by omega)
          have CC : ∀ j, j < k + 1 → 0 < j → (A j).cols = (A (j - 1)).rows := fun j hj h => by
            by_cases e : j = k
            · subst e; rw [← HP.out]; exact HC.out
            · exact C j (by omega) h
          have HO := hide (And.intro OO CC)
          clear OO CC O C
          refine wp_region_held_drew (S := (fun w' => w'.cell? ⟨wr.heap.size, 0, none⟩ = some (.int .i64 (A k).rows) ∧ w'.cell? ⟨wr.heap.size, 1, none⟩ = some (.int .i64 (A k).cols) ∧ w'.cell? ⟨wr.heap.size, 2, none⟩ = some (.slice a1 (A k).nw k1) ∧ w'.cell? ⟨wr.heap.size, 3, none⟩ = some (.slice a2 (A k).nb k2) ∧ w'.cell? ⟨w.heap.size, 0, none⟩ = some (.slice (some ⟨b, off, none⟩) n cap) ∧ w'.cell? ⟨b, off + p * 4, none⟩ = some (.int .i64 (A p).rows))) (by kernel_rfl) ?_ (fun hHeld => ?_)
          · exact ⟨d0', d1', d2', d3', p0, e0⟩
          refine take_at 0 (some 24) (.agg #[.int .i64 (A k).rows, .int .i64 (A k).cols, .slice a1 (A k).nw k1, .slice a2 (A k).nb k2]) rfl (by kernel_rfl) (by kernel_rfl) (by kernel_rfl) (by kernel_rfl) (fun _ _ _ h => h) (by kernel_rfl) (by assumption) ?_ ?_
          · intro w' hSw
            try dsimp only at hSw
            go_simp
          simp only [Act.put, List.setIfInBounds_toArray, List.set_cons_zero, List.set_cons_succ]
          refine wpAnyH_ready (rs := [1]) (by kernel_rfl) (by simp) ?_
          refine AllReadyH.cons rfl (fun K hK => ?_) AllReadyH.nil
          go_simp
          go_wp2_with (go_at_call 112; with_reducible refine J1.mono ?_; rintro e w3 ⟨rfl, s3⟩)
          have S3 : w.Since w.heap.size w3 := S2.trans (sinceMono s3 S2.size)
          have D3 := D2.keep s3
          have i0 := D3.c0
          have i1 := D3.c1
          have i2 := D3.c2
          have i3 := D3.c3
          have i4 := (B2.keep s3).c0
          have i5 := (M0.keep S3).c0
          refine hK.out _ _ ?_ (fun hHeld2 => ?_)
          · exact ⟨i0, i1, i2, i3, i4, i5⟩
          clear hK K hHeld
          refine take_at 2 (some 26) (.bool false) rfl (by kernel_rfl) (by kernel_rfl) (by kernel_rfl) (by kernel_rfl) (fun _ _ _ h => h) (by kernel_rfl) (by assumption) ?_ ?_
          · intro w' hSw
            clear hSw
            kernel_rfl
          simp only [Act.put, List.setIfInBounds_toArray, List.set_cons_zero, List.set_cons_succ]
          refine take_at 3 (some 27) (.bool false) rfl (by kernel_rfl) (by kernel_rfl) (by kernel_rfl) (by kernel_rfl) (fun _ _ _ h => h) (by kernel_rfl) (by assumption) ?_ ?_
          · intro w' hSw
            clear hSw
            kernel_rfl
          simp only [Act.put, List.setIfInBounds_toArray, List.set_cons_zero, List.set_cons_succ]
          refine take_at 4 (some 28) (.int .i64 k) rfl (by kernel_rfl) (by kernel_rfl) (by kernel_rfl) (by kernel_rfl) (fun _ _ _ h => h) (by kernel_rfl) (by assumption) ?_ ?_
          · intro w' hSw
            clear hSw
            kernel_rfl
          simp only [Act.put, List.setIfInBounds_toArray, List.set_cons_zero, List.set_cons_succ]
          refine take_at 5 (some 29) (.bool true) rfl (by kernel_rfl) (by kernel_rfl) (by kernel_rfl) (by kernel_rfl) (fun _ _ _ h => h) (by kernel_rfl) (by assumption) ?_ ?_
          · intro w' hSw
            try dsimp only at hSw
            go_simp
          simp only [Act.put, List.setIfInBounds_toArray, List.set_cons_zero, List.set_cons_succ]
          refine take_at 6 (some 30) (.bool true) rfl (by kernel_rfl) (by kernel_rfl) (by kernel_rfl) (by kernel_rfl) (fun _ _ _ h => h) (by kernel_rfl) (by assumption) ?_ ?_
          · intro w' hSw
            clear hSw
            kernel_rfl
          simp only [Act.put, List.setIfInBounds_toArray, List.set_cons_zero, List.set_cons_succ]
          refine take_at 7 (some 31) (.pointer (some ⟨wr.heap.size, 1, none⟩)) rfl (by kernel_rfl) (by kernel_rfl) (by kernel_rfl) (by kernel_rfl) (fun _ _ _ h => h) (by kernel_rfl) (by assumption) ?_ ?_
          · intro w' hSw
            clear hSw
            kernel_rfl
          simp only [Act.put, List.setIfInBounds_toArray, List.set_cons_zero, List.set_cons_succ]
          refine take_at 8 (some 32) (.int .i64 (A k).cols) rfl (by kernel_rfl) (by kernel_rfl) (by kernel_rfl) (by kernel_rfl) (fun _ _ _ h => h) (by kernel_rfl) (by assumption) ?_ ?_
          · intro w' hSw
            try dsimp only at hSw
            go_simp
          simp only [Act.put, List.setIfInBounds_toArray, List.set_cons_zero, List.set_cons_succ]
          refine take_at 9 (some 33) (.pointer (some ⟨w.heap.size, 0, none⟩)) rfl (by kernel_rfl) (by kernel_rfl) (by kernel_rfl) (by kernel_rfl) (fun _ _ _ h => h) (by kernel_rfl) (by assumption) ?_ ?_
          · intro w' hSw
            clear hSw
            kernel_rfl
          simp only [Act.put, List.setIfInBounds_toArray, List.set_cons_zero, List.set_cons_succ]
          refine take_at 10 (some 34) (.slice (some ⟨b, off, none⟩) n cap) rfl (by kernel_rfl) (by kernel_rfl) (by kernel_rfl) (by kernel_rfl) (fun _ _ _ h => h) (by kernel_rfl) (by assumption) ?_ ?_
          · intro w' hSw
            try dsimp only at hSw
            go_simp
          simp only [Act.put, List.setIfInBounds_toArray, List.set_cons_zero, List.set_cons_succ]
          refine take_at 11 (some 35) (.int .i64 k) rfl (by kernel_rfl) (by kernel_rfl) (by kernel_rfl) (by kernel_rfl) (fun _ _ _ h => h) (by kernel_rfl) (by assumption) ?_ ?_
          · intro w' hSw
            clear hSw
            kernel_rfl
          simp only [Act.put, List.setIfInBounds_toArray, List.set_cons_zero, List.set_cons_succ]
          refine take_at 12 (some 36) (.int .i64 p) rfl (by kernel_rfl) (by kernel_rfl) (by kernel_rfl) (by kernel_rfl) (fun _ _ _ h => h) (by kernel_rfl) (by assumption) ?_ ?_
          · intro w' hSw
            try dsimp only at hSw
            go_simp
            rw [IntKind.wrap_i64]
            omega
          simp only [Act.put, List.setIfInBounds_toArray, List.set_cons_zero, List.set_cons_succ]
          refine take_at 13 (some 37) (.pointer (some ⟨b, off + p * 4, none⟩)) rfl (by kernel_rfl) (by kernel_rfl) (by kernel_rfl) (by kernel_rfl) (fun _ _ _ h => h) (by kernel_rfl) (by assumption) ?_ ?_
          · intro w' hSw
            try dsimp only at hSw
            go_simp
          simp only [Act.put, List.setIfInBounds_toArray, List.set_cons_zero, List.set_cons_succ]
          refine take_at 14 (some 38) (.pointer (some ⟨b, off + p * 4, none⟩)) rfl (by kernel_rfl) (by kernel_rfl) (by kernel_rfl) (by kernel_rfl) (fun _ _ _ h => h) (by kernel_rfl) (by assumption) ?_ ?_
          · intro w' hSw
            clear hSw
            kernel_rfl
          simp only [Act.put, List.setIfInBounds_toArray, List.set_cons_zero, List.set_cons_succ]
          refine take_at 15 (some 39) (.int .i64 (A p).rows) rfl (by kernel_rfl) (by kernel_rfl) (by kernel_rfl) (by kernel_rfl) (fun _ _ _ h => h) (by kernel_rfl) (by assumption) ?_ ?_
          · intro w' hSw
            try dsimp only at hSw
            go_simp
          simp only [Act.put, List.setIfInBounds_toArray, List.set_cons_zero, List.set_cons_succ]
          refine take_at 16 (some 40) (.bool false) rfl (by kernel_rfl) (by kernel_rfl) (by kernel_rfl) (by kernel_rfl) (fun _ _ _ h => h) (by kernel_rfl) (by assumption) ?_ ?_
          · intro w' hSw
            try dsimp only at hSw
            go_simp
          simp only [Act.put, List.setIfInBounds_toArray, List.set_cons_zero, List.set_cons_succ]
          refine take_at 17 (some 41) (.bool false) rfl (by kernel_rfl) (by kernel_rfl) (by kernel_rfl) (by kernel_rfl) (fun _ _ _ h => h) (by kernel_rfl) (by assumption) ?_ ?_
          · intro w' hSw
            clear hSw
            kernel_rfl
          simp only [Act.put, List.setIfInBounds_toArray, List.set_cons_zero, List.set_cons_succ]
          refine take_at 18 (some 42) (.bool false) rfl (by kernel_rfl) (by kernel_rfl) (by kernel_rfl) (by kernel_rfl) (fun _ _ _ h => h) (by kernel_rfl) (by assumption) ?_ ?_
          · intro w' hSw
            clear hSw
            kernel_rfl
          simp only [Act.put, List.setIfInBounds_toArray, List.set_cons_zero, List.set_cons_succ]
          refine wpAnyH_done (by kernel_rfl) ?_ _
          all_goals go_wp2_with fail
          all_goals refine (cellsOf_any (A k) _ HS.out.1).mono ?_
          all_goals rintro e w4 ⟨rfl, rfl⟩
          all_goals go_wp2
          all_goals go_roundw
          case rel => exact ⟨k + 1, by omega, by go_num, rfl, sd1.trans (sinceMono s3 sd1.size), HO.out.1, HO.out.2⟩
          case measure => simp [intOf]; omega
        · have HC := hide hch
          have q : ((A k).cols != (A p).rows) = true := by simpa using hch
          clear hch
          refine wp_region_held_drew (S := (fun w' => w'.cell? ⟨wr.heap.size, 0, none⟩ = some (.int .i64 (A k).rows) ∧ w'.cell? ⟨wr.heap.size, 1, none⟩ = some (.int .i64 (A k).cols) ∧ w'.cell? ⟨wr.heap.size, 2, none⟩ = some (.slice a1 (A k).nw k1) ∧ w'.cell? ⟨wr.heap.size, 3, none⟩ = some (.slice a2 (A k).nb k2) ∧ w'.cell? ⟨w.heap.size, 0, none⟩ = some (.slice (some ⟨b, off, none⟩) n cap) ∧ w'.cell? ⟨b, off + p * 4, none⟩ = some (.int .i64 (A p).rows))) (by kernel_rfl) ?_ (fun hHeld => ?_)
          · exact ⟨d0', d1', d2', d3', p0, e0⟩
          refine take_at 0 (some 24) (.agg #[.int .i64 (A k).rows, .int .i64 (A k).cols, .slice a1 (A k).nw k1, .slice a2 (A k).nb k2]) rfl (by kernel_rfl) (by kernel_rfl) (by kernel_rfl) (by kernel_rfl) (fun _ _ _ h => h) (by kernel_rfl) (by assumption) ?_ ?_
          · intro w' hSw
            try dsimp only at hSw
            go_simp
          simp only [Act.put, List.setIfInBounds_toArray, List.set_cons_zero, List.set_cons_succ]
          refine wpAnyH_ready (rs := [1]) (by kernel_rfl) (by simp) ?_
          refine AllReadyH.cons rfl (fun K hK => ?_) AllReadyH.nil
          go_simp
          go_wp2_with (go_at_call 112; with_reducible refine J1.mono ?_; rintro e w3 ⟨rfl, s3⟩)
          have S3 : w.Since w.heap.size w3 := S2.trans (sinceMono s3 S2.size)
          have D3 := D2.keep s3
          have i0 := D3.c0
          have i1 := D3.c1
          have i2 := D3.c2
          have i3 := D3.c3
          have i4 := (B2.keep s3).c0
          have i5 := (M0.keep S3).c0
          refine hK.out _ _ ?_ (fun hHeld2 => ?_)
          · exact ⟨i0, i1, i2, i3, i4, i5⟩
          clear hK K hHeld
          refine take_at 2 (some 26) (.bool false) rfl (by kernel_rfl) (by kernel_rfl) (by kernel_rfl) (by kernel_rfl) (fun _ _ _ h => h) (by kernel_rfl) (by assumption) ?_ ?_
          · intro w' hSw
            clear hSw
            kernel_rfl
          simp only [Act.put, List.setIfInBounds_toArray, List.set_cons_zero, List.set_cons_succ]
          refine take_at 3 (some 27) (.bool false) rfl (by kernel_rfl) (by kernel_rfl) (by kernel_rfl) (by kernel_rfl) (fun _ _ _ h => h) (by kernel_rfl) (by assumption) ?_ ?_
          · intro w' hSw
            clear hSw
            kernel_rfl
          simp only [Act.put, List.setIfInBounds_toArray, List.set_cons_zero, List.set_cons_succ]
          refine take_at 4 (some 28) (.int .i64 k) rfl (by kernel_rfl) (by kernel_rfl) (by kernel_rfl) (by kernel_rfl) (fun _ _ _ h => h) (by kernel_rfl) (by assumption) ?_ ?_
          · intro w' hSw
            clear hSw
            kernel_rfl
          simp only [Act.put, List.setIfInBounds_toArray, List.set_cons_zero, List.set_cons_succ]
          refine take_at 5 (some 29) (.bool true) rfl (by kernel_rfl) (by kernel_rfl) (by kernel_rfl) (by kernel_rfl) (fun _ _ _ h => h) (by kernel_rfl) (by assumption) ?_ ?_
          · intro w' hSw
            try dsimp only at hSw
            go_simp
          simp only [Act.put, List.setIfInBounds_toArray, List.set_cons_zero, List.set_cons_succ]
          refine take_at 6 (some 30) (.bool true) rfl (by kernel_rfl) (by kernel_rfl) (by kernel_rfl) (by kernel_rfl) (fun _ _ _ h => h) (by kernel_rfl) (by assumption) ?_ ?_
          · intro w' hSw
            clear hSw
            kernel_rfl
          simp only [Act.put, List.setIfInBounds_toArray, List.set_cons_zero, List.set_cons_succ]
          refine take_at 7 (some 31) (.pointer (some ⟨wr.heap.size, 1, none⟩)) rfl (by kernel_rfl) (by kernel_rfl) (by kernel_rfl) (by kernel_rfl) (fun _ _ _ h => h) (by kernel_rfl) (by assumption) ?_ ?_
          · intro w' hSw
            clear hSw
            kernel_rfl
          simp only [Act.put, List.setIfInBounds_toArray, List.set_cons_zero, List.set_cons_succ]
          refine take_at 8 (some 32) (.int .i64 (A k).cols) rfl (by kernel_rfl) (by kernel_rfl) (by kernel_rfl) (by kernel_rfl) (fun _ _ _ h => h) (by kernel_rfl) (by assumption) ?_ ?_
          · intro w' hSw
            try dsimp only at hSw
            go_simp
          simp only [Act.put, List.setIfInBounds_toArray, List.set_cons_zero, List.set_cons_succ]
          refine take_at 9 (some 33) (.pointer (some ⟨w.heap.size, 0, none⟩)) rfl (by kernel_rfl) (by kernel_rfl) (by kernel_rfl) (by kernel_rfl) (fun _ _ _ h => h) (by kernel_rfl) (by assumption) ?_ ?_
          · intro w' hSw
            clear hSw
            kernel_rfl
          simp only [Act.put, List.setIfInBounds_toArray, List.set_cons_zero, List.set_cons_succ]
          refine take_at 10 (some 34) (.slice (some ⟨b, off, none⟩) n cap) rfl (by kernel_rfl) (by kernel_rfl) (by kernel_rfl) (by kernel_rfl) (fun _ _ _ h => h) (by kernel_rfl) (by assumption) ?_ ?_
          · intro w' hSw
            try dsimp only at hSw
            go_simp
          simp only [Act.put, List.setIfInBounds_toArray, List.set_cons_zero, List.set_cons_succ]
          refine take_at 11 (some 35) (.int .i64 k) rfl (by kernel_rfl) (by kernel_rfl) (by kernel_rfl) (by kernel_rfl) (fun _ _ _ h => h) (by kernel_rfl) (by assumption) ?_ ?_
          · intro w' hSw
            clear hSw
            kernel_rfl
          simp only [Act.put, List.setIfInBounds_toArray, List.set_cons_zero, List.set_cons_succ]
          refine take_at 12 (some 36) (.int .i64 p) rfl (by kernel_rfl) (by kernel_rfl) (by kernel_rfl) (by kernel_rfl) (fun _ _ _ h => h) (by kernel_rfl) (by assumption) ?_ ?_
          · intro w' hSw
            try dsimp only at hSw
            go_simp
            rw [IntKind.wrap_i64]
            omega
          simp only [Act.put, List.setIfInBounds_toArray, List.set_cons_zero, List.set_cons_succ]
          refine take_at 13 (some 37) (.pointer (some ⟨b, off + p * 4, none⟩)) rfl (by kernel_rfl) (by kernel_rfl) (by kernel_rfl) (by kernel_rfl) (fun _ _ _ h => h) (by kernel_rfl) (by assumption) ?_ ?_
          · intro w' hSw
            try dsimp only at hSw
            go_simp
          simp only [Act.put, List.setIfInBounds_toArray, List.set_cons_zero, List.set_cons_succ]
          refine take_at 14 (some 38) (.pointer (some ⟨b, off + p * 4, none⟩)) rfl (by kernel_rfl) (by kernel_rfl) (by kernel_rfl) (by kernel_rfl) (fun _ _ _ h => h) (by kernel_rfl) (by assumption) ?_ ?_
          · intro w' hSw
            clear hSw
            kernel_rfl
          simp only [Act.put, List.setIfInBounds_toArray, List.set_cons_zero, List.set_cons_succ]
          refine take_at 15 (some 39) (.int .i64 (A p).rows) rfl (by kernel_rfl) (by kernel_rfl) (by kernel_rfl) (by kernel_rfl) (fun _ _ _ h => h) (by kernel_rfl) (by assumption) ?_ ?_
          · intro w' hSw
            try dsimp only at hSw
            go_simp
          simp only [Act.put, List.setIfInBounds_toArray, List.set_cons_zero, List.set_cons_succ]
          refine take_at 16 (some 40) (.bool true) rfl (by kernel_rfl) (by kernel_rfl) (by kernel_rfl) (by kernel_rfl) (fun _ _ _ h => h) (by kernel_rfl) (by assumption) ?_ ?_
          · intro w' hSw
            try dsimp only at hSw
            go_simp
          simp only [Act.put, List.setIfInBounds_toArray, List.set_cons_zero, List.set_cons_succ]
          refine take_at 17 (some 41) (.bool true) rfl (by kernel_rfl) (by kernel_rfl) (by kernel_rfl) (by kernel_rfl) (fun _ _ _ h => h) (by kernel_rfl) (by assumption) ?_ ?_
          · intro w' hSw
            clear hSw
            kernel_rfl
          simp only [Act.put, List.setIfInBounds_toArray, List.set_cons_zero, List.set_cons_succ]
          refine take_at 18 (some 42) (.bool true) rfl (by kernel_rfl) (by kernel_rfl) (by kernel_rfl) (by kernel_rfl) (fun _ _ _ h => h) (by kernel_rfl) (by assumption) ?_ ?_
          · intro w' hSw
            clear hSw
            kernel_rfl
          simp only [Act.put, List.setIfInBounds_toArray, List.set_cons_zero, List.set_cons_succ]
          refine wpAnyH_done (by kernel_rfl) ?_ _
          all_goals go_wp2
          all_goals go_ret
          all_goals exact ⟨false, rfl, ⟨(fun h => by cases h), fun pc => absurd (pc.chain k hlt hpos) (by rw [← HP.out]; exact HC.out)⟩, S3⟩
    · have S1 : w.Since w.heap.size wr := sA.trans (sinceMono s sA.size)
      have e : k = n := by omega
      subst e
      have HO := hide (And.intro O C)
      clear O C
      by_cases hq : sumC A k ≤ 20000
      · have HQ := hide hq
        go_wp2
        go_ret
        exact ⟨true, by simp, ⟨fun _ => ⟨by omega, by omega, HO.out.1, HO.out.2, HQ.out⟩, fun _ => rfl⟩, S1⟩
      · have HQ := hide hq
        go_wp2
        go_ret
        exact Or.inl ⟨by simp, fun p => absurd p.sum (by have := HQ.out; omega), S1⟩

end Go.Proofs.YthaomfabdghfjaaGreat

namespace Go.Proofs.YthaomfabdghfjaaGreat
open Go.RowKit

theorem netP_iff (n : Nat) (A : Nat → AffD) : NetP n A ↔ ChainP n A ∧ ∀ k, k < n → (A k).vals :=
  ⟨fun h => ⟨⟨h.n0, h.n1, h.shape, h.chain, h.sum⟩, h.vals⟩, fun h => ⟨h.1.n0, h.1.n1, h.1.shape, h.1.chain, h.1.sum, h.2⟩⟩

set_option maxHeartbeats 3200000 in
set_option maxRecDepth 100000 in
theorem implNetOk_any (a : Option Addr) (lo b off n cap : Nat) (A : Nat → AffD) (w : World) (hw : 0 ≤ w.heap.size) (hT : Tab w) (hn : n ≤ 16777216) (hs : szA A n ≤ 16777216) (H : Affs w lo a b off n A) :
    Calls Tryz.prog 35 #[.agg #[.slice a n cap]] w fun e w' => ∃ r : Bool, e = .returned (.bool r) ∧ (r = true ↔ NetP n A) ∧ w.Since w.heap.size w' := by
  have sA : w.Since w.heap.size (w.alloc (.cells #[.slice a n cap] 33)) := (World.Since.refl _ _).alloc (Nat.le_refl _) _
  have bA := Box1.new w (.slice a n cap) 33
  have E := hide (netP_iff n A)
  go_enter Tryz.func35, Tryz.ntmps35
  go_wp2_with fail
  refine (chainFits_any a lo b off n cap A _ hn (H.keep sA)).mono ?_
  rintro e w1 ⟨r1, rfl, i1, s1⟩
  have I1 := hide i1
  have S1 : w.Since w.heap.size w1 := sA.trans (sinceMono s1 sA.size)
  have B1 := bA.keep s1
  have b0 := B1.c0
  clear i1 bA
  cases r1
  · go_wp2
    go_ret
    exact ⟨false, rfl, ⟨(fun h => by cases h), fun p => absurd (I1.out.2 (E.out.1 p).1) (by simp)⟩, S1⟩
  have CP := hide (I1.out.1 (by simp))
  clear I1
  go_wp2_with fail
  go_loopw [11] (fun i wr => ∃ k : Nat, k ≤ n ∧ i = .int .i64 k ∧ w1.Since w1.heap.size wr ∧ (∀ j, j < k → (A j).vals)) (fun i _ => n - (intOf i).toNat)
  case atStart => exact ⟨0, Nat.zero_le _, rfl, World.Since.refl _ _, fun i hi => absurd hi (by omega)⟩
  case round =>
    obtain ⟨k, hk, rfl, s, O⟩ := hrel
    by_cases hlt : k < n
    · have S2 : w.Since w.heap.size wr := S1.trans (sinceMono s S1.size)
      obtain ⟨rfl, a1, a2, k1, k2, M⟩ := H k hlt
      have M' := M.keep S2
      have g0 := M'.c0
      have g1 := M'.c1
      have g2 := M'.c2
      have g3 := M'.c3
      have hz : (k : Int) < (n : Int) := by omega
      have hsz := szA_at (A := A) hlt
      unfold AffD.size at hsz
      have t1 : wr.Since wr.heap.size (wr.alloc (.cells #[.int .i64 (A k).rows, .int .i64 (A k).cols, .slice a1 (A k).nw k1, .slice a2 (A k).nb k2] 66)) := (World.Since.refl _ _).alloc (Nat.le_refl _) _
      have cB := Box4.new wr (.int .i64 (A k).rows) (.int .i64 (A k).cols) (.slice a1 (A k).nw k1) (.slice a2 (A k).nb k2) 66
      go_wp2_with fail
      generalize wr.alloc (.cells #[.int .i64 (A k).rows, .int .i64 (A k).cols, .slice a1 (A k).nw k1, .slice a2 (A k).nb k2] 66) = w2 at *
      have S3 : w.Since w.heap.size w2 := S2.trans (sinceMono t1 S2.size)
      have s3 : w1.Since w1.heap.size w2 := s.trans (sinceMono t1 s.size)
      obtain ⟨ba, oa, -, LW⟩ := (M.L.keep S3).LW
      obtain ⟨bb, ob, -, LB⟩ := (M.L.keep S3).LB
      refine (allValid_any a1 lo ba oa (A k).nw k1 (A k).W w2 (Nat.zero_le _) (hT.keepN hw S3) (by omega) (by omega) LW).mono ?_
      rintro e w3 ⟨r2, rfl, i2, s4⟩
      have I2 := hide i2
      have S4 : w.Since w.heap.size w3 := S3.trans (sinceMono s4 S3.size)
      have d3 := (cB.keep s4).c3
      clear i2 g0 g1 g2 g3
      cases r2
      · go_wp2
        go_ret
        exact ⟨false, rfl, ⟨(fun h => by cases h), fun p => absurd (I2.out.2 (p.vals k hlt).1) (by simp)⟩, S4⟩
      go_wp2_with fail
      refine (allValid_any a2 lo bb ob (A k).nb k2 (A k).B w3 (Nat.zero_le _) (hT.keepN hw S4) (by omega) (by omega) (LB.keep s4)).mono ?_
      rintro e w4 ⟨r3, rfl, i3, s5⟩
      have I3 := hide i3
      have S5 : w.Since w.heap.size w4 := S4.trans (sinceMono s5 S4.size)
      clear i3
      cases r3
      · go_wp2
        go_ret
        exact ⟨false, rfl, ⟨(fun h => by cases h), fun p => absurd (I3.out.2 (p.vals k hlt).2) (by simp)⟩, S5⟩
      go_wp2
      go_roundw
      case rel =>
        refine ⟨k + 1, by omega, by go_num, (s3.trans (sinceMono s4 s3.size)).trans (sinceMono s5 (Nat.le_trans s3.size s4.size)), fun j hj => ?_⟩
        by_cases e : j = k
        · subst e; exact ⟨I2.out.1 (by simp), I3.out.1 (by simp)⟩
        · exact O j (by omega)
      case measure => simp [intOf]; omega
    · have S2 : w.Since w.heap.size wr := S1.trans (sinceMono s S1.size)
      have e : k = n := by omega
      subst e
      have HO := hide O
      clear O
      go_wp2
      go_ret
      exact ⟨true, rfl, ⟨fun _ => E.out.2 ⟨CP.out, HO.out⟩, fun _ => rfl⟩, S2⟩

end Go.Proofs.YthaomfabdghfjaaGreat

namespace Go.Proofs.YthaomfabdghfjaaGreat
open Go.RowKit

set_option maxHeartbeats 3200000 in
set_option maxRecDepth 100000 in
theorem specNetOk_any (a : Option Addr) (lo b off n cap : Nat) (A : Nat → AffD) (w : World) (hn : n ≤ 16777216) (hs : szA A n ≤ 16777216) (H : Affs w lo a b off n A) :
    Calls Tryz.prog 30 #[.agg #[.slice a n cap]] w fun e w' => ∃ r : Bool, e = .returned (.bool r) ∧ (r = true ↔ NetP n A) ∧ w.Since w.heap.size w' := by
  have sA : w.Since w.heap.size (w.alloc (.cells #[.slice a n cap] 33)) := (World.Since.refl _ _).alloc (Nat.le_refl _) _
  have bA := Box1.new w (.slice a n cap) 33
  by_cases h : (1 : Int) ≤ n ∧ (n : Int) ≤ 10000
  rotate_left
  · have HN := hide (show ¬ NetP n A from fun p => by have := p.n0; have := p.n1; omega)
    go_enter Tryz.func30, Tryz.ntmps30
    go_wp2_with fail
    refine (l2In_no n 1 10000 _ h).mono ?_
    rintro e w1 ⟨rfl, rfl⟩
    clear h
    go_wp2
    go_ret
    exact ⟨false, rfl, ⟨(fun h => by cases h), fun h => absurd h HN.out⟩, sA⟩
  obtain ⟨h0, h1⟩ := h
  go_enter Tryz.func30, Tryz.ntmps30
  go_wp2_with fail
  refine (l2In_yes n 1 10000 _ h0 h1).mono ?_
  rintro e w1 ⟨rfl, rfl⟩
  generalize w.alloc (.cells #[.slice a n cap] 33) = wA at *
  go_wp2
  go_loopw [3, 4] (fun q i wr => ∃ k : Nat, k ≤ n ∧ i = .int .i64 k ∧ q = .int .i64 (sumC A k) ∧ wA.Since wA.heap.size wr ∧ (∀ j, j < k → (A j).shape ∧ (A j).vals) ∧ (∀ j, j < k → 0 < j → (A j).cols = (A (j - 1)).rows)) (fun _ i _ => n - (intOf i).toNat)
  case atStart => exact ⟨0, Nat.zero_le _, rfl, rfl, World.Since.refl _ _, fun i hi => absurd hi (by omega), fun i hi => absurd hi (by omega)⟩
  case round =>
    obtain ⟨k, hk, rfl, rfl, s, O, C⟩ := hrel
    have B1 := bA.keep s
    have b0 := B1.c0
    have S1 : w.Since w.heap.size wr := sA.trans (sinceMono s sA.size)
    by_cases hlt : k < n
    · obtain ⟨rfl, a1, a2, k1, k2, M⟩ := H k hlt
      have M' := M.keep S1
      have g0 := M'.c0
      have g1 := M'.c1
      have g2 := M'.c2
      have g3 := M'.c3
      have hz : (k : Int) < (n : Int) := by omega
      have hsz := szA_at (A := A) hlt
      go_wp2_with fail
      refine (l3MapOk_any (A k) a1 a2 lo k1 k2 wr (by omega) M'.L).mono ?_
      rintro e w2 ⟨r1, rfl, i1, s2⟩
      have I1 := hide i1
      clear i1 g0 g1 g2 g3 b0
      have S2 : w.Since w.heap.size w2 := S1.trans (sinceMono s2 S1.size)
      cases r1
      · go_wp2
        go_ret
        exact ⟨false, rfl, ⟨(fun h => by cases h), fun p => absurd (I1.out.2 ⟨p.shape k hlt, p.cells hlt, p.vals k hlt⟩) (by simp)⟩, S2⟩
      have hq := hide (I1.out.1 (by simp))
      have hb := hq.out.1.1.bounds
      have sb := sumC_bound (A := A) (k := k) (fun j hj => (O j hj).1)
      have M2 := M.keep S2
      have g0 := M2.c0
      have g1 := M2.c1
      have g2 := M2.c2
      have g3 := M2.c3
      have b0 := (B1.keep s2).c0
      clear I1
      rcases Nat.eq_zero_or_pos k with h00 | hpos
      · subst h00
        simp only [Nat.zero_mul, Nat.add_zero] at g0 g1 g2 g3
        have OO : ∀ j, j < 0 + 1 → (A j).shape ∧ (A j).vals := fun j hj => by
          obtain rfl : j = 0 := by omega
          exact ⟨hq.out.1, hq.out.2.2⟩
        have CC : ∀ j, j < 0 + 1 → 0 < j → (A j).cols = (A (j - 1)).rows := fun j hj h => by omega
        have HO := hide (And.intro OO CC)
        clear OO CC O C
        have sd : ∀ q w', (w2.drewN q).Since (w2.drewN q).heap.size w' → wA.Since wA.heap.size w' := fun q w' s3 => (s.trans (sinceMono s2 s.size)).trans (((Same.refl w2).drewN q |>.since _).trans (sinceMono s3 (Nat.le_trans s.size s2.size)))
        go_wp2_with fail
        go_quiet (fail)
        go_wp2_with fail
        refine (l3Cells_any (A 0) _ _ _ hq.out.1.1).mono ?_
        rintro e w3 ⟨rfl, s3⟩
        have s4 := sd _ _ s3
        clear sd s3
        go_wp2
        go_roundw
        case rel => exact ⟨0 + 1, by omega, rfl, rfl, s4, HO.out.1, HO.out.2⟩
        case measure => simp [intOf]; omega
      · obtain ⟨-, a1', a2', k1', k2', M0⟩ := H (k - 1) (by omega)
        have M0' := M0.keep S2
        have e0 := M0'.c0
        have hg : (0 : Int) < k := by omega
        have hk1 : (k : Int) - 1 = ((k - 1 : Nat) : Int) := by omega
        by_cases hch : (A k).cols = (A (k - 1)).rows
        · have HC := hide hch
          have q : ((A k).cols != (A (k - 1)).rows) = false := by simpa using hch
          clear hch
          have OO : ∀ j, j < k + 1 → (A j).shape ∧ (A j).vals := fun j hj => by
            by_cases e : j = k
            · subst e; exact ⟨hq.out.1, hq.out.2.2⟩
            · exact O j (by omega)
          have CC : ∀ j, j < k + 1 → 0 < j → (A j).cols = (A (j - 1)).rows := fun j hj h => by
            by_cases e : j = k
            · subst e; exact HC.out
            · exact C j (by omega) h
          have HO := hide (And.intro OO CC)
          clear OO CC O C
          have sd : ∀ q w', (w2.drewN q).Since (w2.drewN q).heap.size w' → wA.Since wA.heap.size w' := fun q w' s3 => (s.trans (sinceMono s2 s.size)).trans (((Same.refl w2).drewN q |>.since _).trans (sinceMono s3 (Nat.le_trans s.size s2.size)))
          go_wp2_with fail
          go_quiet (fail)
          go_wp2_with fail
          refine (l3Cells_any (A k) _ _ _ hq.out.1.1).mono ?_
          rintro e w3 ⟨rfl, s3⟩
          have s4 := sd _ _ s3
          clear sd s3
          go_wp2
          go_roundw
          case rel => exact ⟨k + 1, by omega, by go_num, rfl, s4, HO.out.1, HO.out.2⟩
          case measure => simp [intOf]; omega
        · have HC := hide hch
          have q : ((A k).cols != (A (k - 1)).rows) = true := by simpa using hch
          clear hch
          have sd : ∀ q, w.Since w.heap.size (w2.drewN q) := fun q => S2.trans ((Same.refl w2).drewN q |>.since _)
          go_wp2_with fail
          go_quiet (fail)
          go_wp2
          go_ret
          exact ⟨false, rfl, ⟨(fun h => by cases h), fun p => absurd (p.chain k hlt hpos) HC.out⟩, sd _⟩
    · have e : k = n := by omega
      subst e
      have HO := hide (And.intro O C)
      clear O C
      by_cases hq : sumC A k ≤ 20000
      · have HQ := hide hq
        go_wp2
        go_ret
        exact ⟨true, by simp, ⟨fun _ => ⟨by omega, by omega, fun j hj => (HO.out.1 j hj).1, HO.out.2, HQ.out, fun j hj => (HO.out.1 j hj).2⟩, fun _ => rfl⟩, S1⟩
      · have HQ := hide hq
        go_wp2
        go_ret
        exact Or.inl ⟨by simp, fun p => absurd p.sum (by have := HQ.out; omega), S1⟩

end Go.Proofs.YthaomfabdghfjaaGreat

namespace Go.Proofs.YthaomfabdghfjaaGreat
open Go.RowKit

end Go.Proofs.YthaomfabdghfjaaGreat
