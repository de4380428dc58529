import Derived.Test.YtlpabmcebpppfaaGreatDoorOwnP20
namespace Go.Proofs.YtlpabmcebpppfaaGreatDoor
open Go.RowKit

set_option maxHeartbeats 6400000 in
set_option maxRecDepth 100000 in
theorem l2FormOk2 (v1 v2 v3 v4 : Int) (nv : Nat) (V : Nat → RatD) (a1 : Option Addr) (lo k1 : Nat) (w : World) (hd : (NodeD.mk 2 v1 v2 v3 v4 nv V).size ≤ 1048576) (H : NodL w lo (NodeD.mk 2 v1 v2 v3 v4 nv V) a1 k1) :
    Calls Tryz.prog 103 #[.agg #[.int .i64 2, .int .i64 v1, .int .i64 v2, .int .i64 v3, .int .i64 v4, .slice a1 nv k1]] w fun e w' => BoolRet e (NodeD.mk 2 v1 v2 v3 v4 nv V).Form ∧ w.Since w.heap.size w' := by
  have ts : nv + szR V nv ≤ 1048576 := hd
  have sA : w.Since w.heap.size (w.alloc (.cells #[.int .i64 2, .int .i64 v1, .int .i64 v2, .int .i64 v3, .int .i64 v4, .slice a1 nv k1] 56)) := (World.Since.refl _ _).alloc (Nat.le_refl _) _
  have nA := Box6.new w (.int .i64 2) (.int .i64 v1) (.int .i64 v2) (.int .i64 v3) (.int .i64 v4) (.slice a1 nv k1) 56
  obtain ⟨bV, oV, -, LV⟩ := (H.keep sA).LV
  go_enter Tryz.func103, Tryz.ntmps103
  go_wp2_with fail
  generalize w.alloc (.cells #[.int .i64 2, .int .i64 v1, .int .i64 v2, .int .i64 v3, .int .i64 v4, .slice a1 nv k1] 56) = wA at *
  refine (l2In_any 2 1 7 wA).mono ?_
  rintro e w1 ⟨⟨r, rfl, hr⟩, hw1⟩
  have hw2 := hw1.symm
  clear hw1
  subst hw2
  cases r
  · exfalso
    have := hr.2 (by unfold InP; omega)
    cases this
  clear hr
  have q0 := nA.c0
  have q1 := nA.c1
  have q2 := nA.c2
  have q3 := nA.c3
  have q4 := nA.c4
  have q5 := nA.c5
  have NN : wA.Since wA.heap.size wA.drew := (World.Since.refl _ _).drew
  have nD := nA.keep NN
  have p0 := nD.c0
  have p1 := nD.c1
  have p2 := nD.c2
  have p3 := nD.c3
  have p4 := nD.c4
  have p5 := nD.c5
  have SD := sA.trans (sinceMono NN sA.size)
  have JK := l2UsesK_eq 2 false wA.drew (by decide)
  have JS := l2UsesS_eq 2 false wA.drew (by decide)
  by_cases hk : v3 = 0
  case neg =>
    have kq : (v3 != 0) = true := by simp [hk]
    have NF := hide (show ¬ (NodeD.mk 2 v1 v2 v3 v4 nv V).Form from fun f => by have h := f.k; have h2 : v3 = 0 := h; omega)
    clear hk
    go_wp2_with fail
    refine wp_region_held_drew (S := fun w' => w'.cell? ⟨w.heap.size, 0, none⟩ = some (.int .i64 2) ∧ w'.cell? ⟨w.heap.size, 3, none⟩ = some (.int .i64 v3)) (by kernel_rfl) ⟨p0, p3⟩ (fun hHeld => ?_)
    refine take_at 0 (some 7) (.pointer (some ⟨w.heap.size, 0, none⟩)) rfl (by kernel_rfl) (by kernel_rfl) (by kernel_rfl) (by kernel_rfl) (fun _ _ _ h => h) (by kernel_rfl) (by assumption) ?_ ?_
    · intro w' hSw
      clear hSw
      kernel_rfl
    simp only [Act.put, List.setIfInBounds_toArray, List.set_cons_zero, List.set_cons_succ]
    refine take_at 1 (some 8) (.int .i64 2) rfl (by kernel_rfl) (by kernel_rfl) (by kernel_rfl) (by kernel_rfl) (fun _ _ _ h => h) (by kernel_rfl) (by assumption) ?_ ?_
    · intro w' hSw
      try dsimp only at hSw
      go_simp
    simp only [Act.put, List.setIfInBounds_toArray, List.set_cons_zero, List.set_cons_succ]
    refine take_at 3 (some 10) (.pointer (some ⟨w.heap.size, 3, none⟩)) rfl (by kernel_rfl) (by kernel_rfl) (by kernel_rfl) (by kernel_rfl) (fun _ _ _ h => h) (by kernel_rfl) (by assumption) ?_ ?_
    · intro w' hSw
      clear hSw
      kernel_rfl
    simp only [Act.put, List.setIfInBounds_toArray, List.set_cons_zero, List.set_cons_succ]
    refine take_at 4 (some 11) (.int .i64 v3) rfl (by kernel_rfl) (by kernel_rfl) (by kernel_rfl) (by kernel_rfl) (fun _ _ _ h => h) (by kernel_rfl) (by assumption) ?_ ?_
    · intro w' hSw
      try dsimp only at hSw
      go_simp
    simp only [Act.put, List.setIfInBounds_toArray, List.set_cons_zero, List.set_cons_succ]
    refine take_at 5 (some 12) (.bool true) rfl (by kernel_rfl) (by kernel_rfl) (by kernel_rfl) (by kernel_rfl) (fun _ _ _ h => h) (by kernel_rfl) (by assumption) ?_ ?_
    · intro w' hSw
      try dsimp only at hSw
      go_simp
    simp only [Act.put, List.setIfInBounds_toArray, List.set_cons_zero, List.set_cons_succ]
    refine wpAnyH_ready (rs := [2]) (by kernel_rfl) (by simp) ?_
    refine AllReadyH.cons rfl (fun K hK => ?_) AllReadyH.nil
    go_simp
    go_wp2_with (go_at_call 131; with_reducible refine JK.mono ?_; rintro e w2 ⟨rfl, rfl⟩)
    refine hK.out _ _ ⟨p0, p3⟩ (fun h1 => ?_)
    clear hK K hHeld
    refine take_at 6 (some 13) (.bool true) rfl (by kernel_rfl) (by kernel_rfl) (by kernel_rfl) (by kernel_rfl) (fun _ _ _ h => h) (by kernel_rfl) (by assumption) ?_ ?_
    · intro w' hSw
      clear hSw
      kernel_rfl
    simp only [Act.put, List.setIfInBounds_toArray, List.set_cons_zero, List.set_cons_succ]
    refine take_at 7 (some 14) (.bool true) rfl (by kernel_rfl) (by kernel_rfl) (by kernel_rfl) (by kernel_rfl) (fun _ _ _ h => h) (by kernel_rfl) (by assumption) ?_ ?_
    · intro w' hSw
      clear hSw
      kernel_rfl
    simp only [Act.put, List.setIfInBounds_toArray, List.set_cons_zero, List.set_cons_succ]
    refine skip_at 8 (some 15) rfl (by kernel_rfl) (by kernel_rfl) (by kernel_rfl) (by kernel_rfl) (fun _ _ _ h => h) (by kernel_rfl) (by assumption) ?_
    simp only [Act.put, List.setIfInBounds_toArray, List.set_cons_zero, List.set_cons_succ]
    refine skip_at 9 (some 16) rfl (by kernel_rfl) (by kernel_rfl) (by kernel_rfl) (by kernel_rfl) (fun _ _ _ h => h) (by kernel_rfl) (by assumption) ?_
    simp only [Act.put, List.setIfInBounds_toArray, List.set_cons_zero, List.set_cons_succ]
    refine skip_at 10 (some 17) rfl (by kernel_rfl) (by kernel_rfl) (by kernel_rfl) (by kernel_rfl) (fun _ _ _ h => h) (by kernel_rfl) (by assumption) ?_
    simp only [Act.put, List.setIfInBounds_toArray, List.set_cons_zero, List.set_cons_succ]
    refine skip_at 11 (some 18) rfl (by kernel_rfl) (by kernel_rfl) (by kernel_rfl) (by kernel_rfl) (fun _ _ _ h => h) (by kernel_rfl) (by assumption) ?_
    simp only [Act.put, List.setIfInBounds_toArray, List.set_cons_zero, List.set_cons_succ]
    refine skip_at 12 (some 19) rfl (by kernel_rfl) (by kernel_rfl) (by kernel_rfl) (by kernel_rfl) (fun _ _ _ h => h) (by kernel_rfl) (by assumption) ?_
    simp only [Act.put, List.setIfInBounds_toArray, List.set_cons_zero, List.set_cons_succ]
    refine skip_at 13 (some 20) rfl (by kernel_rfl) (by kernel_rfl) (by kernel_rfl) (by kernel_rfl) (fun _ _ _ h => h) (by kernel_rfl) (by assumption) ?_
    simp only [Act.put, List.setIfInBounds_toArray, List.set_cons_zero, List.set_cons_succ]
    refine skip_at 14 (some 21) rfl (by kernel_rfl) (by kernel_rfl) (by kernel_rfl) (by kernel_rfl) (fun _ _ _ h => h) (by kernel_rfl) (by assumption) ?_
    simp only [Act.put, List.setIfInBounds_toArray, List.set_cons_zero, List.set_cons_succ]
    refine take_at 15 (some 22) (.bool true) rfl (by kernel_rfl) (by kernel_rfl) (by kernel_rfl) (by kernel_rfl) (fun _ _ _ h => h) (by kernel_rfl) (by assumption) ?_ ?_
    · intro w' hSw
      clear hSw
      kernel_rfl
    simp only [Act.put, List.setIfInBounds_toArray, List.set_cons_zero, List.set_cons_succ]
    refine wpAnyH_done (by kernel_rfl) ?_ _
    go_wp2
    go_ret
    exact ⟨⟨false, rfl, by simp only [Bool.false_eq_true, false_iff]; exact NF.out⟩, SD⟩
  have kq : (v3 != 0) = false := by simp [hk]
  have HK0 := hide hk
  clear hk
  by_cases hs : v4 = 0
  case neg =>
    have sq : (v4 != 0) = true := by simp [hs]
    have NF := hide (show ¬ (NodeD.mk 2 v1 v2 v3 v4 nv V).Form from fun f => by have h := f.s; have h2 : v4 = 0 := h; omega)
    clear hs
    go_wp2_with fail
    go_region_held3 (fun w' => w'.cell? ⟨w.heap.size, 0, none⟩ = some (.int .i64 2) ∧ w'.cell? ⟨w.heap.size, 3, none⟩ = some (.int .i64 v3) ∧ w'.cell? ⟨w.heap.size, 4, none⟩ = some (.int .i64 v4)) (go_keep)
      (first
        | (go_at_call 131
           with_reducible refine JK.mono ?_
           rintro e w2 ⟨rfl, rfl⟩)
        | (go_at_call 132
           with_reducible refine JS.mono ?_
           rintro e w2 ⟨rfl, rfl⟩))
    go_wp2
    go_ret
    exact ⟨⟨false, rfl, by simp only [Bool.false_eq_true, false_iff]; exact NF.out⟩, SD⟩
  have sq : (v4 != 0) = false := by simp [hs]
  have HS0 := hide hs
  clear hs
  go_wp2_with fail
  go_region_held3 (fun w' => w'.cell? ⟨w.heap.size, 0, none⟩ = some (.int .i64 2) ∧ w'.cell? ⟨w.heap.size, 3, none⟩ = some (.int .i64 v3) ∧ w'.cell? ⟨w.heap.size, 4, none⟩ = some (.int .i64 v4)) (go_keep)
    (first
      | (go_at_call 131
         with_reducible refine JK.mono ?_
         rintro e w2 ⟨rfl, rfl⟩)
      | (go_at_call 132
         with_reducible refine JS.mono ?_
         rintro e w2 ⟨rfl, rfl⟩))
  clear q0 q1 q2 q3 q4 q5 JK JS
  go_wp2_with fail
  refine (l2In_any v3 0 1000 wA.drew).mono ?_
  rintro e w2 ⟨⟨r, rfl, hr⟩, rfl⟩
  cases r
  · have NF := hide (show ¬ (NodeD.mk 2 v1 v2 v3 v4 nv V).Form from fun f => by
      have h := f.k
      have h3 : InP v3 0 1000 := by unfold InP; have h2 : v3 = 0 := h; omega
      have := hr.2 h3
      cases this)
    clear hr
    go_wp2
    go_ret
    exact ⟨⟨false, rfl, by simp only [Bool.false_eq_true, false_iff]; exact NF.out⟩, SD⟩
  have IK := hide (hr.1 rfl)
  clear hr
  go_wp2_with fail
  refine (l2In_any v4 0 1000 wA.drew).mono ?_
  rintro e w2 ⟨⟨r, rfl, hr⟩, rfl⟩
  cases r
  · have NF := hide (show ¬ (NodeD.mk 2 v1 v2 v3 v4 nv V).Form from fun f => by
      have h := f.s
      have h3 : InP v4 0 1000 := by unfold InP; have h2 : v4 = 0 := h; omega
      have := hr.2 h3
      cases this)
    clear hr
    go_wp2
    go_ret
    exact ⟨⟨false, rfl, by simp only [Bool.false_eq_true, false_iff]; exact NF.out⟩, SD⟩
  have IS := hide (hr.1 rfl)
  clear hr
  have JB := l2UsesB_eq 2 false wA.drew (by decide)
  go_wp2_with fail
  refine JB.mono ?_
  rintro e w2 ⟨rfl, rfl⟩
  clear JB
  by_cases hb : v2 = 0
  case neg =>
    have bq : (v2 != 0) = true := by simp [hb]
    have NF := hide (show ¬ (NodeD.mk 2 v1 v2 v3 v4 nv V).Form from fun f => hb (f.b rfl))
    clear hb
    go_wp2
    go_ret
    exact ⟨⟨false, rfl, by simp only [Bool.false_eq_true, false_iff]; exact NF.out⟩, SD⟩
  have bq : (v2 != 0) = false := by simp [hb]
  have HB0 := hide hb
  clear hb
  have JV := l2UsesV_eq 2 false wA.drew (by decide)
  go_wp2_with fail
  refine JV.mono ?_
  rintro e w2 ⟨rfl, rfl⟩
  clear JV
  by_cases hv : nv = 0
  case neg =>
    have vq : ((nv : Int) != 0) = true := by simp; omega
    have NF := hide (show ¬ (NodeD.mk 2 v1 v2 v3 v4 nv V).Form from fun f => hv (f.v rfl))
    clear hv
    go_wp2
    go_ret
    exact ⟨⟨false, rfl, by simp only [Bool.false_eq_true, false_iff]; exact NF.out⟩, SD⟩
  have vq : ((nv : Int) != 0) = false := by simp; omega
  have HV0 := hide hv
  clear hv
  have JA := l1AllOk_any a1 lo bV oV nv k1 V wA.drew (by omega) (by omega) (LV.keep NN)
  go_wp2_with fail
  refine JA.mono ?_
  rintro e w3 ⟨r, rfl, hr, s3⟩
  have HR := hide hr
  clear hr
  go_wp2
  go_ret
  exact ⟨⟨r, rfl, HR.out.trans ⟨fun h => ⟨(show (1 : Int) ≤ 2 by decide), (show (2 : Int) ≤ 7 by decide), HK0.out, HS0.out, fun _ => HB0.out, fun _ => HV0.out, fun h => (by cases h), fun h => (by cases h), h⟩, fun f => f.ok⟩⟩, SD.trans (sinceMono s3 SD.size)⟩

set_option maxHeartbeats 6400000 in
set_option maxRecDepth 100000 in
theorem l2FormOk3 (v1 v2 v3 v4 : Int) (nv : Nat) (V : Nat → RatD) (a1 : Option Addr) (lo k1 : Nat) (w : World) (hd : (NodeD.mk 3 v1 v2 v3 v4 nv V).size ≤ 1048576) (H : NodL w lo (NodeD.mk 3 v1 v2 v3 v4 nv V) a1 k1) :
    Calls Tryz.prog 103 #[.agg #[.int .i64 3, .int .i64 v1, .int .i64 v2, .int .i64 v3, .int .i64 v4, .slice a1 nv k1]] w fun e w' => BoolRet e (NodeD.mk 3 v1 v2 v3 v4 nv V).Form ∧ w.Since w.heap.size w' := by
  have ts : nv + szR V nv ≤ 1048576 := hd
  have sA : w.Since w.heap.size (w.alloc (.cells #[.int .i64 3, .int .i64 v1, .int .i64 v2, .int .i64 v3, .int .i64 v4, .slice a1 nv k1] 56)) := (World.Since.refl _ _).alloc (Nat.le_refl _) _
  have nA := Box6.new w (.int .i64 3) (.int .i64 v1) (.int .i64 v2) (.int .i64 v3) (.int .i64 v4) (.slice a1 nv k1) 56
  obtain ⟨bV, oV, -, LV⟩ := (H.keep sA).LV
  go_enter Tryz.func103, Tryz.ntmps103
  go_wp2_with fail
  generalize w.alloc (.cells #[.int .i64 3, .int .i64 v1, .int .i64 v2, .int .i64 v3, .int .i64 v4, .slice a1 nv k1] 56) = wA at *
  refine (l2In_any 3 1 7 wA).mono ?_
  rintro e w1 ⟨⟨r, rfl, hr⟩, hw1⟩
  have hw2 := hw1.symm
  clear hw1
  subst hw2
  cases r
  · exfalso
    have := hr.2 (by unfold InP; omega)
    cases this
  clear hr
  have q0 := nA.c0
  have q1 := nA.c1
  have q2 := nA.c2
  have q3 := nA.c3
  have q4 := nA.c4
  have q5 := nA.c5
  have NN : wA.Since wA.heap.size wA.drew := (World.Since.refl _ _).drew
  have nD := nA.keep NN
  have p0 := nD.c0
  have p1 := nD.c1
  have p2 := nD.c2
  have p3 := nD.c3
  have p4 := nD.c4
  have p5 := nD.c5
  have SD := sA.trans (sinceMono NN sA.size)
  have JK := l2UsesK_eq 3 false wA.drew (by decide)
  have JS := l2UsesS_eq 3 false wA.drew (by decide)
  by_cases hk : v3 = 0
  case neg =>
    have kq : (v3 != 0) = true := by simp [hk]
    have NF := hide (show ¬ (NodeD.mk 3 v1 v2 v3 v4 nv V).Form from fun f => by have h := f.k; have h2 : v3 = 0 := h; omega)
    clear hk
    go_wp2_with fail
    refine wp_region_held_drew (S := fun w' => w'.cell? ⟨w.heap.size, 0, none⟩ = some (.int .i64 3) ∧ w'.cell? ⟨w.heap.size, 3, none⟩ = some (.int .i64 v3)) (by kernel_rfl) ⟨p0, p3⟩ (fun hHeld => ?_)
    refine take_at 0 (some 7) (.pointer (some ⟨w.heap.size, 0, none⟩)) rfl (by kernel_rfl) (by kernel_rfl) (by kernel_rfl) (by kernel_rfl) (fun _ _ _ h => h) (by kernel_rfl) (by assumption) ?_ ?_
    · intro w' hSw
      clear hSw
      kernel_rfl
    simp only [Act.put, List.setIfInBounds_toArray, List.set_cons_zero, List.set_cons_succ]
    refine take_at 1 (some 8) (.int .i64 3) rfl (by kernel_rfl) (by kernel_rfl) (by kernel_rfl) (by kernel_rfl) (fun _ _ _ h => h) (by kernel_rfl) (by assumption) ?_ ?_
    · intro w' hSw
      try dsimp only at hSw
      go_simp
    simp only [Act.put, List.setIfInBounds_toArray, List.set_cons_zero, List.set_cons_succ]
    refine take_at 3 (some 10) (.pointer (some ⟨w.heap.size, 3, none⟩)) rfl (by kernel_rfl) (by kernel_rfl) (by kernel_rfl) (by kernel_rfl) (fun _ _ _ h => h) (by kernel_rfl) (by assumption) ?_ ?_
    · intro w' hSw
      clear hSw
      kernel_rfl
    simp only [Act.put, List.setIfInBounds_toArray, List.set_cons_zero, List.set_cons_succ]
    refine take_at 4 (some 11) (.int .i64 v3) rfl (by kernel_rfl) (by kernel_rfl) (by kernel_rfl) (by kernel_rfl) (fun _ _ _ h => h) (by kernel_rfl) (by assumption) ?_ ?_
    · intro w' hSw
      try dsimp only at hSw
      go_simp
    simp only [Act.put, List.setIfInBounds_toArray, List.set_cons_zero, List.set_cons_succ]
    refine take_at 5 (some 12) (.bool true) rfl (by kernel_rfl) (by kernel_rfl) (by kernel_rfl) (by kernel_rfl) (fun _ _ _ h => h) (by kernel_rfl) (by assumption) ?_ ?_
    · intro w' hSw
      try dsimp only at hSw
      go_simp
    simp only [Act.put, List.setIfInBounds_toArray, List.set_cons_zero, List.set_cons_succ]
    refine wpAnyH_ready (rs := [2]) (by kernel_rfl) (by simp) ?_
    refine AllReadyH.cons rfl (fun K hK => ?_) AllReadyH.nil
    go_simp
    go_wp2_with (go_at_call 131; with_reducible refine JK.mono ?_; rintro e w2 ⟨rfl, rfl⟩)
    refine hK.out _ _ ⟨p0, p3⟩ (fun h1 => ?_)
    clear hK K hHeld
    refine take_at 6 (some 13) (.bool true) rfl (by kernel_rfl) (by kernel_rfl) (by kernel_rfl) (by kernel_rfl) (fun _ _ _ h => h) (by kernel_rfl) (by assumption) ?_ ?_
    · intro w' hSw
      clear hSw
      kernel_rfl
    simp only [Act.put, List.setIfInBounds_toArray, List.set_cons_zero, List.set_cons_succ]
    refine take_at 7 (some 14) (.bool true) rfl (by kernel_rfl) (by kernel_rfl) (by kernel_rfl) (by kernel_rfl) (fun _ _ _ h => h) (by kernel_rfl) (by assumption) ?_ ?_
    · intro w' hSw
      clear hSw
      kernel_rfl
    simp only [Act.put, List.setIfInBounds_toArray, List.set_cons_zero, List.set_cons_succ]
    refine skip_at 8 (some 15) rfl (by kernel_rfl) (by kernel_rfl) (by kernel_rfl) (by kernel_rfl) (fun _ _ _ h => h) (by kernel_rfl) (by assumption) ?_
    simp only [Act.put, List.setIfInBounds_toArray, List.set_cons_zero, List.set_cons_succ]
    refine skip_at 9 (some 16) rfl (by kernel_rfl) (by kernel_rfl) (by kernel_rfl) (by kernel_rfl) (fun _ _ _ h => h) (by kernel_rfl) (by assumption) ?_
    simp only [Act.put, List.setIfInBounds_toArray, List.set_cons_zero, List.set_cons_succ]
    refine skip_at 10 (some 17) rfl (by kernel_rfl) (by kernel_rfl) (by kernel_rfl) (by kernel_rfl) (fun _ _ _ h => h) (by kernel_rfl) (by assumption) ?_
    simp only [Act.put, List.setIfInBounds_toArray, List.set_cons_zero, List.set_cons_succ]
    refine skip_at 11 (some 18) rfl (by kernel_rfl) (by kernel_rfl) (by kernel_rfl) (by kernel_rfl) (fun _ _ _ h => h) (by kernel_rfl) (by assumption) ?_
    simp only [Act.put, List.setIfInBounds_toArray, List.set_cons_zero, List.set_cons_succ]
    refine skip_at 12 (some 19) rfl (by kernel_rfl) (by kernel_rfl) (by kernel_rfl) (by kernel_rfl) (fun _ _ _ h => h) (by kernel_rfl) (by assumption) ?_
    simp only [Act.put, List.setIfInBounds_toArray, List.set_cons_zero, List.set_cons_succ]
    refine skip_at 13 (some 20) rfl (by kernel_rfl) (by kernel_rfl) (by kernel_rfl) (by kernel_rfl) (fun _ _ _ h => h) (by kernel_rfl) (by assumption) ?_
    simp only [Act.put, List.setIfInBounds_toArray, List.set_cons_zero, List.set_cons_succ]
    refine skip_at 14 (some 21) rfl (by kernel_rfl) (by kernel_rfl) (by kernel_rfl) (by kernel_rfl) (fun _ _ _ h => h) (by kernel_rfl) (by assumption) ?_
    simp only [Act.put, List.setIfInBounds_toArray, List.set_cons_zero, List.set_cons_succ]
    refine take_at 15 (some 22) (.bool true) rfl (by kernel_rfl) (by kernel_rfl) (by kernel_rfl) (by kernel_rfl) (fun _ _ _ h => h) (by kernel_rfl) (by assumption) ?_ ?_
    · intro w' hSw
      clear hSw
      kernel_rfl
    simp only [Act.put, List.setIfInBounds_toArray, List.set_cons_zero, List.set_cons_succ]
    refine wpAnyH_done (by kernel_rfl) ?_ _
    go_wp2
    go_ret
    exact ⟨⟨false, rfl, by simp only [Bool.false_eq_true, false_iff]; exact NF.out⟩, SD⟩
  have kq : (v3 != 0) = false := by simp [hk]
  have HK0 := hide hk
  clear hk
  by_cases hs : v4 = 0
  case neg =>
    have sq : (v4 != 0) = true := by simp [hs]
    have NF := hide (show ¬ (NodeD.mk 3 v1 v2 v3 v4 nv V).Form from fun f => by have h := f.s; have h2 : v4 = 0 := h; omega)
    clear hs
    go_wp2_with fail
    go_region_held3 (fun w' => w'.cell? ⟨w.heap.size, 0, none⟩ = some (.int .i64 3) ∧ w'.cell? ⟨w.heap.size, 3, none⟩ = some (.int .i64 v3) ∧ w'.cell? ⟨w.heap.size, 4, none⟩ = some (.int .i64 v4)) (go_keep)
      (first
        | (go_at_call 131
           with_reducible refine JK.mono ?_
           rintro e w2 ⟨rfl, rfl⟩)
        | (go_at_call 132
           with_reducible refine JS.mono ?_
           rintro e w2 ⟨rfl, rfl⟩))
    go_wp2
    go_ret
    exact ⟨⟨false, rfl, by simp only [Bool.false_eq_true, false_iff]; exact NF.out⟩, SD⟩
  have sq : (v4 != 0) = false := by simp [hs]
  have HS0 := hide hs
  clear hs
  go_wp2_with fail
  go_region_held3 (fun w' => w'.cell? ⟨w.heap.size, 0, none⟩ = some (.int .i64 3) ∧ w'.cell? ⟨w.heap.size, 3, none⟩ = some (.int .i64 v3) ∧ w'.cell? ⟨w.heap.size, 4, none⟩ = some (.int .i64 v4)) (go_keep)
    (first
      | (go_at_call 131
         with_reducible refine JK.mono ?_
         rintro e w2 ⟨rfl, rfl⟩)
      | (go_at_call 132
         with_reducible refine JS.mono ?_
         rintro e w2 ⟨rfl, rfl⟩))
  clear q0 q1 q2 q3 q4 q5 JK JS
  go_wp2_with fail
  refine (l2In_any v3 0 1000 wA.drew).mono ?_
  rintro e w2 ⟨⟨r, rfl, hr⟩, rfl⟩
  cases r
  · have NF := hide (show ¬ (NodeD.mk 3 v1 v2 v3 v4 nv V).Form from fun f => by
      have h := f.k
      have h3 : InP v3 0 1000 := by unfold InP; have h2 : v3 = 0 := h; omega
      have := hr.2 h3
      cases this)
    clear hr
    go_wp2
    go_ret
    exact ⟨⟨false, rfl, by simp only [Bool.false_eq_true, false_iff]; exact NF.out⟩, SD⟩
  have IK := hide (hr.1 rfl)
  clear hr
  go_wp2_with fail
  refine (l2In_any v4 0 1000 wA.drew).mono ?_
  rintro e w2 ⟨⟨r, rfl, hr⟩, rfl⟩
  cases r
  · have NF := hide (show ¬ (NodeD.mk 3 v1 v2 v3 v4 nv V).Form from fun f => by
      have h := f.s
      have h3 : InP v4 0 1000 := by unfold InP; have h2 : v4 = 0 := h; omega
      have := hr.2 h3
      cases this)
    clear hr
    go_wp2
    go_ret
    exact ⟨⟨false, rfl, by simp only [Bool.false_eq_true, false_iff]; exact NF.out⟩, SD⟩
  have IS := hide (hr.1 rfl)
  clear hr
  have JB := l2UsesB_eq 3 false wA.drew (by decide)
  go_wp2_with fail
  refine JB.mono ?_
  rintro e w2 ⟨rfl, rfl⟩
  clear JB
  by_cases hb : v2 = 0
  case neg =>
    have bq : (v2 != 0) = true := by simp [hb]
    have NF := hide (show ¬ (NodeD.mk 3 v1 v2 v3 v4 nv V).Form from fun f => hb (f.b rfl))
    clear hb
    go_wp2
    go_ret
    exact ⟨⟨false, rfl, by simp only [Bool.false_eq_true, false_iff]; exact NF.out⟩, SD⟩
  have bq : (v2 != 0) = false := by simp [hb]
  have HB0 := hide hb
  clear hb
  have JV := l2UsesV_eq 3 true wA.drew (by decide)
  go_wp2_with fail
  refine JV.mono ?_
  rintro e w2 ⟨rfl, rfl⟩
  clear JV
  by_cases hv : nv = 1
  case neg =>
    have vq : ((nv : Int) != 1) = true := by simp; omega
    have NF := hide (show ¬ (NodeD.mk 3 v1 v2 v3 v4 nv V).Form from fun f => hv (f.v3 rfl))
    clear hv
    go_wp2
    go_ret
    exact ⟨⟨false, rfl, by simp only [Bool.false_eq_true, false_iff]; exact NF.out⟩, SD⟩
  have vq : ((nv : Int) != 1) = false := by simp; omega
  have HV0 := hide hv
  clear hv
  have JA := l1AllOk_any a1 lo bV oV nv k1 V wA.drew (by omega) (by omega) (LV.keep NN)
  go_wp2_with fail
  refine JA.mono ?_
  rintro e w3 ⟨r, rfl, hr, s3⟩
  have HR := hide hr
  clear hr
  go_wp2
  go_ret
  exact ⟨⟨r, rfl, HR.out.trans ⟨fun h => ⟨(show (1 : Int) ≤ 3 by decide), (show (3 : Int) ≤ 7 by decide), HK0.out, HS0.out, fun _ => HB0.out, fun h => (by cases h), fun _ => HV0.out, fun h => (by cases h), h⟩, fun f => f.ok⟩⟩, SD.trans (sinceMono s3 SD.size)⟩

end Go.Proofs.YtlpabmcebpppfaaGreatDoor

namespace Go.Proofs.YtlpabmcebpppfaaGreatDoor
open Go.RowKit

set_option maxHeartbeats 6400000 in
set_option maxRecDepth 100000 in
theorem l2FormOk4 (v1 v2 v3 v4 : Int) (nv : Nat) (V : Nat → RatD) (a1 : Option Addr) (lo k1 : Nat) (w : World) (hd : (NodeD.mk 4 v1 v2 v3 v4 nv V).size ≤ 1048576) (H : NodL w lo (NodeD.mk 4 v1 v2 v3 v4 nv V) a1 k1) :
    Calls Tryz.prog 103 #[.agg #[.int .i64 4, .int .i64 v1, .int .i64 v2, .int .i64 v3, .int .i64 v4, .slice a1 nv k1]] w fun e w' => BoolRet e (NodeD.mk 4 v1 v2 v3 v4 nv V).Form ∧ w.Since w.heap.size w' := by
  have ts : nv + szR V nv ≤ 1048576 := hd
  have sA : w.Since w.heap.size (w.alloc (.cells #[.int .i64 4, .int .i64 v1, .int .i64 v2, .int .i64 v3, .int .i64 v4, .slice a1 nv k1] 56)) := (World.Since.refl _ _).alloc (Nat.le_refl _) _
  have nA := Box6.new w (.int .i64 4) (.int .i64 v1) (.int .i64 v2) (.int .i64 v3) (.int .i64 v4) (.slice a1 nv k1) 56
  obtain ⟨bV, oV, -, LV⟩ := (H.keep sA).LV
  go_enter Tryz.func103, Tryz.ntmps103
  go_wp2_with fail
  generalize w.alloc (.cells #[.int .i64 4, .int .i64 v1, .int .i64 v2, .int .i64 v3, .int .i64 v4, .slice a1 nv k1] 56) = wA at *
  refine (l2In_any 4 1 7 wA).mono ?_
  rintro e w1 ⟨⟨r, rfl, hr⟩, hw1⟩
  have hw2 := hw1.symm
  clear hw1
  subst hw2
  cases r
  · exfalso
    have := hr.2 (by unfold InP; omega)
    cases this
  clear hr
  have q0 := nA.c0
  have q1 := nA.c1
  have q2 := nA.c2
  have q3 := nA.c3
  have q4 := nA.c4
  have q5 := nA.c5
  have NN : wA.Since wA.heap.size wA.drew := (World.Since.refl _ _).drew
  have nD := nA.keep NN
  have p0 := nD.c0
  have p1 := nD.c1
  have p2 := nD.c2
  have p3 := nD.c3
  have p4 := nD.c4
  have p5 := nD.c5
  have SD := sA.trans (sinceMono NN sA.size)
  have JK := l2UsesK_eq 4 false wA.drew (by decide)
  have JS := l2UsesS_eq 4 false wA.drew (by decide)
  by_cases hk : v3 = 0
  case neg =>
    have kq : (v3 != 0) = true := by simp [hk]
    have NF := hide (show ¬ (NodeD.mk 4 v1 v2 v3 v4 nv V).Form from fun f => by have h := f.k; have h2 : v3 = 0 := h; omega)
    clear hk
    go_wp2_with fail
    refine wp_region_held_drew (S := fun w' => w'.cell? ⟨w.heap.size, 0, none⟩ = some (.int .i64 4) ∧ w'.cell? ⟨w.heap.size, 3, none⟩ = some (.int .i64 v3)) (by kernel_rfl) ⟨p0, p3⟩ (fun hHeld => ?_)
    refine take_at 0 (some 7) (.pointer (some ⟨w.heap.size, 0, none⟩)) rfl (by kernel_rfl) (by kernel_rfl) (by kernel_rfl) (by kernel_rfl) (fun _ _ _ h => h) (by kernel_rfl) (by assumption) ?_ ?_
    · intro w' hSw
      clear hSw
      kernel_rfl
    simp only [Act.put, List.setIfInBounds_toArray, List.set_cons_zero, List.set_cons_succ]
    refine take_at 1 (some 8) (.int .i64 4) rfl (by kernel_rfl) (by kernel_rfl) (by kernel_rfl) (by kernel_rfl) (fun _ _ _ h => h) (by kernel_rfl) (by assumption) ?_ ?_
    · intro w' hSw
      try dsimp only at hSw
      go_simp
    simp only [Act.put, List.setIfInBounds_toArray, List.set_cons_zero, List.set_cons_succ]
    refine take_at 3 (some 10) (.pointer (some ⟨w.heap.size, 3, none⟩)) rfl (by kernel_rfl) (by kernel_rfl) (by kernel_rfl) (by kernel_rfl) (fun _ _ _ h => h) (by kernel_rfl) (by assumption) ?_ ?_
    · intro w' hSw
      clear hSw
      kernel_rfl
    simp only [Act.put, List.setIfInBounds_toArray, List.set_cons_zero, List.set_cons_succ]
    refine take_at 4 (some 11) (.int .i64 v3) rfl (by kernel_rfl) (by kernel_rfl) (by kernel_rfl) (by kernel_rfl) (fun _ _ _ h => h) (by kernel_rfl) (by assumption) ?_ ?_
    · intro w' hSw
      try dsimp only at hSw
      go_simp
    simp only [Act.put, List.setIfInBounds_toArray, List.set_cons_zero, List.set_cons_succ]
    refine take_at 5 (some 12) (.bool true) rfl (by kernel_rfl) (by kernel_rfl) (by kernel_rfl) (by kernel_rfl) (fun _ _ _ h => h) (by kernel_rfl) (by assumption) ?_ ?_
    · intro w' hSw
      try dsimp only at hSw
      go_simp
    simp only [Act.put, List.setIfInBounds_toArray, List.set_cons_zero, List.set_cons_succ]
    refine wpAnyH_ready (rs := [2]) (by kernel_rfl) (by simp) ?_
    refine AllReadyH.cons rfl (fun K hK => ?_) AllReadyH.nil
    go_simp
    go_wp2_with (go_at_call 131; with_reducible refine JK.mono ?_; rintro e w2 ⟨rfl, rfl⟩)
    refine hK.out _ _ ⟨p0, p3⟩ (fun h1 => ?_)
    clear hK K hHeld
    refine take_at 6 (some 13) (.bool true) rfl (by kernel_rfl) (by kernel_rfl) (by kernel_rfl) (by kernel_rfl) (fun _ _ _ h => h) (by kernel_rfl) (by assumption) ?_ ?_
    · intro w' hSw
      clear hSw
      kernel_rfl
    simp only [Act.put, List.setIfInBounds_toArray, List.set_cons_zero, List.set_cons_succ]
    refine take_at 7 (some 14) (.bool true) rfl (by kernel_rfl) (by kernel_rfl) (by kernel_rfl) (by kernel_rfl) (fun _ _ _ h => h) (by kernel_rfl) (by assumption) ?_ ?_
    · intro w' hSw
      clear hSw
      kernel_rfl
    simp only [Act.put, List.setIfInBounds_toArray, List.set_cons_zero, List.set_cons_succ]
    refine skip_at 8 (some 15) rfl (by kernel_rfl) (by kernel_rfl) (by kernel_rfl) (by kernel_rfl) (fun _ _ _ h => h) (by kernel_rfl) (by assumption) ?_
    simp only [Act.put, List.setIfInBounds_toArray, List.set_cons_zero, List.set_cons_succ]
    refine skip_at 9 (some 16) rfl (by kernel_rfl) (by kernel_rfl) (by kernel_rfl) (by kernel_rfl) (fun _ _ _ h => h) (by kernel_rfl) (by assumption) ?_
    simp only [Act.put, List.setIfInBounds_toArray, List.set_cons_zero, List.set_cons_succ]
    refine skip_at 10 (some 17) rfl (by kernel_rfl) (by kernel_rfl) (by kernel_rfl) (by kernel_rfl) (fun _ _ _ h => h) (by kernel_rfl) (by assumption) ?_
    simp only [Act.put, List.setIfInBounds_toArray, List.set_cons_zero, List.set_cons_succ]
    refine skip_at 11 (some 18) rfl (by kernel_rfl) (by kernel_rfl) (by kernel_rfl) (by kernel_rfl) (fun _ _ _ h => h) (by kernel_rfl) (by assumption) ?_
    simp only [Act.put, List.setIfInBounds_toArray, List.set_cons_zero, List.set_cons_succ]
    refine skip_at 12 (some 19) rfl (by kernel_rfl) (by kernel_rfl) (by kernel_rfl) (by kernel_rfl) (fun _ _ _ h => h) (by kernel_rfl) (by assumption) ?_
    simp only [Act.put, List.setIfInBounds_toArray, List.set_cons_zero, List.set_cons_succ]
    refine skip_at 13 (some 20) rfl (by kernel_rfl) (by kernel_rfl) (by kernel_rfl) (by kernel_rfl) (fun _ _ _ h => h) (by kernel_rfl) (by assumption) ?_
    simp only [Act.put, List.setIfInBounds_toArray, List.set_cons_zero, List.set_cons_succ]
    refine skip_at 14 (some 21) rfl (by kernel_rfl) (by kernel_rfl) (by kernel_rfl) (by kernel_rfl) (fun _ _ _ h => h) (by kernel_rfl) (by assumption) ?_
    simp only [Act.put, List.setIfInBounds_toArray, List.set_cons_zero, List.set_cons_succ]
    refine take_at 15 (some 22) (.bool true) rfl (by kernel_rfl) (by kernel_rfl) (by kernel_rfl) (by kernel_rfl) (fun _ _ _ h => h) (by kernel_rfl) (by assumption) ?_ ?_
    · intro w' hSw
      clear hSw
      kernel_rfl
    simp only [Act.put, List.setIfInBounds_toArray, List.set_cons_zero, List.set_cons_succ]
    refine wpAnyH_done (by kernel_rfl) ?_ _
    go_wp2
    go_ret
    exact ⟨⟨false, rfl, by simp only [Bool.false_eq_true, false_iff]; exact NF.out⟩, SD⟩
  have kq : (v3 != 0) = false := by simp [hk]
  have HK0 := hide hk
  clear hk
  by_cases hs : v4 = 0
  case neg =>
    have sq : (v4 != 0) = true := by simp [hs]
    have NF := hide (show ¬ (NodeD.mk 4 v1 v2 v3 v4 nv V).Form from fun f => by have h := f.s; have h2 : v4 = 0 := h; omega)
    clear hs
    go_wp2_with fail
    go_region_held3 (fun w' => w'.cell? ⟨w.heap.size, 0, none⟩ = some (.int .i64 4) ∧ w'.cell? ⟨w.heap.size, 3, none⟩ = some (.int .i64 v3) ∧ w'.cell? ⟨w.heap.size, 4, none⟩ = some (.int .i64 v4)) (go_keep)
      (first
        | (go_at_call 131
           with_reducible refine JK.mono ?_
           rintro e w2 ⟨rfl, rfl⟩)
        | (go_at_call 132
           with_reducible refine JS.mono ?_
           rintro e w2 ⟨rfl, rfl⟩))
    go_wp2
    go_ret
    exact ⟨⟨false, rfl, by simp only [Bool.false_eq_true, false_iff]; exact NF.out⟩, SD⟩
  have sq : (v4 != 0) = false := by simp [hs]
  have HS0 := hide hs
  clear hs
  go_wp2_with fail
  go_region_held3 (fun w' => w'.cell? ⟨w.heap.size, 0, none⟩ = some (.int .i64 4) ∧ w'.cell? ⟨w.heap.size, 3, none⟩ = some (.int .i64 v3) ∧ w'.cell? ⟨w.heap.size, 4, none⟩ = some (.int .i64 v4)) (go_keep)
    (first
      | (go_at_call 131
         with_reducible refine JK.mono ?_
         rintro e w2 ⟨rfl, rfl⟩)
      | (go_at_call 132
         with_reducible refine JS.mono ?_
         rintro e w2 ⟨rfl, rfl⟩))
  clear q0 q1 q2 q3 q4 q5 JK JS
  go_wp2_with fail
  refine (l2In_any v3 0 1000 wA.drew).mono ?_
  rintro e w2 ⟨⟨r, rfl, hr⟩, rfl⟩
  cases r
  · have NF := hide (show ¬ (NodeD.mk 4 v1 v2 v3 v4 nv V).Form from fun f => by
      have h := f.k
      have h3 : InP v3 0 1000 := by unfold InP; have h2 : v3 = 0 := h; omega
      have := hr.2 h3
      cases this)
    clear hr
    go_wp2
    go_ret
    exact ⟨⟨false, rfl, by simp only [Bool.false_eq_true, false_iff]; exact NF.out⟩, SD⟩
  have IK := hide (hr.1 rfl)
  clear hr
  go_wp2_with fail
  refine (l2In_any v4 0 1000 wA.drew).mono ?_
  rintro e w2 ⟨⟨r, rfl, hr⟩, rfl⟩
  cases r
  · have NF := hide (show ¬ (NodeD.mk 4 v1 v2 v3 v4 nv V).Form from fun f => by
      have h := f.s
      have h3 : InP v4 0 1000 := by unfold InP; have h2 : v4 = 0 := h; omega
      have := hr.2 h3
      cases this)
    clear hr
    go_wp2
    go_ret
    exact ⟨⟨false, rfl, by simp only [Bool.false_eq_true, false_iff]; exact NF.out⟩, SD⟩
  have IS := hide (hr.1 rfl)
  clear hr
  have JB := l2UsesB_eq 4 true wA.drew (by decide)
  go_wp2_with fail
  refine JB.mono ?_
  rintro e w2 ⟨rfl, rfl⟩
  clear JB
  have JV := l2UsesV_eq 4 false wA.drew (by decide)
  go_wp2_with fail
  refine JV.mono ?_
  rintro e w2 ⟨rfl, rfl⟩
  clear JV
  by_cases hv : nv = 0
  case neg =>
    have vq : ((nv : Int) != 0) = true := by simp; omega
    have NF := hide (show ¬ (NodeD.mk 4 v1 v2 v3 v4 nv V).Form from fun f => hv (f.v rfl))
    clear hv
    go_wp2
    go_ret
    exact ⟨⟨false, rfl, by simp only [Bool.false_eq_true, false_iff]; exact NF.out⟩, SD⟩
  have vq : ((nv : Int) != 0) = false := by simp; omega
  have HV0 := hide hv
  clear hv
  have JA := l1AllOk_any a1 lo bV oV nv k1 V wA.drew (by omega) (by omega) (LV.keep NN)
  go_wp2_with fail
  refine JA.mono ?_
  rintro e w3 ⟨r, rfl, hr, s3⟩
  have HR := hide hr
  clear hr
  go_wp2
  go_ret
  exact ⟨⟨r, rfl, HR.out.trans ⟨fun h => ⟨(show (1 : Int) ≤ 4 by decide), (show (4 : Int) ≤ 7 by decide), HK0.out, HS0.out, fun h => (by cases h), fun _ => HV0.out, fun h => (by cases h), fun h => (by cases h), h⟩, fun f => f.ok⟩⟩, SD.trans (sinceMono s3 SD.size)⟩

set_option maxHeartbeats 6400000 in
set_option maxRecDepth 100000 in
theorem l2FormOk5 (v1 v2 v3 v4 : Int) (nv : Nat) (V : Nat → RatD) (a1 : Option Addr) (lo k1 : Nat) (w : World) (hd : (NodeD.mk 5 v1 v2 v3 v4 nv V).size ≤ 1048576) (H : NodL w lo (NodeD.mk 5 v1 v2 v3 v4 nv V) a1 k1) :
    Calls Tryz.prog 103 #[.agg #[.int .i64 5, .int .i64 v1, .int .i64 v2, .int .i64 v3, .int .i64 v4, .slice a1 nv k1]] w fun e w' => BoolRet e (NodeD.mk 5 v1 v2 v3 v4 nv V).Form ∧ w.Since w.heap.size w' := by
  have ts : nv + szR V nv ≤ 1048576 := hd
  have sA : w.Since w.heap.size (w.alloc (.cells #[.int .i64 5, .int .i64 v1, .int .i64 v2, .int .i64 v3, .int .i64 v4, .slice a1 nv k1] 56)) := (World.Since.refl _ _).alloc (Nat.le_refl _) _
  have nA := Box6.new w (.int .i64 5) (.int .i64 v1) (.int .i64 v2) (.int .i64 v3) (.int .i64 v4) (.slice a1 nv k1) 56
  obtain ⟨bV, oV, -, LV⟩ := (H.keep sA).LV
  go_enter Tryz.func103, Tryz.ntmps103
  go_wp2_with fail
  generalize w.alloc (.cells #[.int .i64 5, .int .i64 v1, .int .i64 v2, .int .i64 v3, .int .i64 v4, .slice a1 nv k1] 56) = wA at *
  refine (l2In_any 5 1 7 wA).mono ?_
  rintro e w1 ⟨⟨r, rfl, hr⟩, hw1⟩
  have hw2 := hw1.symm
  clear hw1
  subst hw2
  cases r
  · exfalso
    have := hr.2 (by unfold InP; omega)
    cases this
  clear hr
  have q0 := nA.c0
  have q1 := nA.c1
  have q2 := nA.c2
  have q3 := nA.c3
  have q4 := nA.c4
  have q5 := nA.c5
  have NN : wA.Since wA.heap.size wA.drew := (World.Since.refl _ _).drew
  have nD := nA.keep NN
  have p0 := nD.c0
  have p1 := nD.c1
  have p2 := nD.c2
  have p3 := nD.c3
  have p4 := nD.c4
  have p5 := nD.c5
  have SD := sA.trans (sinceMono NN sA.size)
  have JK := l2UsesK_eq 5 true wA.drew (by decide)
  have JS := l2UsesS_eq 5 false wA.drew (by decide)
  by_cases hk : v3 = 0
  · have kq : (v3 != 0) = false := by simp [hk]
    have NF := hide (show ¬ (NodeD.mk 5 v1 v2 v3 v4 nv V).Form from fun f => by have h := f.k; have h2 : 1 ≤ v3 ∧ v3 ≤ 1000 := h; omega)
    clear hk
    go_wp2_with fail
    refine wp_region_held_drew (S := fun w' => w'.cell? ⟨w.heap.size, 0, none⟩ = some (.int .i64 5) ∧ w'.cell? ⟨w.heap.size, 3, none⟩ = some (.int .i64 v3)) (by kernel_rfl) ⟨p0, p3⟩ (fun hHeld => ?_)
    refine take_at 0 (some 7) (.pointer (some ⟨w.heap.size, 0, none⟩)) rfl (by kernel_rfl) (by kernel_rfl) (by kernel_rfl) (by kernel_rfl) (fun _ _ _ h => h) (by kernel_rfl) (by assumption) ?_ ?_
    · intro w' hSw
      clear hSw
      kernel_rfl
    simp only [Act.put, List.setIfInBounds_toArray, List.set_cons_zero, List.set_cons_succ]
    refine take_at 1 (some 8) (.int .i64 5) rfl (by kernel_rfl) (by kernel_rfl) (by kernel_rfl) (by kernel_rfl) (fun _ _ _ h => h) (by kernel_rfl) (by assumption) ?_ ?_
    · intro w' hSw
      try dsimp only at hSw
      go_simp
    simp only [Act.put, List.setIfInBounds_toArray, List.set_cons_zero, List.set_cons_succ]
    refine take_at 3 (some 10) (.pointer (some ⟨w.heap.size, 3, none⟩)) rfl (by kernel_rfl) (by kernel_rfl) (by kernel_rfl) (by kernel_rfl) (fun _ _ _ h => h) (by kernel_rfl) (by assumption) ?_ ?_
    · intro w' hSw
      clear hSw
      kernel_rfl
    simp only [Act.put, List.setIfInBounds_toArray, List.set_cons_zero, List.set_cons_succ]
    refine take_at 4 (some 11) (.int .i64 v3) rfl (by kernel_rfl) (by kernel_rfl) (by kernel_rfl) (by kernel_rfl) (fun _ _ _ h => h) (by kernel_rfl) (by assumption) ?_ ?_
    · intro w' hSw
      try dsimp only at hSw
      go_simp
    simp only [Act.put, List.setIfInBounds_toArray, List.set_cons_zero, List.set_cons_succ]
    refine take_at 5 (some 12) (.bool false) rfl (by kernel_rfl) (by kernel_rfl) (by kernel_rfl) (by kernel_rfl) (fun _ _ _ h => h) (by kernel_rfl) (by assumption) ?_ ?_
    · intro w' hSw
      try dsimp only at hSw
      go_simp
    simp only [Act.put, List.setIfInBounds_toArray, List.set_cons_zero, List.set_cons_succ]
    refine wpAnyH_ready (rs := [2]) (by kernel_rfl) (by simp) ?_
    refine AllReadyH.cons rfl (fun K hK => ?_) AllReadyH.nil
    go_simp
    go_wp2_with (go_at_call 131; with_reducible refine JK.mono ?_; rintro e w2 ⟨rfl, rfl⟩)
    refine hK.out _ _ ⟨p0, p3⟩ (fun h1 => ?_)
    clear hK K hHeld
    refine take_at 6 (some 13) (.bool true) rfl (by kernel_rfl) (by kernel_rfl) (by kernel_rfl) (by kernel_rfl) (fun _ _ _ h => h) (by kernel_rfl) (by assumption) ?_ ?_
    · intro w' hSw
      clear hSw
      kernel_rfl
    simp only [Act.put, List.setIfInBounds_toArray, List.set_cons_zero, List.set_cons_succ]
    refine take_at 7 (some 14) (.bool true) rfl (by kernel_rfl) (by kernel_rfl) (by kernel_rfl) (by kernel_rfl) (fun _ _ _ h => h) (by kernel_rfl) (by assumption) ?_ ?_
    · intro w' hSw
      clear hSw
      kernel_rfl
    simp only [Act.put, List.setIfInBounds_toArray, List.set_cons_zero, List.set_cons_succ]
    refine skip_at 8 (some 15) rfl (by kernel_rfl) (by kernel_rfl) (by kernel_rfl) (by kernel_rfl) (fun _ _ _ h => h) (by kernel_rfl) (by assumption) ?_
    simp only [Act.put, List.setIfInBounds_toArray, List.set_cons_zero, List.set_cons_succ]
    refine skip_at 9 (some 16) rfl (by kernel_rfl) (by kernel_rfl) (by kernel_rfl) (by kernel_rfl) (fun _ _ _ h => h) (by kernel_rfl) (by assumption) ?_
    simp only [Act.put, List.setIfInBounds_toArray, List.set_cons_zero, List.set_cons_succ]
    refine skip_at 10 (some 17) rfl (by kernel_rfl) (by kernel_rfl) (by kernel_rfl) (by kernel_rfl) (fun _ _ _ h => h) (by kernel_rfl) (by assumption) ?_
    simp only [Act.put, List.setIfInBounds_toArray, List.set_cons_zero, List.set_cons_succ]
    refine skip_at 11 (some 18) rfl (by kernel_rfl) (by kernel_rfl) (by kernel_rfl) (by kernel_rfl) (fun _ _ _ h => h) (by kernel_rfl) (by assumption) ?_
    simp only [Act.put, List.setIfInBounds_toArray, List.set_cons_zero, List.set_cons_succ]
    refine skip_at 12 (some 19) rfl (by kernel_rfl) (by kernel_rfl) (by kernel_rfl) (by kernel_rfl) (fun _ _ _ h => h) (by kernel_rfl) (by assumption) ?_
    simp only [Act.put, List.setIfInBounds_toArray, List.set_cons_zero, List.set_cons_succ]
    refine skip_at 13 (some 20) rfl (by kernel_rfl) (by kernel_rfl) (by kernel_rfl) (by kernel_rfl) (fun _ _ _ h => h) (by kernel_rfl) (by assumption) ?_
    simp only [Act.put, List.setIfInBounds_toArray, List.set_cons_zero, List.set_cons_succ]
    refine skip_at 14 (some 21) rfl (by kernel_rfl) (by kernel_rfl) (by kernel_rfl) (by kernel_rfl) (fun _ _ _ h => h) (by kernel_rfl) (by assumption) ?_
    simp only [Act.put, List.setIfInBounds_toArray, List.set_cons_zero, List.set_cons_succ]
    refine take_at 15 (some 22) (.bool true) rfl (by kernel_rfl) (by kernel_rfl) (by kernel_rfl) (by kernel_rfl) (fun _ _ _ h => h) (by kernel_rfl) (by assumption) ?_ ?_
    · intro w' hSw
      clear hSw
      kernel_rfl
    simp only [Act.put, List.setIfInBounds_toArray, List.set_cons_zero, List.set_cons_succ]
    refine wpAnyH_done (by kernel_rfl) ?_ _
    go_wp2
    go_ret
    exact ⟨⟨false, rfl, by simp only [Bool.false_eq_true, false_iff]; exact NF.out⟩, SD⟩
  have kq : (v3 != 0) = true := by simp [hk]
  have HK0 := hide hk
  clear hk
  by_cases hs : v4 = 0
  case neg =>
    have sq : (v4 != 0) = true := by simp [hs]
    have NF := hide (show ¬ (NodeD.mk 5 v1 v2 v3 v4 nv V).Form from fun f => by have h := f.s; have h2 : v4 = 0 := h; omega)
    clear hs
    go_wp2_with fail
    go_region_held3 (fun w' => w'.cell? ⟨w.heap.size, 0, none⟩ = some (.int .i64 5) ∧ w'.cell? ⟨w.heap.size, 3, none⟩ = some (.int .i64 v3) ∧ w'.cell? ⟨w.heap.size, 4, none⟩ = some (.int .i64 v4)) (go_keep)
      (first
        | (go_at_call 131
           with_reducible refine JK.mono ?_
           rintro e w2 ⟨rfl, rfl⟩)
        | (go_at_call 132
           with_reducible refine JS.mono ?_
           rintro e w2 ⟨rfl, rfl⟩))
    go_wp2
    go_ret
    exact ⟨⟨false, rfl, by simp only [Bool.false_eq_true, false_iff]; exact NF.out⟩, SD⟩
  have sq : (v4 != 0) = false := by simp [hs]
  have HS0 := hide hs
  clear hs
  go_wp2_with fail
  go_region_held3 (fun w' => w'.cell? ⟨w.heap.size, 0, none⟩ = some (.int .i64 5) ∧ w'.cell? ⟨w.heap.size, 3, none⟩ = some (.int .i64 v3) ∧ w'.cell? ⟨w.heap.size, 4, none⟩ = some (.int .i64 v4)) (go_keep)
    (first
      | (go_at_call 131
         with_reducible refine JK.mono ?_
         rintro e w2 ⟨rfl, rfl⟩)
      | (go_at_call 132
         with_reducible refine JS.mono ?_
         rintro e w2 ⟨rfl, rfl⟩))
  clear q0 q1 q2 q3 q4 q5 JK JS
  go_wp2_with fail
  refine (l2In_any v3 0 1000 wA.drew).mono ?_
  rintro e w2 ⟨⟨r, rfl, hr⟩, rfl⟩
  cases r
  · have NF := hide (show ¬ (NodeD.mk 5 v1 v2 v3 v4 nv V).Form from fun f => by
      have h := f.k
      have h3 : InP v3 0 1000 := by unfold InP; have h2 : 1 ≤ v3 ∧ v3 ≤ 1000 := h; omega
      have := hr.2 h3
      cases this)
    clear hr
    go_wp2
    go_ret
    exact ⟨⟨false, rfl, by simp only [Bool.false_eq_true, false_iff]; exact NF.out⟩, SD⟩
  have IK := hide (hr.1 rfl)
  clear hr
  go_wp2_with fail
  refine (l2In_any v4 0 1000 wA.drew).mono ?_
  rintro e w2 ⟨⟨r, rfl, hr⟩, rfl⟩
  cases r
  · have NF := hide (show ¬ (NodeD.mk 5 v1 v2 v3 v4 nv V).Form from fun f => by
      have h := f.s
      have h3 : InP v4 0 1000 := by unfold InP; have h2 : v4 = 0 := h; omega
      have := hr.2 h3
      cases this)
    clear hr
    go_wp2
    go_ret
    exact ⟨⟨false, rfl, by simp only [Bool.false_eq_true, false_iff]; exact NF.out⟩, SD⟩
  have IS := hide (hr.1 rfl)
  clear hr
  have JB := l2UsesB_eq 5 false wA.drew (by decide)
  go_wp2_with fail
  refine JB.mono ?_
  rintro e w2 ⟨rfl, rfl⟩
  clear JB
  by_cases hb : v2 = 0
  case neg =>
    have bq : (v2 != 0) = true := by simp [hb]
    have NF := hide (show ¬ (NodeD.mk 5 v1 v2 v3 v4 nv V).Form from fun f => hb (f.b rfl))
    clear hb
    go_wp2
    go_ret
    exact ⟨⟨false, rfl, by simp only [Bool.false_eq_true, false_iff]; exact NF.out⟩, SD⟩
  have bq : (v2 != 0) = false := by simp [hb]
  have HB0 := hide hb
  clear hb
  have JV := l2UsesV_eq 5 false wA.drew (by decide)
  go_wp2_with fail
  refine JV.mono ?_
  rintro e w2 ⟨rfl, rfl⟩
  clear JV
  by_cases hv : nv = 0
  case neg =>
    have vq : ((nv : Int) != 0) = true := by simp; omega
    have NF := hide (show ¬ (NodeD.mk 5 v1 v2 v3 v4 nv V).Form from fun f => hv (f.v rfl))
    clear hv
    go_wp2
    go_ret
    exact ⟨⟨false, rfl, by simp only [Bool.false_eq_true, false_iff]; exact NF.out⟩, SD⟩
  have vq : ((nv : Int) != 0) = false := by simp; omega
  have HV0 := hide hv
  clear hv
  have JA := l1AllOk_any a1 lo bV oV nv k1 V wA.drew (by omega) (by omega) (LV.keep NN)
  go_wp2_with fail
  refine JA.mono ?_
  rintro e w3 ⟨r, rfl, hr, s3⟩
  have HR := hide hr
  clear hr
  go_wp2
  go_ret
  exact ⟨⟨r, rfl, HR.out.trans ⟨fun h => ⟨(show (1 : Int) ≤ 5 by decide), (show (5 : Int) ≤ 7 by decide), (show 1 ≤ v3 ∧ v3 ≤ 1000 by have h : 0 ≤ v3 ∧ v3 ≤ 1000 := IK.out; have := HK0.out; omega), HS0.out, fun _ => HB0.out, fun _ => HV0.out, fun h => (by cases h), fun h => (by cases h), h⟩, fun f => f.ok⟩⟩, SD.trans (sinceMono s3 SD.size)⟩

end Go.Proofs.YtlpabmcebpppfaaGreatDoor

namespace Go.Proofs.YtlpabmcebpppfaaGreatDoor
open Go.RowKit

set_option maxHeartbeats 6400000 in
set_option maxRecDepth 100000 in
theorem l2FormOk6 (v1 v2 v3 v4 : Int) (nv : Nat) (V : Nat → RatD) (a1 : Option Addr) (lo k1 : Nat) (w : World) (hd : (NodeD.mk 6 v1 v2 v3 v4 nv V).size ≤ 1048576) (H : NodL w lo (NodeD.mk 6 v1 v2 v3 v4 nv V) a1 k1) :
    Calls Tryz.prog 103 #[.agg #[.int .i64 6, .int .i64 v1, .int .i64 v2, .int .i64 v3, .int .i64 v4, .slice a1 nv k1]] w fun e w' => BoolRet e (NodeD.mk 6 v1 v2 v3 v4 nv V).Form ∧ w.Since w.heap.size w' := by
  have ts : nv + szR V nv ≤ 1048576 := hd
  have sA : w.Since w.heap.size (w.alloc (.cells #[.int .i64 6, .int .i64 v1, .int .i64 v2, .int .i64 v3, .int .i64 v4, .slice a1 nv k1] 56)) := (World.Since.refl _ _).alloc (Nat.le_refl _) _
  have nA := Box6.new w (.int .i64 6) (.int .i64 v1) (.int .i64 v2) (.int .i64 v3) (.int .i64 v4) (.slice a1 nv k1) 56
  obtain ⟨bV, oV, -, LV⟩ := (H.keep sA).LV
  go_enter Tryz.func103, Tryz.ntmps103
  go_wp2_with fail
  generalize w.alloc (.cells #[.int .i64 6, .int .i64 v1, .int .i64 v2, .int .i64 v3, .int .i64 v4, .slice a1 nv k1] 56) = wA at *
  refine (l2In_any 6 1 7 wA).mono ?_
  rintro e w1 ⟨⟨r, rfl, hr⟩, hw1⟩
  have hw2 := hw1.symm
  clear hw1
  subst hw2
  cases r
  · exfalso
    have := hr.2 (by unfold InP; omega)
    cases this
  clear hr
  have q0 := nA.c0
  have q1 := nA.c1
  have q2 := nA.c2
  have q3 := nA.c3
  have q4 := nA.c4
  have q5 := nA.c5
  have NN : wA.Since wA.heap.size wA.drew := (World.Since.refl _ _).drew
  have nD := nA.keep NN
  have p0 := nD.c0
  have p1 := nD.c1
  have p2 := nD.c2
  have p3 := nD.c3
  have p4 := nD.c4
  have p5 := nD.c5
  have SD := sA.trans (sinceMono NN sA.size)
  have JK := l2UsesK_eq 6 true wA.drew (by decide)
  have JS := l2UsesS_eq 6 true wA.drew (by decide)
  by_cases hk : v3 = 0
  · have kq : (v3 != 0) = false := by simp [hk]
    have NF := hide (show ¬ (NodeD.mk 6 v1 v2 v3 v4 nv V).Form from fun f => by have h := f.k; have h2 : 1 ≤ v3 ∧ v3 ≤ 1000 := h; omega)
    clear hk
    go_wp2_with fail
    refine wp_region_held_drew (S := fun w' => w'.cell? ⟨w.heap.size, 0, none⟩ = some (.int .i64 6) ∧ w'.cell? ⟨w.heap.size, 3, none⟩ = some (.int .i64 v3)) (by kernel_rfl) ⟨p0, p3⟩ (fun hHeld => ?_)
    refine take_at 0 (some 7) (.pointer (some ⟨w.heap.size, 0, none⟩)) rfl (by kernel_rfl) (by kernel_rfl) (by kernel_rfl) (by kernel_rfl) (fun _ _ _ h => h) (by kernel_rfl) (by assumption) ?_ ?_
    · intro w' hSw
      clear hSw
      kernel_rfl
    simp only [Act.put, List.setIfInBounds_toArray, List.set_cons_zero, List.set_cons_succ]
    refine take_at 1 (some 8) (.int .i64 6) rfl (by kernel_rfl) (by kernel_rfl) (by kernel_rfl) (by kernel_rfl) (fun _ _ _ h => h) (by kernel_rfl) (by assumption) ?_ ?_
    · intro w' hSw
      try dsimp only at hSw
      go_simp
    simp only [Act.put, List.setIfInBounds_toArray, List.set_cons_zero, List.set_cons_succ]
    refine take_at 3 (some 10) (.pointer (some ⟨w.heap.size, 3, none⟩)) rfl (by kernel_rfl) (by kernel_rfl) (by kernel_rfl) (by kernel_rfl) (fun _ _ _ h => h) (by kernel_rfl) (by assumption) ?_ ?_
    · intro w' hSw
      clear hSw
      kernel_rfl
    simp only [Act.put, List.setIfInBounds_toArray, List.set_cons_zero, List.set_cons_succ]
    refine take_at 4 (some 11) (.int .i64 v3) rfl (by kernel_rfl) (by kernel_rfl) (by kernel_rfl) (by kernel_rfl) (fun _ _ _ h => h) (by kernel_rfl) (by assumption) ?_ ?_
    · intro w' hSw
      try dsimp only at hSw
      go_simp
    simp only [Act.put, List.setIfInBounds_toArray, List.set_cons_zero, List.set_cons_succ]
    refine take_at 5 (some 12) (.bool false) rfl (by kernel_rfl) (by kernel_rfl) (by kernel_rfl) (by kernel_rfl) (fun _ _ _ h => h) (by kernel_rfl) (by assumption) ?_ ?_
    · intro w' hSw
      try dsimp only at hSw
      go_simp
    simp only [Act.put, List.setIfInBounds_toArray, List.set_cons_zero, List.set_cons_succ]
    refine wpAnyH_ready (rs := [2]) (by kernel_rfl) (by simp) ?_
    refine AllReadyH.cons rfl (fun K hK => ?_) AllReadyH.nil
    go_simp
    go_wp2_with (go_at_call 131; with_reducible refine JK.mono ?_; rintro e w2 ⟨rfl, rfl⟩)
    refine hK.out _ _ ⟨p0, p3⟩ (fun h1 => ?_)
    clear hK K hHeld
    refine take_at 6 (some 13) (.bool true) rfl (by kernel_rfl) (by kernel_rfl) (by kernel_rfl) (by kernel_rfl) (fun _ _ _ h => h) (by kernel_rfl) (by assumption) ?_ ?_
    · intro w' hSw
      clear hSw
      kernel_rfl
    simp only [Act.put, List.setIfInBounds_toArray, List.set_cons_zero, List.set_cons_succ]
    refine take_at 7 (some 14) (.bool true) rfl (by kernel_rfl) (by kernel_rfl) (by kernel_rfl) (by kernel_rfl) (fun _ _ _ h => h) (by kernel_rfl) (by assumption) ?_ ?_
    · intro w' hSw
      clear hSw
      kernel_rfl
    simp only [Act.put, List.setIfInBounds_toArray, List.set_cons_zero, List.set_cons_succ]
    refine skip_at 8 (some 15) rfl (by kernel_rfl) (by kernel_rfl) (by kernel_rfl) (by kernel_rfl) (fun _ _ _ h => h) (by kernel_rfl) (by assumption) ?_
    simp only [Act.put, List.setIfInBounds_toArray, List.set_cons_zero, List.set_cons_succ]
    refine skip_at 9 (some 16) rfl (by kernel_rfl) (by kernel_rfl) (by kernel_rfl) (by kernel_rfl) (fun _ _ _ h => h) (by kernel_rfl) (by assumption) ?_
    simp only [Act.put, List.setIfInBounds_toArray, List.set_cons_zero, List.set_cons_succ]
    refine skip_at 10 (some 17) rfl (by kernel_rfl) (by kernel_rfl) (by kernel_rfl) (by kernel_rfl) (fun _ _ _ h => h) (by kernel_rfl) (by assumption) ?_
    simp only [Act.put, List.setIfInBounds_toArray, List.set_cons_zero, List.set_cons_succ]
    refine skip_at 11 (some 18) rfl (by kernel_rfl) (by kernel_rfl) (by kernel_rfl) (by kernel_rfl) (fun _ _ _ h => h) (by kernel_rfl) (by assumption) ?_
    simp only [Act.put, List.setIfInBounds_toArray, List.set_cons_zero, List.set_cons_succ]
    refine skip_at 12 (some 19) rfl (by kernel_rfl) (by kernel_rfl) (by kernel_rfl) (by kernel_rfl) (fun _ _ _ h => h) (by kernel_rfl) (by assumption) ?_
    simp only [Act.put, List.setIfInBounds_toArray, List.set_cons_zero, List.set_cons_succ]
    refine skip_at 13 (some 20) rfl (by kernel_rfl) (by kernel_rfl) (by kernel_rfl) (by kernel_rfl) (fun _ _ _ h => h) (by kernel_rfl) (by assumption) ?_
    simp only [Act.put, List.setIfInBounds_toArray, List.set_cons_zero, List.set_cons_succ]
    refine skip_at 14 (some 21) rfl (by kernel_rfl) (by kernel_rfl) (by kernel_rfl) (by kernel_rfl) (fun _ _ _ h => h) (by kernel_rfl) (by assumption) ?_
    simp only [Act.put, List.setIfInBounds_toArray, List.set_cons_zero, List.set_cons_succ]
    refine take_at 15 (some 22) (.bool true) rfl (by kernel_rfl) (by kernel_rfl) (by kernel_rfl) (by kernel_rfl) (fun _ _ _ h => h) (by kernel_rfl) (by assumption) ?_ ?_
    · intro w' hSw
      clear hSw
      kernel_rfl
    simp only [Act.put, List.setIfInBounds_toArray, List.set_cons_zero, List.set_cons_succ]
    refine wpAnyH_done (by kernel_rfl) ?_ _
    go_wp2
    go_ret
    exact ⟨⟨false, rfl, by simp only [Bool.false_eq_true, false_iff]; exact NF.out⟩, SD⟩
  have kq : (v3 != 0) = true := by simp [hk]
  have HK0 := hide hk
  clear hk
  by_cases hs : v4 = 0
  · have sq : (v4 != 0) = false := by simp [hs]
    have NF := hide (show ¬ (NodeD.mk 6 v1 v2 v3 v4 nv V).Form from fun f => by have h := f.s; have h2 : 1 ≤ v4 ∧ v4 ≤ 1000 := h; omega)
    clear hs
    go_wp2_with fail
    go_region_held3 (fun w' => w'.cell? ⟨w.heap.size, 0, none⟩ = some (.int .i64 6) ∧ w'.cell? ⟨w.heap.size, 3, none⟩ = some (.int .i64 v3) ∧ w'.cell? ⟨w.heap.size, 4, none⟩ = some (.int .i64 v4)) (go_keep)
      (first
        | (go_at_call 131
           with_reducible refine JK.mono ?_
           rintro e w2 ⟨rfl, rfl⟩)
        | (go_at_call 132
           with_reducible refine JS.mono ?_
           rintro e w2 ⟨rfl, rfl⟩))
    go_wp2
    go_ret
    exact ⟨⟨false, rfl, by simp only [Bool.false_eq_true, false_iff]; exact NF.out⟩, SD⟩
  have sq : (v4 != 0) = true := by simp [hs]
  have HS0 := hide hs
  clear hs
  go_wp2_with fail
  go_region_held3 (fun w' => w'.cell? ⟨w.heap.size, 0, none⟩ = some (.int .i64 6) ∧ w'.cell? ⟨w.heap.size, 3, none⟩ = some (.int .i64 v3) ∧ w'.cell? ⟨w.heap.size, 4, none⟩ = some (.int .i64 v4)) (go_keep)
    (first
      | (go_at_call 131
         with_reducible refine JK.mono ?_
         rintro e w2 ⟨rfl, rfl⟩)
      | (go_at_call 132
         with_reducible refine JS.mono ?_
         rintro e w2 ⟨rfl, rfl⟩))
  clear q0 q1 q2 q3 q4 q5 JK JS
  go_wp2_with fail
  refine (l2In_any v3 0 1000 wA.drew).mono ?_
  rintro e w2 ⟨⟨r, rfl, hr⟩, rfl⟩
  cases r
  · have NF := hide (show ¬ (NodeD.mk 6 v1 v2 v3 v4 nv V).Form from fun f => by
      have h := f.k
      have h3 : InP v3 0 1000 := by unfold InP; have h2 : 1 ≤ v3 ∧ v3 ≤ 1000 := h; omega
      have := hr.2 h3
      cases this)
    clear hr
    go_wp2
    go_ret
    exact ⟨⟨false, rfl, by simp only [Bool.false_eq_true, false_iff]; exact NF.out⟩, SD⟩
  have IK := hide (hr.1 rfl)
  clear hr
  go_wp2_with fail
  refine (l2In_any v4 0 1000 wA.drew).mono ?_
  rintro e w2 ⟨⟨r, rfl, hr⟩, rfl⟩
  cases r
  · have NF := hide (show ¬ (NodeD.mk 6 v1 v2 v3 v4 nv V).Form from fun f => by
      have h := f.s
      have h3 : InP v4 0 1000 := by unfold InP; have h2 : 1 ≤ v4 ∧ v4 ≤ 1000 := h; omega
      have := hr.2 h3
      cases this)
    clear hr
    go_wp2
    go_ret
    exact ⟨⟨false, rfl, by simp only [Bool.false_eq_true, false_iff]; exact NF.out⟩, SD⟩
  have IS := hide (hr.1 rfl)
  clear hr
  have JB := l2UsesB_eq 6 false wA.drew (by decide)
  go_wp2_with fail
  refine JB.mono ?_
  rintro e w2 ⟨rfl, rfl⟩
  clear JB
  by_cases hb : v2 = 0
  case neg =>
    have bq : (v2 != 0) = true := by simp [hb]
    have NF := hide (show ¬ (NodeD.mk 6 v1 v2 v3 v4 nv V).Form from fun f => hb (f.b rfl))
    clear hb
    go_wp2
    go_ret
    exact ⟨⟨false, rfl, by simp only [Bool.false_eq_true, false_iff]; exact NF.out⟩, SD⟩
  have bq : (v2 != 0) = false := by simp [hb]
  have HB0 := hide hb
  clear hb
  have JV := l2UsesV_eq 6 true wA.drew (by decide)
  go_wp2_with fail
  refine JV.mono ?_
  rintro e w2 ⟨rfl, rfl⟩
  clear JV
  have JA := l1AllOk_any a1 lo bV oV nv k1 V wA.drew (by omega) (by omega) (LV.keep NN)
  go_wp2_with fail
  refine JA.mono ?_
  rintro e w3 ⟨r, rfl, hr, s3⟩
  have HR := hide hr
  clear hr
  go_wp2
  go_ret
  exact ⟨⟨r, rfl, HR.out.trans ⟨fun h => ⟨(show (1 : Int) ≤ 6 by decide), (show (6 : Int) ≤ 7 by decide), (show 1 ≤ v3 ∧ v3 ≤ 1000 by have h : 0 ≤ v3 ∧ v3 ≤ 1000 := IK.out; have := HK0.out; omega), (show 1 ≤ v4 ∧ v4 ≤ 1000 by have h : 0 ≤ v4 ∧ v4 ≤ 1000 := IS.out; have := HS0.out; omega), fun _ => HB0.out, fun h => (by cases h), fun h => (by cases h), fun h => (by cases h), h⟩, fun f => f.ok⟩⟩, SD.trans (sinceMono s3 SD.size)⟩

set_option maxHeartbeats 6400000 in
set_option maxRecDepth 100000 in
theorem l2FormOk7 (v1 v2 v3 v4 : Int) (nv : Nat) (V : Nat → RatD) (a1 : Option Addr) (lo k1 : Nat) (w : World) (hd : (NodeD.mk 7 v1 v2 v3 v4 nv V).size ≤ 1048576) (H : NodL w lo (NodeD.mk 7 v1 v2 v3 v4 nv V) a1 k1) :
    Calls Tryz.prog 103 #[.agg #[.int .i64 7, .int .i64 v1, .int .i64 v2, .int .i64 v3, .int .i64 v4, .slice a1 nv k1]] w fun e w' => BoolRet e (NodeD.mk 7 v1 v2 v3 v4 nv V).Form ∧ w.Since w.heap.size w' := by
  have ts : nv + szR V nv ≤ 1048576 := hd
  have sA : w.Since w.heap.size (w.alloc (.cells #[.int .i64 7, .int .i64 v1, .int .i64 v2, .int .i64 v3, .int .i64 v4, .slice a1 nv k1] 56)) := (World.Since.refl _ _).alloc (Nat.le_refl _) _
  have nA := Box6.new w (.int .i64 7) (.int .i64 v1) (.int .i64 v2) (.int .i64 v3) (.int .i64 v4) (.slice a1 nv k1) 56
  obtain ⟨bV, oV, -, LV⟩ := (H.keep sA).LV
  go_enter Tryz.func103, Tryz.ntmps103
  go_wp2_with fail
  generalize w.alloc (.cells #[.int .i64 7, .int .i64 v1, .int .i64 v2, .int .i64 v3, .int .i64 v4, .slice a1 nv k1] 56) = wA at *
  refine (l2In_any 7 1 7 wA).mono ?_
  rintro e w1 ⟨⟨r, rfl, hr⟩, hw1⟩
  have hw2 := hw1.symm
  clear hw1
  subst hw2
  cases r
  · exfalso
    have := hr.2 (by unfold InP; omega)
    cases this
  clear hr
  have q0 := nA.c0
  have q1 := nA.c1
  have q2 := nA.c2
  have q3 := nA.c3
  have q4 := nA.c4
  have q5 := nA.c5
  have NN : wA.Since wA.heap.size wA.drew := (World.Since.refl _ _).drew
  have nD := nA.keep NN
  have p0 := nD.c0
  have p1 := nD.c1
  have p2 := nD.c2
  have p3 := nD.c3
  have p4 := nD.c4
  have p5 := nD.c5
  have SD := sA.trans (sinceMono NN sA.size)
  have JK := l2UsesK_eq 7 false wA.drew (by decide)
  have JS := l2UsesS_eq 7 false wA.drew (by decide)
  by_cases hk : v3 = 0
  case neg =>
    have kq : (v3 != 0) = true := by simp [hk]
    have NF := hide (show ¬ (NodeD.mk 7 v1 v2 v3 v4 nv V).Form from fun f => by have h := f.k; have h2 : v3 = 0 := h; omega)
    clear hk
    go_wp2_with fail
    refine wp_region_held_drew (S := fun w' => w'.cell? ⟨w.heap.size, 0, none⟩ = some (.int .i64 7) ∧ w'.cell? ⟨w.heap.size, 3, none⟩ = some (.int .i64 v3)) (by kernel_rfl) ⟨p0, p3⟩ (fun hHeld => ?_)
    refine take_at 0 (some 7) (.pointer (some ⟨w.heap.size, 0, none⟩)) rfl (by kernel_rfl) (by kernel_rfl) (by kernel_rfl) (by kernel_rfl) (fun _ _ _ h => h) (by kernel_rfl) (by assumption) ?_ ?_
    · intro w' hSw
      clear hSw
      kernel_rfl
    simp only [Act.put, List.setIfInBounds_toArray, List.set_cons_zero, List.set_cons_succ]
    refine take_at 1 (some 8) (.int .i64 7) rfl (by kernel_rfl) (by kernel_rfl) (by kernel_rfl) (by kernel_rfl) (fun _ _ _ h => h) (by kernel_rfl) (by assumption) ?_ ?_
    · intro w' hSw
      try dsimp only at hSw
      go_simp
    simp only [Act.put, List.setIfInBounds_toArray, List.set_cons_zero, List.set_cons_succ]
    refine take_at 3 (some 10) (.pointer (some ⟨w.heap.size, 3, none⟩)) rfl (by kernel_rfl) (by kernel_rfl) (by kernel_rfl) (by kernel_rfl) (fun _ _ _ h => h) (by kernel_rfl) (by assumption) ?_ ?_
    · intro w' hSw
      clear hSw
      kernel_rfl
    simp only [Act.put, List.setIfInBounds_toArray, List.set_cons_zero, List.set_cons_succ]
    refine take_at 4 (some 11) (.int .i64 v3) rfl (by kernel_rfl) (by kernel_rfl) (by kernel_rfl) (by kernel_rfl) (fun _ _ _ h => h) (by kernel_rfl) (by assumption) ?_ ?_
    · intro w' hSw
      try dsimp only at hSw
      go_simp
    simp only [Act.put, List.setIfInBounds_toArray, List.set_cons_zero, List.set_cons_succ]
    refine take_at 5 (some 12) (.bool true) rfl (by kernel_rfl) (by kernel_rfl) (by kernel_rfl) (by kernel_rfl) (fun _ _ _ h => h) (by kernel_rfl) (by assumption) ?_ ?_
    · intro w' hSw
      try dsimp only at hSw
      go_simp
    simp only [Act.put, List.setIfInBounds_toArray, List.set_cons_zero, List.set_cons_succ]
    refine wpAnyH_ready (rs := [2]) (by kernel_rfl) (by simp) ?_
    refine AllReadyH.cons rfl (fun K hK => ?_) AllReadyH.nil
    go_simp
    go_wp2_with (go_at_call 131; with_reducible refine JK.mono ?_; rintro e w2 ⟨rfl, rfl⟩)
    refine hK.out _ _ ⟨p0, p3⟩ (fun h1 => ?_)
    clear hK K hHeld
    refine take_at 6 (some 13) (.bool true) rfl (by kernel_rfl) (by kernel_rfl) (by kernel_rfl) (by kernel_rfl) (fun _ _ _ h => h) (by kernel_rfl) (by assumption) ?_ ?_
    · intro w' hSw
      clear hSw
      kernel_rfl
    simp only [Act.put, List.setIfInBounds_toArray, List.set_cons_zero, List.set_cons_succ]
    refine take_at 7 (some 14) (.bool true) rfl (by kernel_rfl) (by kernel_rfl) (by kernel_rfl) (by kernel_rfl) (fun _ _ _ h => h) (by kernel_rfl) (by assumption) ?_ ?_
    · intro w' hSw
      clear hSw
      kernel_rfl
    simp only [Act.put, List.setIfInBounds_toArray, List.set_cons_zero, List.set_cons_succ]
    refine skip_at 8 (some 15) rfl (by kernel_rfl) (by kernel_rfl) (by kernel_rfl) (by kernel_rfl) (fun _ _ _ h => h) (by kernel_rfl) (by assumption) ?_
    simp only [Act.put, List.setIfInBounds_toArray, List.set_cons_zero, List.set_cons_succ]
    refine skip_at 9 (some 16) rfl (by kernel_rfl) (by kernel_rfl) (by kernel_rfl) (by kernel_rfl) (fun _ _ _ h => h) (by kernel_rfl) (by assumption) ?_
    simp only [Act.put, List.setIfInBounds_toArray, List.set_cons_zero, List.set_cons_succ]
    refine skip_at 10 (some 17) rfl (by kernel_rfl) (by kernel_rfl) (by kernel_rfl) (by kernel_rfl) (fun _ _ _ h => h) (by kernel_rfl) (by assumption) ?_
    simp only [Act.put, List.setIfInBounds_toArray, List.set_cons_zero, List.set_cons_succ]
    refine skip_at 11 (some 18) rfl (by kernel_rfl) (by kernel_rfl) (by kernel_rfl) (by kernel_rfl) (fun _ _ _ h => h) (by kernel_rfl) (by assumption) ?_
    simp only [Act.put, List.setIfInBounds_toArray, List.set_cons_zero, List.set_cons_succ]
    refine skip_at 12 (some 19) rfl (by kernel_rfl) (by kernel_rfl) (by kernel_rfl) (by kernel_rfl) (fun _ _ _ h => h) (by kernel_rfl) (by assumption) ?_
    simp only [Act.put, List.setIfInBounds_toArray, List.set_cons_zero, List.set_cons_succ]
    refine skip_at 13 (some 20) rfl (by kernel_rfl) (by kernel_rfl) (by kernel_rfl) (by kernel_rfl) (fun _ _ _ h => h) (by kernel_rfl) (by assumption) ?_
    simp only [Act.put, List.setIfInBounds_toArray, List.set_cons_zero, List.set_cons_succ]
    refine skip_at 14 (some 21) rfl (by kernel_rfl) (by kernel_rfl) (by kernel_rfl) (by kernel_rfl) (fun _ _ _ h => h) (by kernel_rfl) (by assumption) ?_
    simp only [Act.put, List.setIfInBounds_toArray, List.set_cons_zero, List.set_cons_succ]
    refine take_at 15 (some 22) (.bool true) rfl (by kernel_rfl) (by kernel_rfl) (by kernel_rfl) (by kernel_rfl) (fun _ _ _ h => h) (by kernel_rfl) (by assumption) ?_ ?_
    · intro w' hSw
      clear hSw
      kernel_rfl
    simp only [Act.put, List.setIfInBounds_toArray, List.set_cons_zero, List.set_cons_succ]
    refine wpAnyH_done (by kernel_rfl) ?_ _
    go_wp2
    go_ret
    exact ⟨⟨false, rfl, by simp only [Bool.false_eq_true, false_iff]; exact NF.out⟩, SD⟩
  have kq : (v3 != 0) = false := by simp [hk]
  have HK0 := hide hk
  clear hk
  by_cases hs : v4 = 0
  case neg =>
    have sq : (v4 != 0) = true := by simp [hs]
    have NF := hide (show ¬ (NodeD.mk 7 v1 v2 v3 v4 nv V).Form from fun f => by have h := f.s; have h2 : v4 = 0 := h; omega)
    clear hs
    go_wp2_with fail
    go_region_held3 (fun w' => w'.cell? ⟨w.heap.size, 0, none⟩ = some (.int .i64 7) ∧ w'.cell? ⟨w.heap.size, 3, none⟩ = some (.int .i64 v3) ∧ w'.cell? ⟨w.heap.size, 4, none⟩ = some (.int .i64 v4)) (go_keep)
      (first
        | (go_at_call 131
           with_reducible refine JK.mono ?_
           rintro e w2 ⟨rfl, rfl⟩)
        | (go_at_call 132
           with_reducible refine JS.mono ?_
           rintro e w2 ⟨rfl, rfl⟩))
    go_wp2
    go_ret
    exact ⟨⟨false, rfl, by simp only [Bool.false_eq_true, false_iff]; exact NF.out⟩, SD⟩
  have sq : (v4 != 0) = false := by simp [hs]
  have HS0 := hide hs
  clear hs
  go_wp2_with fail
  go_region_held3 (fun w' => w'.cell? ⟨w.heap.size, 0, none⟩ = some (.int .i64 7) ∧ w'.cell? ⟨w.heap.size, 3, none⟩ = some (.int .i64 v3) ∧ w'.cell? ⟨w.heap.size, 4, none⟩ = some (.int .i64 v4)) (go_keep)
    (first
      | (go_at_call 131
         with_reducible refine JK.mono ?_
         rintro e w2 ⟨rfl, rfl⟩)
      | (go_at_call 132
         with_reducible refine JS.mono ?_
         rintro e w2 ⟨rfl, rfl⟩))
  clear q0 q1 q2 q3 q4 q5 JK JS
  go_wp2_with fail
  refine (l2In_any v3 0 1000 wA.drew).mono ?_
  rintro e w2 ⟨⟨r, rfl, hr⟩, rfl⟩
  cases r
  · have NF := hide (show ¬ (NodeD.mk 7 v1 v2 v3 v4 nv V).Form from fun f => by
      have h := f.k
      have h3 : InP v3 0 1000 := by unfold InP; have h2 : v3 = 0 := h; omega
      have := hr.2 h3
      cases this)
    clear hr
    go_wp2
    go_ret
    exact ⟨⟨false, rfl, by simp only [Bool.false_eq_true, false_iff]; exact NF.out⟩, SD⟩
  have IK := hide (hr.1 rfl)
  clear hr
  go_wp2_with fail
  refine (l2In_any v4 0 1000 wA.drew).mono ?_
  rintro e w2 ⟨⟨r, rfl, hr⟩, rfl⟩
  cases r
  · have NF := hide (show ¬ (NodeD.mk 7 v1 v2 v3 v4 nv V).Form from fun f => by
      have h := f.s
      have h3 : InP v4 0 1000 := by unfold InP; have h2 : v4 = 0 := h; omega
      have := hr.2 h3
      cases this)
    clear hr
    go_wp2
    go_ret
    exact ⟨⟨false, rfl, by simp only [Bool.false_eq_true, false_iff]; exact NF.out⟩, SD⟩
  have IS := hide (hr.1 rfl)
  clear hr
  have JB := l2UsesB_eq 7 false wA.drew (by decide)
  go_wp2_with fail
  refine JB.mono ?_
  rintro e w2 ⟨rfl, rfl⟩
  clear JB
  by_cases hb : v2 = 0
  case neg =>
    have bq : (v2 != 0) = true := by simp [hb]
    have NF := hide (show ¬ (NodeD.mk 7 v1 v2 v3 v4 nv V).Form from fun f => hb (f.b rfl))
    clear hb
    go_wp2
    go_ret
    exact ⟨⟨false, rfl, by simp only [Bool.false_eq_true, false_iff]; exact NF.out⟩, SD⟩
  have bq : (v2 != 0) = false := by simp [hb]
  have HB0 := hide hb
  clear hb
  have JV := l2UsesV_eq 7 true wA.drew (by decide)
  go_wp2_with fail
  refine JV.mono ?_
  rintro e w2 ⟨rfl, rfl⟩
  clear JV
  by_cases hv : nv = 4
  case neg =>
    have vq : ((nv : Int) != 4) = true := by simp; omega
    have NF := hide (show ¬ (NodeD.mk 7 v1 v2 v3 v4 nv V).Form from fun f => hv (f.v7 rfl))
    clear hv
    go_wp2
    go_ret
    exact ⟨⟨false, rfl, by simp only [Bool.false_eq_true, false_iff]; exact NF.out⟩, SD⟩
  have vq : ((nv : Int) != 4) = false := by simp; omega
  have HV0 := hide hv
  clear hv
  have JA := l1AllOk_any a1 lo bV oV nv k1 V wA.drew (by omega) (by omega) (LV.keep NN)
  go_wp2_with fail
  refine JA.mono ?_
  rintro e w3 ⟨r, rfl, hr, s3⟩
  have HR := hide hr
  clear hr
  go_wp2
  go_ret
  exact ⟨⟨r, rfl, HR.out.trans ⟨fun h => ⟨(show (1 : Int) ≤ 7 by decide), (show (7 : Int) ≤ 7 by decide), HK0.out, HS0.out, fun _ => HB0.out, fun h => (by cases h), fun h => (by cases h), fun _ => HV0.out, h⟩, fun f => f.ok⟩⟩, SD.trans (sinceMono s3 SD.size)⟩

end Go.Proofs.YtlpabmcebpppfaaGreatDoor

namespace Go.Proofs.YtlpabmcebpppfaaGreatDoor
open Go.RowKit

set_option maxHeartbeats 1600000 in
set_option maxRecDepth 100000 in
theorem l2FormOk_no (d : NodeD) (a1 : Option Addr) (k1 : Nat) (w : World) (h : d.op < 1 ∨ 7 < d.op) :
    Calls Tryz.prog 103 #[.agg #[.int .i64 d.op, .int .i64 d.a, .int .i64 d.b, .int .i64 d.k, .int .i64 d.s, .slice a1 d.nv k1]] w fun e w' => BoolRet e d.Form ∧ w.Since w.heap.size w' := by
  have sA : w.Since w.heap.size (w.alloc (.cells #[.int .i64 d.op, .int .i64 d.a, .int .i64 d.b, .int .i64 d.k, .int .i64 d.s, .slice a1 d.nv k1] 56)) := (World.Since.refl _ _).alloc (Nat.le_refl _) _
  have NF := hide (show ¬ d.Form from fun f => by have := f.o1; have := f.o7; omega)
  have NI := hide (show ¬ InP d.op 1 7 by unfold InP; omega)
  clear h
  go_enter Tryz.func103, Tryz.ntmps103
  go_wp2_with fail
  generalize w.alloc (.cells #[.int .i64 d.op, .int .i64 d.a, .int .i64 d.b, .int .i64 d.k, .int .i64 d.s, .slice a1 d.nv k1] 56) = wA at *
  refine (l2In_any d.op 1 7 wA).mono ?_
  rintro e w1 ⟨⟨r, rfl, hr⟩, hw1⟩
  have hw2 := hw1.symm
  clear hw1
  subst hw2
  cases r
  · clear hr
    go_wp2
    go_ret
    exact ⟨⟨false, rfl, by simp only [Bool.false_eq_true, false_iff]; exact NF.out⟩, sA⟩
  · exact absurd (hr.1 rfl) NI.out

/-- spec.l2FormOk. -/
theorem l2FormOk_any (d : NodeD) (a1 : Option Addr) (lo k1 : Nat) (w : World) (hd : d.size ≤ 1048576) (H : NodL w lo d a1 k1) :
    Calls Tryz.prog 103 #[.agg #[.int .i64 d.op, .int .i64 d.a, .int .i64 d.b, .int .i64 d.k, .int .i64 d.s, .slice a1 d.nv k1]] w fun e w' => BoolRet e d.Form ∧ w.Since w.heap.size w' := by
  by_cases h : d.op < 1 ∨ 7 < d.op
  · exact l2FormOk_no d a1 k1 w h
  have hc : d.op = 1 ∨ d.op = 2 ∨ d.op = 3 ∨ d.op = 4 ∨ d.op = 5 ∨ d.op = 6 ∨ d.op = 7 := by omega
  clear h
  obtain ⟨op, a, b, k, s, nv, V⟩ := d
  dsimp only at hc
  rcases hc with rfl | rfl | rfl | rfl | rfl | rfl | rfl
  · exact l2FormOk1 a b k s nv V a1 lo k1 w hd H
  · exact l2FormOk2 a b k s nv V a1 lo k1 w hd H
  · exact l2FormOk3 a b k s nv V a1 lo k1 w hd H
  · exact l2FormOk4 a b k s nv V a1 lo k1 w hd H
  · exact l2FormOk5 a b k s nv V a1 lo k1 w hd H
  · exact l2FormOk6 a b k s nv V a1 lo k1 w hd H
  · exact l2FormOk7 a b k s nv V a1 lo k1 w hd H

end Go.Proofs.YtlpabmcebpppfaaGreatDoor

namespace Go.Proofs.YtlpabmcebpppfaaGreatDoor
open Go.RowKit

set_option maxHeartbeats 6400000 in
set_option maxRecDepth 100000 in
theorem l2NodeCode_no (g : GraphD) (op v1 v2 v3 v4 : Int) (nv : Nat) (V : Nat → RatD) (aL aH : Option Addr) (lo kL kH kN bN oN : Nat) (a1 : Option Addr) (k1 i : Nat) (aD : Option Addr) (cD : Nat) (D : Nat → Int) (w : World) (hop : op < 1 ∨ 7 < op) (hd : (NodeD.mk op v1 v2 v3 v4 nv V).size ≤ 1048576) (M : NodM w lo bN (oN + i * 6) (NodeD.mk op v1 v2 v3 v4 nv V) a1 k1) (hi : i < g.nn) (hnn : g.nn ≤ 1000) :
    Calls Tryz.prog 80 #[.agg #[.int .i64 g.inn, .int .i64 g.rounds, .slice aL g.nl kL, .slice aH g.nh kH, .slice (some ⟨bN, oN, none⟩) g.nn kN, .int .i64 g.out], .slice aD (i + 1) cD, .int .i64 ((i + 1 : Nat) : Int)] w fun e w' => e = .returned (.int .i64 (nodeCode D (i + 1) (NodeD.mk op v1 v2 v3 v4 nv V))) ∧ w.Since w.heap.size w' := by
  have sA : w.Since w.heap.size (w.alloc (.cells #[.int .i64 g.inn, .int .i64 g.rounds, .slice aL g.nl kL, .slice aH g.nh kH, .slice (some ⟨bN, oN, none⟩) g.nn kN, .int .i64 g.out] 31)) := (World.Since.refl _ _).alloc (Nat.le_refl _) _
  have zA : (w.alloc (.cells #[.int .i64 g.inn, .int .i64 g.rounds, .slice aL g.nl kL, .slice aH g.nh kH, .slice (some ⟨bN, oN, none⟩) g.nn kN, .int .i64 g.out] 31)).heap.size = w.heap.size + 1 := by simp
  have MA := M.keep sA
  have g0 := MA.c0
  have g1 := MA.c1
  have g2 := MA.c2
  have g3 := MA.c3
  have g4 := MA.c4
  have g5 := MA.c5
  have hz : (i : Int) < (g.nn : Int) := by omega
  go_enter Tryz.func80, Tryz.ntmps80
  go_wp2_with fail
  have sB : (w.alloc (.cells #[.int .i64 g.inn, .int .i64 g.rounds, .slice aL g.nl kL, .slice aH g.nh kH, .slice (some ⟨bN, oN, none⟩) g.nn kN, .int .i64 g.out] 31)).Since (w.alloc (.cells #[.int .i64 g.inn, .int .i64 g.rounds, .slice aL g.nl kL, .slice aH g.nh kH, .slice (some ⟨bN, oN, none⟩) g.nn kN, .int .i64 g.out] 31)).heap.size ((w.alloc (.cells #[.int .i64 g.inn, .int .i64 g.rounds, .slice aL g.nl kL, .slice aH g.nh kH, .slice (some ⟨bN, oN, none⟩) g.nn kN, .int .i64 g.out] 31)).alloc (.cells #[.int .i64 op, .int .i64 v1, .int .i64 v2, .int .i64 v3, .int .i64 v4, .slice a1 nv k1] 56)) := (World.Since.refl _ _).alloc (Nat.le_refl _) _
  have nB := Box6.new (w.alloc (.cells #[.int .i64 g.inn, .int .i64 g.rounds, .slice aL g.nl kL, .slice aH g.nh kH, .slice (some ⟨bN, oN, none⟩) g.nn kN, .int .i64 g.out] 31)) (.int .i64 op) (.int .i64 v1) (.int .i64 v2) (.int .i64 v3) (.int .i64 v4) (.slice a1 nv k1) 56
  rw [zA] at nB
  have S2 := sA.trans (sinceMono sB sA.size)
  generalize (w.alloc (.cells #[.int .i64 g.inn, .int .i64 g.rounds, .slice aL g.nl kL, .slice aH g.nh kH, .slice (some ⟨bN, oN, none⟩) g.nn kN, .int .i64 g.out] 31)).alloc (.cells #[.int .i64 op, .int .i64 v1, .int .i64 v2, .int .i64 v3, .int .i64 v4, .slice a1 nv k1] 56) = w2 at *
  refine (l2FormOk_any (NodeD.mk op v1 v2 v3 v4 nv V) a1 lo k1 w2 hd (M.L.keep S2)).mono ?_
  rintro e w3 ⟨⟨r, rfl, hr⟩, s3⟩
  have S3 := S2.trans (sinceMono s3 S2.size)
  have N3 := nB.keep s3
  clear g0 g1 g2 g3 g4 g5 MA
  cases r
  · have E := hide (code_form (D := D) (i := i + 1) (d := (NodeD.mk op v1 v2 v3 v4 nv V)) (fun h => by have := hr.2 h; cases this))
    clear hr
    go_wp2
    go_ret
    exact ⟨ret_int E.out.symm, S3⟩
  · exfalso
    have f := hr.1 rfl
    have h1 : 1 ≤ op := f.o1
    have h7 : op ≤ 7 := f.o7
    omega

set_option maxHeartbeats 6400000 in
set_option maxRecDepth 100000 in
theorem l2NodeCode1 (g : GraphD) (v1 v2 v3 v4 : Int) (nv : Nat) (V : Nat → RatD) (aL aH : Option Addr) (lo kL kH kN bN oN : Nat) (a1 : Option Addr) (k1 i : Nat) (aD : Option Addr) (bD cD : Nat) (D : Nat → Int) (w : World) (hd : (NodeD.mk 1 v1 v2 v3 v4 nv V).size ≤ 1048576) (M : NodM w lo bN (oN + i * 6) (NodeD.mk 1 v1 v2 v3 v4 nv V) a1 k1) (hi : i < g.nn) (hnn : g.nn ≤ 1000) (HD : Ints w aD bD 0 (i + 1) D) (hD : Dok D (i + 1)) :
    Calls Tryz.prog 80 #[.agg #[.int .i64 g.inn, .int .i64 g.rounds, .slice aL g.nl kL, .slice aH g.nh kH, .slice (some ⟨bN, oN, none⟩) g.nn kN, .int .i64 g.out], .slice aD (i + 1) cD, .int .i64 ((i + 1 : Nat) : Int)] w fun e w' => e = .returned (.int .i64 (nodeCode D (i + 1) (NodeD.mk 1 v1 v2 v3 v4 nv V))) ∧ w.Since w.heap.size w' := by
  have sA : w.Since w.heap.size (w.alloc (.cells #[.int .i64 g.inn, .int .i64 g.rounds, .slice aL g.nl kL, .slice aH g.nh kH, .slice (some ⟨bN, oN, none⟩) g.nn kN, .int .i64 g.out] 31)) := (World.Since.refl _ _).alloc (Nat.le_refl _) _
  have zA : (w.alloc (.cells #[.int .i64 g.inn, .int .i64 g.rounds, .slice aL g.nl kL, .slice aH g.nh kH, .slice (some ⟨bN, oN, none⟩) g.nn kN, .int .i64 g.out] 31)).heap.size = w.heap.size + 1 := by simp
  have MA := M.keep sA
  have g0 := MA.c0
  have g1 := MA.c1
  have g2 := MA.c2
  have g3 := MA.c3
  have g4 := MA.c4
  have g5 := MA.c5
  have hz : (i : Int) < (g.nn : Int) := by omega
  go_enter Tryz.func80, Tryz.ntmps80
  go_wp2_with fail
  have sB : (w.alloc (.cells #[.int .i64 g.inn, .int .i64 g.rounds, .slice aL g.nl kL, .slice aH g.nh kH, .slice (some ⟨bN, oN, none⟩) g.nn kN, .int .i64 g.out] 31)).Since (w.alloc (.cells #[.int .i64 g.inn, .int .i64 g.rounds, .slice aL g.nl kL, .slice aH g.nh kH, .slice (some ⟨bN, oN, none⟩) g.nn kN, .int .i64 g.out] 31)).heap.size ((w.alloc (.cells #[.int .i64 g.inn, .int .i64 g.rounds, .slice aL g.nl kL, .slice aH g.nh kH, .slice (some ⟨bN, oN, none⟩) g.nn kN, .int .i64 g.out] 31)).alloc (.cells #[.int .i64 1, .int .i64 v1, .int .i64 v2, .int .i64 v3, .int .i64 v4, .slice a1 nv k1] 56)) := (World.Since.refl _ _).alloc (Nat.le_refl _) _
  have nB := Box6.new (w.alloc (.cells #[.int .i64 g.inn, .int .i64 g.rounds, .slice aL g.nl kL, .slice aH g.nh kH, .slice (some ⟨bN, oN, none⟩) g.nn kN, .int .i64 g.out] 31)) (.int .i64 1) (.int .i64 v1) (.int .i64 v2) (.int .i64 v3) (.int .i64 v4) (.slice a1 nv k1) 56
  rw [zA] at nB
  have S2 := sA.trans (sinceMono sB sA.size)
  generalize (w.alloc (.cells #[.int .i64 g.inn, .int .i64 g.rounds, .slice aL g.nl kL, .slice aH g.nh kH, .slice (some ⟨bN, oN, none⟩) g.nn kN, .int .i64 g.out] 31)).alloc (.cells #[.int .i64 1, .int .i64 v1, .int .i64 v2, .int .i64 v3, .int .i64 v4, .slice a1 nv k1] 56) = w2 at *
  refine (l2FormOk_any (NodeD.mk 1 v1 v2 v3 v4 nv V) a1 lo k1 w2 hd (M.L.keep S2)).mono ?_
  rintro e w3 ⟨⟨r, rfl, hr⟩, s3⟩
  have S3 := S2.trans (sinceMono s3 S2.size)
  have N3 := nB.keep s3
  clear g0 g1 g2 g3 g4 g5 MA
  cases r
  · have E := hide (code_form (D := D) (i := i + 1) (d := (NodeD.mk 1 v1 v2 v3 v4 nv V)) (fun h => by have := hr.2 h; cases this))
    clear hr
    go_wp2
    go_ret
    exact ⟨ret_int E.out.symm, S3⟩
  have F := hide (hr.1 rfl)
  clear hr
  have q0 := N3.c0
  have q1 := N3.c1
  have q2 := N3.c2
  have q3 := N3.c3
  have q4 := N3.c4
  have q5 := N3.c5
  go_wp2_with fail
  refine (l2In_any v1 0 (i : Int) w3).mono ?_
  rintro e w4 ⟨⟨r, rfl, hr⟩, hw4⟩
  have hw5 := hw4.symm
  clear hw4
  subst hw5
  cases r
  · have E := hide (code_src (D := D) (i := i + 1) F.out (fun h => by have h2 : 0 ≤ v1 ∧ v1 < ((i + 1 : Nat) : Int) := ⟨h.1, h.2.1⟩; have := hr.2 (by unfold InP; omega); cases this))
    clear hr
    go_wp2
    go_ret
    exact ⟨ret_int E.out.symm, S3⟩
  have IA := hide (hr.1 rfl)
  clear hr
  have JB := l2UsesB_eq 1 false w3 (by decide)
  go_wp2_with fail
  refine JB.mono ?_
  rintro e w4 ⟨rfl, hw4⟩
  have hw5 := hw4.symm
  clear hw4
  subst hw5
  clear JB
  have G := hide (show SrcOk (NodeD.mk 1 v1 v2 v3 v4 nv V) (i + 1) from ⟨by have h : 0 ≤ v1 ∧ v1 ≤ i := IA.out; exact h.1, by have h : 0 ≤ v1 ∧ v1 ≤ i := IA.out; show v1 < ((i + 1 : Nat) : Int); omega, fun h => (by cases h)⟩)
  obtain ⟨j, hj⟩ : ∃ j : Nat, v1 = j := ⟨v1.toNat, by have h : 0 ≤ v1 ∧ v1 ≤ i := IA.out; omega⟩
  subst hj
  have hjn : j < i + 1 := by have h : 0 ≤ (j : Int) ∧ (j : Int) ≤ i := IA.out; omega
  obtain ⟨x, hx⟩ : ∃ x, D j = x := ⟨_, rfl⟩
  have hDj := hD j hjn
  rw [hx] at hDj
  obtain ⟨ed, gx⟩ := (HD.keep S3) j hjn
  rw [Nat.zero_add, hx] at gx
  subst ed
  have hz2 : (j : Int) < ((i + 1 : Nat) : Int) := by omega
  have hk : 0 ≤ v3 ∧ v3 ≤ 1000 := by have h : 1 ≤ v3 ∧ v3 ≤ 1000 := F.out.k; omega
  have hv : nv ≤ 1048576 := by have h : nv + szR V nv ≤ 1048576 := hd; omega
  have y0 : 0 ≤ v3 * (x + 1) := Int.mul_nonneg hk.1 (by omega)
  have y1 : v3 * (x + 1) ≤ 1000 * 1001 := Int.mul_le_mul hk.2 (by omega) (by omega) (by omega)
  obtain ⟨y, hy⟩ : ∃ y, v3 * (x + 1) = y := ⟨_, rfl⟩
  rw [hy] at y0 y1
  by_cases h : (nv : Int) = y
  · have E := hide (show nodeCode D (i + 1) (NodeD.mk 1 (j : Int) v2 v3 v4 nv V) = 0 by rw [code_shape F.out G.out]; simp [shapeCode, hx, hy, h])
    have tq : ((nv : Int) != y) = false := by simp [h]
    clear h
    go_wp2
    go_ret
    exact ⟨ret_int E.out.symm, S3⟩
  · have E := hide (show nodeCode D (i + 1) (NodeD.mk 1 (j : Int) v2 v3 v4 nv V) = 14 by rw [code_shape F.out G.out]; simp [shapeCode, hx, hy, h])
    have tq : ((nv : Int) != y) = true := by simp [h]
    clear h
    go_wp2
    go_ret
    exact ⟨ret_int E.out.symm, S3⟩

set_option maxHeartbeats 6400000 in
set_option maxRecDepth 100000 in
theorem l2NodeCode2 (g : GraphD) (v1 v2 v3 v4 : Int) (nv : Nat) (V : Nat → RatD) (aL aH : Option Addr) (lo kL kH kN bN oN : Nat) (a1 : Option Addr) (k1 i : Nat) (aD : Option Addr) (bD cD : Nat) (D : Nat → Int) (w : World) (hd : (NodeD.mk 2 v1 v2 v3 v4 nv V).size ≤ 1048576) (M : NodM w lo bN (oN + i * 6) (NodeD.mk 2 v1 v2 v3 v4 nv V) a1 k1) (hi : i < g.nn) (hnn : g.nn ≤ 1000) (HD : Ints w aD bD 0 (i + 1) D) (hD : Dok D (i + 1)) :
    Calls Tryz.prog 80 #[.agg #[.int .i64 g.inn, .int .i64 g.rounds, .slice aL g.nl kL, .slice aH g.nh kH, .slice (some ⟨bN, oN, none⟩) g.nn kN, .int .i64 g.out], .slice aD (i + 1) cD, .int .i64 ((i + 1 : Nat) : Int)] w fun e w' => e = .returned (.int .i64 (nodeCode D (i + 1) (NodeD.mk 2 v1 v2 v3 v4 nv V))) ∧ w.Since w.heap.size w' := by
  have sA : w.Since w.heap.size (w.alloc (.cells #[.int .i64 g.inn, .int .i64 g.rounds, .slice aL g.nl kL, .slice aH g.nh kH, .slice (some ⟨bN, oN, none⟩) g.nn kN, .int .i64 g.out] 31)) := (World.Since.refl _ _).alloc (Nat.le_refl _) _
  have zA : (w.alloc (.cells #[.int .i64 g.inn, .int .i64 g.rounds, .slice aL g.nl kL, .slice aH g.nh kH, .slice (some ⟨bN, oN, none⟩) g.nn kN, .int .i64 g.out] 31)).heap.size = w.heap.size + 1 := by simp
  have MA := M.keep sA
  have g0 := MA.c0
  have g1 := MA.c1
  have g2 := MA.c2
  have g3 := MA.c3
  have g4 := MA.c4
  have g5 := MA.c5
  have hz : (i : Int) < (g.nn : Int) := by omega
  go_enter Tryz.func80, Tryz.ntmps80
  go_wp2_with fail
  have sB : (w.alloc (.cells #[.int .i64 g.inn, .int .i64 g.rounds, .slice aL g.nl kL, .slice aH g.nh kH, .slice (some ⟨bN, oN, none⟩) g.nn kN, .int .i64 g.out] 31)).Since (w.alloc (.cells #[.int .i64 g.inn, .int .i64 g.rounds, .slice aL g.nl kL, .slice aH g.nh kH, .slice (some ⟨bN, oN, none⟩) g.nn kN, .int .i64 g.out] 31)).heap.size ((w.alloc (.cells #[.int .i64 g.inn, .int .i64 g.rounds, .slice aL g.nl kL, .slice aH g.nh kH, .slice (some ⟨bN, oN, none⟩) g.nn kN, .int .i64 g.out] 31)).alloc (.cells #[.int .i64 2, .int .i64 v1, .int .i64 v2, .int .i64 v3, .int .i64 v4, .slice a1 nv k1] 56)) := (World.Since.refl _ _).alloc (Nat.le_refl _) _
  have nB := Box6.new (w.alloc (.cells #[.int .i64 g.inn, .int .i64 g.rounds, .slice aL g.nl kL, .slice aH g.nh kH, .slice (some ⟨bN, oN, none⟩) g.nn kN, .int .i64 g.out] 31)) (.int .i64 2) (.int .i64 v1) (.int .i64 v2) (.int .i64 v3) (.int .i64 v4) (.slice a1 nv k1) 56
  rw [zA] at nB
  have S2 := sA.trans (sinceMono sB sA.size)
  generalize (w.alloc (.cells #[.int .i64 g.inn, .int .i64 g.rounds, .slice aL g.nl kL, .slice aH g.nh kH, .slice (some ⟨bN, oN, none⟩) g.nn kN, .int .i64 g.out] 31)).alloc (.cells #[.int .i64 2, .int .i64 v1, .int .i64 v2, .int .i64 v3, .int .i64 v4, .slice a1 nv k1] 56) = w2 at *
  refine (l2FormOk_any (NodeD.mk 2 v1 v2 v3 v4 nv V) a1 lo k1 w2 hd (M.L.keep S2)).mono ?_
  rintro e w3 ⟨⟨r, rfl, hr⟩, s3⟩
  have S3 := S2.trans (sinceMono s3 S2.size)
  have N3 := nB.keep s3
  clear g0 g1 g2 g3 g4 g5 MA
  cases r
  · have E := hide (code_form (D := D) (i := i + 1) (d := (NodeD.mk 2 v1 v2 v3 v4 nv V)) (fun h => by have := hr.2 h; cases this))
    clear hr
    go_wp2
    go_ret
    exact ⟨ret_int E.out.symm, S3⟩
  have F := hide (hr.1 rfl)
  clear hr
  have q0 := N3.c0
  have q1 := N3.c1
  have q2 := N3.c2
  have q3 := N3.c3
  have q4 := N3.c4
  have q5 := N3.c5
  go_wp2_with fail
  refine (l2In_any v1 0 (i : Int) w3).mono ?_
  rintro e w4 ⟨⟨r, rfl, hr⟩, hw4⟩
  have hw5 := hw4.symm
  clear hw4
  subst hw5
  cases r
  · have E := hide (code_src (D := D) (i := i + 1) F.out (fun h => by have h2 : 0 ≤ v1 ∧ v1 < ((i + 1 : Nat) : Int) := ⟨h.1, h.2.1⟩; have := hr.2 (by unfold InP; omega); cases this))
    clear hr
    go_wp2
    go_ret
    exact ⟨ret_int E.out.symm, S3⟩
  have IA := hide (hr.1 rfl)
  clear hr
  have JB := l2UsesB_eq 2 false w3 (by decide)
  go_wp2_with fail
  refine JB.mono ?_
  rintro e w4 ⟨rfl, hw4⟩
  have hw5 := hw4.symm
  clear hw4
  subst hw5
  clear JB
  have G := hide (show SrcOk (NodeD.mk 2 v1 v2 v3 v4 nv V) (i + 1) from ⟨by have h : 0 ≤ v1 ∧ v1 ≤ i := IA.out; exact h.1, by have h : 0 ≤ v1 ∧ v1 ≤ i := IA.out; show v1 < ((i + 1 : Nat) : Int); omega, fun h => (by cases h)⟩)
  obtain ⟨j, hj⟩ : ∃ j : Nat, v1 = j := ⟨v1.toNat, by have h : 0 ≤ v1 ∧ v1 ≤ i := IA.out; omega⟩
  subst hj
  have hjn : j < i + 1 := by have h : 0 ≤ (j : Int) ∧ (j : Int) ≤ i := IA.out; omega
  obtain ⟨x, hx⟩ : ∃ x, D j = x := ⟨_, rfl⟩
  have hDj := hD j hjn
  rw [hx] at hDj
  obtain ⟨ed, gx⟩ := (HD.keep S3) j hjn
  rw [Nat.zero_add, hx] at gx
  subst ed
  have hz2 : (j : Int) < ((i + 1 : Nat) : Int) := by omega
  have E := hide (show nodeCode D (i + 1) (NodeD.mk 2 (j : Int) v2 v3 v4 nv V) = 0 by rw [code_shape F.out G.out]; simp [shapeCode])
  go_wp2
  go_ret
  exact ⟨ret_int E.out.symm, S3⟩

end Go.Proofs.YtlpabmcebpppfaaGreatDoor

namespace Go.Proofs.YtlpabmcebpppfaaGreatDoor
open Go.RowKit

set_option maxHeartbeats 6400000 in
set_option maxRecDepth 100000 in
theorem l2NodeCode3 (g : GraphD) (v1 v2 v3 v4 : Int) (nv : Nat) (V : Nat → RatD) (aL aH : Option Addr) (lo kL kH kN bN oN : Nat) (a1 : Option Addr) (k1 i : Nat) (aD : Option Addr) (bD cD : Nat) (D : Nat → Int) (w : World) (hd : (NodeD.mk 3 v1 v2 v3 v4 nv V).size ≤ 1048576) (M : NodM w lo bN (oN + i * 6) (NodeD.mk 3 v1 v2 v3 v4 nv V) a1 k1) (hi : i < g.nn) (hnn : g.nn ≤ 1000) (HD : Ints w aD bD 0 (i + 1) D) (hD : Dok D (i + 1)) :
    Calls Tryz.prog 80 #[.agg #[.int .i64 g.inn, .int .i64 g.rounds, .slice aL g.nl kL, .slice aH g.nh kH, .slice (some ⟨bN, oN, none⟩) g.nn kN, .int .i64 g.out], .slice aD (i + 1) cD, .int .i64 ((i + 1 : Nat) : Int)] w fun e w' => e = .returned (.int .i64 (nodeCode D (i + 1) (NodeD.mk 3 v1 v2 v3 v4 nv V))) ∧ w.Since w.heap.size w' := by
  have sA : w.Since w.heap.size (w.alloc (.cells #[.int .i64 g.inn, .int .i64 g.rounds, .slice aL g.nl kL, .slice aH g.nh kH, .slice (some ⟨bN, oN, none⟩) g.nn kN, .int .i64 g.out] 31)) := (World.Since.refl _ _).alloc (Nat.le_refl _) _
  have zA : (w.alloc (.cells #[.int .i64 g.inn, .int .i64 g.rounds, .slice aL g.nl kL, .slice aH g.nh kH, .slice (some ⟨bN, oN, none⟩) g.nn kN, .int .i64 g.out] 31)).heap.size = w.heap.size + 1 := by simp
  have MA := M.keep sA
  have g0 := MA.c0
  have g1 := MA.c1
  have g2 := MA.c2
  have g3 := MA.c3
  have g4 := MA.c4
  have g5 := MA.c5
  have hz : (i : Int) < (g.nn : Int) := by omega
  go_enter Tryz.func80, Tryz.ntmps80
  go_wp2_with fail
  have sB : (w.alloc (.cells #[.int .i64 g.inn, .int .i64 g.rounds, .slice aL g.nl kL, .slice aH g.nh kH, .slice (some ⟨bN, oN, none⟩) g.nn kN, .int .i64 g.out] 31)).Since (w.alloc (.cells #[.int .i64 g.inn, .int .i64 g.rounds, .slice aL g.nl kL, .slice aH g.nh kH, .slice (some ⟨bN, oN, none⟩) g.nn kN, .int .i64 g.out] 31)).heap.size ((w.alloc (.cells #[.int .i64 g.inn, .int .i64 g.rounds, .slice aL g.nl kL, .slice aH g.nh kH, .slice (some ⟨bN, oN, none⟩) g.nn kN, .int .i64 g.out] 31)).alloc (.cells #[.int .i64 3, .int .i64 v1, .int .i64 v2, .int .i64 v3, .int .i64 v4, .slice a1 nv k1] 56)) := (World.Since.refl _ _).alloc (Nat.le_refl _) _
  have nB := Box6.new (w.alloc (.cells #[.int .i64 g.inn, .int .i64 g.rounds, .slice aL g.nl kL, .slice aH g.nh kH, .slice (some ⟨bN, oN, none⟩) g.nn kN, .int .i64 g.out] 31)) (.int .i64 3) (.int .i64 v1) (.int .i64 v2) (.int .i64 v3) (.int .i64 v4) (.slice a1 nv k1) 56
  rw [zA] at nB
  have S2 := sA.trans (sinceMono sB sA.size)
  generalize (w.alloc (.cells #[.int .i64 g.inn, .int .i64 g.rounds, .slice aL g.nl kL, .slice aH g.nh kH, .slice (some ⟨bN, oN, none⟩) g.nn kN, .int .i64 g.out] 31)).alloc (.cells #[.int .i64 3, .int .i64 v1, .int .i64 v2, .int .i64 v3, .int .i64 v4, .slice a1 nv k1] 56) = w2 at *
  refine (l2FormOk_any (NodeD.mk 3 v1 v2 v3 v4 nv V) a1 lo k1 w2 hd (M.L.keep S2)).mono ?_
  rintro e w3 ⟨⟨r, rfl, hr⟩, s3⟩
  have S3 := S2.trans (sinceMono s3 S2.size)
  have N3 := nB.keep s3
  clear g0 g1 g2 g3 g4 g5 MA
  cases r
  · have E := hide (code_form (D := D) (i := i + 1) (d := (NodeD.mk 3 v1 v2 v3 v4 nv V)) (fun h => by have := hr.2 h; cases this))
    clear hr
    go_wp2
    go_ret
    exact ⟨ret_int E.out.symm, S3⟩
  have F := hide (hr.1 rfl)
  clear hr
  have q0 := N3.c0
  have q1 := N3.c1
  have q2 := N3.c2
  have q3 := N3.c3
  have q4 := N3.c4
  have q5 := N3.c5
  go_wp2_with fail
  refine (l2In_any v1 0 (i : Int) w3).mono ?_
  rintro e w4 ⟨⟨r, rfl, hr⟩, hw4⟩
  have hw5 := hw4.symm
  clear hw4
  subst hw5
  cases r
  · have E := hide (code_src (D := D) (i := i + 1) F.out (fun h => by have h2 : 0 ≤ v1 ∧ v1 < ((i + 1 : Nat) : Int) := ⟨h.1, h.2.1⟩; have := hr.2 (by unfold InP; omega); cases this))
    clear hr
    go_wp2
    go_ret
    exact ⟨ret_int E.out.symm, S3⟩
  have IA := hide (hr.1 rfl)
  clear hr
  have JB := l2UsesB_eq 3 false w3 (by decide)
  go_wp2_with fail
  refine JB.mono ?_
  rintro e w4 ⟨rfl, hw4⟩
  have hw5 := hw4.symm
  clear hw4
  subst hw5
  clear JB
  have G := hide (show SrcOk (NodeD.mk 3 v1 v2 v3 v4 nv V) (i + 1) from ⟨by have h : 0 ≤ v1 ∧ v1 ≤ i := IA.out; exact h.1, by have h : 0 ≤ v1 ∧ v1 ≤ i := IA.out; show v1 < ((i + 1 : Nat) : Int); omega, fun h => (by cases h)⟩)
  obtain ⟨j, hj⟩ : ∃ j : Nat, v1 = j := ⟨v1.toNat, by have h : 0 ≤ v1 ∧ v1 ≤ i := IA.out; omega⟩
  subst hj
  have hjn : j < i + 1 := by have h : 0 ≤ (j : Int) ∧ (j : Int) ≤ i := IA.out; omega
  obtain ⟨x, hx⟩ : ∃ x, D j = x := ⟨_, rfl⟩
  have hDj := hD j hjn
  rw [hx] at hDj
  obtain ⟨ed, gx⟩ := (HD.keep S3) j hjn
  rw [Nat.zero_add, hx] at gx
  subst ed
  have hz2 : (j : Int) < ((i + 1 : Nat) : Int) := by omega
  have E := hide (show nodeCode D (i + 1) (NodeD.mk 3 (j : Int) v2 v3 v4 nv V) = 0 by rw [code_shape F.out G.out]; simp [shapeCode])
  go_wp2
  go_ret
  exact ⟨ret_int E.out.symm, S3⟩

set_option maxHeartbeats 6400000 in
set_option maxRecDepth 100000 in
theorem l2NodeCode4 (g : GraphD) (v1 v2 v3 v4 : Int) (nv : Nat) (V : Nat → RatD) (aL aH : Option Addr) (lo kL kH kN bN oN : Nat) (a1 : Option Addr) (k1 i : Nat) (aD : Option Addr) (bD cD : Nat) (D : Nat → Int) (w : World) (hd : (NodeD.mk 4 v1 v2 v3 v4 nv V).size ≤ 1048576) (M : NodM w lo bN (oN + i * 6) (NodeD.mk 4 v1 v2 v3 v4 nv V) a1 k1) (hi : i < g.nn) (hnn : g.nn ≤ 1000) (HD : Ints w aD bD 0 (i + 1) D) (hD : Dok D (i + 1)) :
    Calls Tryz.prog 80 #[.agg #[.int .i64 g.inn, .int .i64 g.rounds, .slice aL g.nl kL, .slice aH g.nh kH, .slice (some ⟨bN, oN, none⟩) g.nn kN, .int .i64 g.out], .slice aD (i + 1) cD, .int .i64 ((i + 1 : Nat) : Int)] w fun e w' => e = .returned (.int .i64 (nodeCode D (i + 1) (NodeD.mk 4 v1 v2 v3 v4 nv V))) ∧ w.Since w.heap.size w' := by
  have sA : w.Since w.heap.size (w.alloc (.cells #[.int .i64 g.inn, .int .i64 g.rounds, .slice aL g.nl kL, .slice aH g.nh kH, .slice (some ⟨bN, oN, none⟩) g.nn kN, .int .i64 g.out] 31)) := (World.Since.refl _ _).alloc (Nat.le_refl _) _
  have zA : (w.alloc (.cells #[.int .i64 g.inn, .int .i64 g.rounds, .slice aL g.nl kL, .slice aH g.nh kH, .slice (some ⟨bN, oN, none⟩) g.nn kN, .int .i64 g.out] 31)).heap.size = w.heap.size + 1 := by simp
  have MA := M.keep sA
  have g0 := MA.c0
  have g1 := MA.c1
  have g2 := MA.c2
  have g3 := MA.c3
  have g4 := MA.c4
  have g5 := MA.c5
  have hz : (i : Int) < (g.nn : Int) := by omega
  go_enter Tryz.func80, Tryz.ntmps80
  go_wp2_with fail
  have sB : (w.alloc (.cells #[.int .i64 g.inn, .int .i64 g.rounds, .slice aL g.nl kL, .slice aH g.nh kH, .slice (some ⟨bN, oN, none⟩) g.nn kN, .int .i64 g.out] 31)).Since (w.alloc (.cells #[.int .i64 g.inn, .int .i64 g.rounds, .slice aL g.nl kL, .slice aH g.nh kH, .slice (some ⟨bN, oN, none⟩) g.nn kN, .int .i64 g.out] 31)).heap.size ((w.alloc (.cells #[.int .i64 g.inn, .int .i64 g.rounds, .slice aL g.nl kL, .slice aH g.nh kH, .slice (some ⟨bN, oN, none⟩) g.nn kN, .int .i64 g.out] 31)).alloc (.cells #[.int .i64 4, .int .i64 v1, .int .i64 v2, .int .i64 v3, .int .i64 v4, .slice a1 nv k1] 56)) := (World.Since.refl _ _).alloc (Nat.le_refl _) _
  have nB := Box6.new (w.alloc (.cells #[.int .i64 g.inn, .int .i64 g.rounds, .slice aL g.nl kL, .slice aH g.nh kH, .slice (some ⟨bN, oN, none⟩) g.nn kN, .int .i64 g.out] 31)) (.int .i64 4) (.int .i64 v1) (.int .i64 v2) (.int .i64 v3) (.int .i64 v4) (.slice a1 nv k1) 56
  rw [zA] at nB
  have S2 := sA.trans (sinceMono sB sA.size)
  generalize (w.alloc (.cells #[.int .i64 g.inn, .int .i64 g.rounds, .slice aL g.nl kL, .slice aH g.nh kH, .slice (some ⟨bN, oN, none⟩) g.nn kN, .int .i64 g.out] 31)).alloc (.cells #[.int .i64 4, .int .i64 v1, .int .i64 v2, .int .i64 v3, .int .i64 v4, .slice a1 nv k1] 56) = w2 at *
  refine (l2FormOk_any (NodeD.mk 4 v1 v2 v3 v4 nv V) a1 lo k1 w2 hd (M.L.keep S2)).mono ?_
  rintro e w3 ⟨⟨r, rfl, hr⟩, s3⟩
  have S3 := S2.trans (sinceMono s3 S2.size)
  have N3 := nB.keep s3
  clear g0 g1 g2 g3 g4 g5 MA
  cases r
  · have E := hide (code_form (D := D) (i := i + 1) (d := (NodeD.mk 4 v1 v2 v3 v4 nv V)) (fun h => by have := hr.2 h; cases this))
    clear hr
    go_wp2
    go_ret
    exact ⟨ret_int E.out.symm, S3⟩
  have F := hide (hr.1 rfl)
  clear hr
  have q0 := N3.c0
  have q1 := N3.c1
  have q2 := N3.c2
  have q3 := N3.c3
  have q4 := N3.c4
  have q5 := N3.c5
  go_wp2_with fail
  refine (l2In_any v1 0 (i : Int) w3).mono ?_
  rintro e w4 ⟨⟨r, rfl, hr⟩, hw4⟩
  have hw5 := hw4.symm
  clear hw4
  subst hw5
  cases r
  · have E := hide (code_src (D := D) (i := i + 1) F.out (fun h => by have h2 : 0 ≤ v1 ∧ v1 < ((i + 1 : Nat) : Int) := ⟨h.1, h.2.1⟩; have := hr.2 (by unfold InP; omega); cases this))
    clear hr
    go_wp2
    go_ret
    exact ⟨ret_int E.out.symm, S3⟩
  have IA := hide (hr.1 rfl)
  clear hr
  have JB := l2UsesB_eq 4 true w3 (by decide)
  go_wp2_with fail
  refine JB.mono ?_
  rintro e w4 ⟨rfl, hw4⟩
  have hw5 := hw4.symm
  clear hw4
  subst hw5
  clear JB
  go_wp2_with fail
  refine (l2In_any v2 0 (i : Int) w3).mono ?_
  rintro e w4 ⟨⟨r, rfl, hr⟩, hw4⟩
  have hw5 := hw4.symm
  clear hw4
  subst hw5
  cases r
  · have E := hide (code_src (D := D) (i := i + 1) F.out (fun h => by have h2 : 0 ≤ v2 ∧ v2 < ((i + 1 : Nat) : Int) := h.2.2 rfl; have := hr.2 (by unfold InP; omega); cases this))
    clear hr
    go_wp2
    go_ret
    exact ⟨ret_int E.out.symm, S3⟩
  have IB := hide (hr.1 rfl)
  clear hr
  have G := hide (show SrcOk (NodeD.mk 4 v1 v2 v3 v4 nv V) (i + 1) from ⟨by have h : 0 ≤ v1 ∧ v1 ≤ i := IA.out; exact h.1, by have h : 0 ≤ v1 ∧ v1 ≤ i := IA.out; show v1 < ((i + 1 : Nat) : Int); omega, fun _ => by have h : 0 ≤ v2 ∧ v2 ≤ i := IB.out; show 0 ≤ v2 ∧ v2 < ((i + 1 : Nat) : Int); omega⟩)
  obtain ⟨j, hj⟩ : ∃ j : Nat, v1 = j := ⟨v1.toNat, by have h : 0 ≤ v1 ∧ v1 ≤ i := IA.out; omega⟩
  subst hj
  have hjn : j < i + 1 := by have h : 0 ≤ (j : Int) ∧ (j : Int) ≤ i := IA.out; omega
  obtain ⟨x, hx⟩ : ∃ x, D j = x := ⟨_, rfl⟩
  have hDj := hD j hjn
  rw [hx] at hDj
  obtain ⟨ed, gx⟩ := (HD.keep S3) j hjn
  rw [Nat.zero_add, hx] at gx
  subst ed
  have hz2 : (j : Int) < ((i + 1 : Nat) : Int) := by omega
  obtain ⟨i2, hi2⟩ : ∃ i2 : Nat, v2 = i2 := ⟨v2.toNat, by have h : 0 ≤ v2 ∧ v2 ≤ i := IB.out; omega⟩
  subst hi2
  have hi3 : i2 < i + 1 := by have h : 0 ≤ (i2 : Int) ∧ (i2 : Int) ≤ i := IB.out; omega
  obtain ⟨-, gy⟩ := (HD.keep S3) i2 hi3
  rw [Nat.zero_add] at gy
  have hz3 : (i2 : Int) < ((i + 1 : Nat) : Int) := by omega
  obtain ⟨y, hy⟩ : ∃ y, D i2 = y := ⟨_, rfl⟩
  rw [hy] at gy
  by_cases h : y = x
  · have E := hide (show nodeCode D (i + 1) (NodeD.mk 4 (j : Int) (i2 : Int) v3 v4 nv V) = 0 by rw [code_shape F.out G.out]; simp [shapeCode, hx, hy, h])
    have tq : (y != x) = false := by simp [h]
    clear h
    go_wp2
    go_ret
    exact ⟨ret_int E.out.symm, S3⟩
  · have E := hide (show nodeCode D (i + 1) (NodeD.mk 4 (j : Int) (i2 : Int) v3 v4 nv V) = 14 by rw [code_shape F.out G.out]; simp [shapeCode, hx, hy, h])
    have tq : (y != x) = true := by simp [h]
    clear h
    go_wp2
    go_ret
    exact ⟨ret_int E.out.symm, S3⟩

set_option maxHeartbeats 6400000 in
set_option maxRecDepth 100000 in
theorem l2NodeCode5 (g : GraphD) (v1 v2 v3 v4 : Int) (nv : Nat) (V : Nat → RatD) (aL aH : Option Addr) (lo kL kH kN bN oN : Nat) (a1 : Option Addr) (k1 i : Nat) (aD : Option Addr) (bD cD : Nat) (D : Nat → Int) (w : World) (hd : (NodeD.mk 5 v1 v2 v3 v4 nv V).size ≤ 1048576) (M : NodM w lo bN (oN + i * 6) (NodeD.mk 5 v1 v2 v3 v4 nv V) a1 k1) (hi : i < g.nn) (hnn : g.nn ≤ 1000) (HD : Ints w aD bD 0 (i + 1) D) (hD : Dok D (i + 1)) :
    Calls Tryz.prog 80 #[.agg #[.int .i64 g.inn, .int .i64 g.rounds, .slice aL g.nl kL, .slice aH g.nh kH, .slice (some ⟨bN, oN, none⟩) g.nn kN, .int .i64 g.out], .slice aD (i + 1) cD, .int .i64 ((i + 1 : Nat) : Int)] w fun e w' => e = .returned (.int .i64 (nodeCode D (i + 1) (NodeD.mk 5 v1 v2 v3 v4 nv V))) ∧ w.Since w.heap.size w' := by
  have sA : w.Since w.heap.size (w.alloc (.cells #[.int .i64 g.inn, .int .i64 g.rounds, .slice aL g.nl kL, .slice aH g.nh kH, .slice (some ⟨bN, oN, none⟩) g.nn kN, .int .i64 g.out] 31)) := (World.Since.refl _ _).alloc (Nat.le_refl _) _
  have zA : (w.alloc (.cells #[.int .i64 g.inn, .int .i64 g.rounds, .slice aL g.nl kL, .slice aH g.nh kH, .slice (some ⟨bN, oN, none⟩) g.nn kN, .int .i64 g.out] 31)).heap.size = w.heap.size + 1 := by simp
  have MA := M.keep sA
  have g0 := MA.c0
  have g1 := MA.c1
  have g2 := MA.c2
  have g3 := MA.c3
  have g4 := MA.c4
  have g5 := MA.c5
  have hz : (i : Int) < (g.nn : Int) := by omega
  go_enter Tryz.func80, Tryz.ntmps80
  go_wp2_with fail
  have sB : (w.alloc (.cells #[.int .i64 g.inn, .int .i64 g.rounds, .slice aL g.nl kL, .slice aH g.nh kH, .slice (some ⟨bN, oN, none⟩) g.nn kN, .int .i64 g.out] 31)).Since (w.alloc (.cells #[.int .i64 g.inn, .int .i64 g.rounds, .slice aL g.nl kL, .slice aH g.nh kH, .slice (some ⟨bN, oN, none⟩) g.nn kN, .int .i64 g.out] 31)).heap.size ((w.alloc (.cells #[.int .i64 g.inn, .int .i64 g.rounds, .slice aL g.nl kL, .slice aH g.nh kH, .slice (some ⟨bN, oN, none⟩) g.nn kN, .int .i64 g.out] 31)).alloc (.cells #[.int .i64 5, .int .i64 v1, .int .i64 v2, .int .i64 v3, .int .i64 v4, .slice a1 nv k1] 56)) := (World.Since.refl _ _).alloc (Nat.le_refl _) _
  have nB := Box6.new (w.alloc (.cells #[.int .i64 g.inn, .int .i64 g.rounds, .slice aL g.nl kL, .slice aH g.nh kH, .slice (some ⟨bN, oN, none⟩) g.nn kN, .int .i64 g.out] 31)) (.int .i64 5) (.int .i64 v1) (.int .i64 v2) (.int .i64 v3) (.int .i64 v4) (.slice a1 nv k1) 56
  rw [zA] at nB
  have S2 := sA.trans (sinceMono sB sA.size)
  generalize (w.alloc (.cells #[.int .i64 g.inn, .int .i64 g.rounds, .slice aL g.nl kL, .slice aH g.nh kH, .slice (some ⟨bN, oN, none⟩) g.nn kN, .int .i64 g.out] 31)).alloc (.cells #[.int .i64 5, .int .i64 v1, .int .i64 v2, .int .i64 v3, .int .i64 v4, .slice a1 nv k1] 56) = w2 at *
  refine (l2FormOk_any (NodeD.mk 5 v1 v2 v3 v4 nv V) a1 lo k1 w2 hd (M.L.keep S2)).mono ?_
  rintro e w3 ⟨⟨r, rfl, hr⟩, s3⟩
  have S3 := S2.trans (sinceMono s3 S2.size)
  have N3 := nB.keep s3
  clear g0 g1 g2 g3 g4 g5 MA
  cases r
  · have E := hide (code_form (D := D) (i := i + 1) (d := (NodeD.mk 5 v1 v2 v3 v4 nv V)) (fun h => by have := hr.2 h; cases this))
    clear hr
    go_wp2
    go_ret
    exact ⟨ret_int E.out.symm, S3⟩
  have F := hide (hr.1 rfl)
  clear hr
  have q0 := N3.c0
  have q1 := N3.c1
  have q2 := N3.c2
  have q3 := N3.c3
  have q4 := N3.c4
  have q5 := N3.c5
  go_wp2_with fail
  refine (l2In_any v1 0 (i : Int) w3).mono ?_
  rintro e w4 ⟨⟨r, rfl, hr⟩, hw4⟩
  have hw5 := hw4.symm
  clear hw4
  subst hw5
  cases r
  · have E := hide (code_src (D := D) (i := i + 1) F.out (fun h => by have h2 : 0 ≤ v1 ∧ v1 < ((i + 1 : Nat) : Int) := ⟨h.1, h.2.1⟩; have := hr.2 (by unfold InP; omega); cases this))
    clear hr
    go_wp2
    go_ret
    exact ⟨ret_int E.out.symm, S3⟩
  have IA := hide (hr.1 rfl)
  clear hr
  have JB := l2UsesB_eq 5 false w3 (by decide)
  go_wp2_with fail
  refine JB.mono ?_
  rintro e w4 ⟨rfl, hw4⟩
  have hw5 := hw4.symm
  clear hw4
  subst hw5
  clear JB
  have G := hide (show SrcOk (NodeD.mk 5 v1 v2 v3 v4 nv V) (i + 1) from ⟨by have h : 0 ≤ v1 ∧ v1 ≤ i := IA.out; exact h.1, by have h : 0 ≤ v1 ∧ v1 ≤ i := IA.out; show v1 < ((i + 1 : Nat) : Int); omega, fun h => (by cases h)⟩)
  obtain ⟨j, hj⟩ : ∃ j : Nat, v1 = j := ⟨v1.toNat, by have h : 0 ≤ v1 ∧ v1 ≤ i := IA.out; omega⟩
  subst hj
  have hjn : j < i + 1 := by have h : 0 ≤ (j : Int) ∧ (j : Int) ≤ i := IA.out; omega
  obtain ⟨x, hx⟩ : ∃ x, D j = x := ⟨_, rfl⟩
  have hDj := hD j hjn
  rw [hx] at hDj
  obtain ⟨ed, gx⟩ := (HD.keep S3) j hjn
  rw [Nat.zero_add, hx] at gx
  subst ed
  have hz2 : (j : Int) < ((i + 1 : Nat) : Int) := by omega
  have hk : 1 ≤ v3 ∧ v3 ≤ 1000 := F.out.k
  have hk0 : ¬ v3 = 0 := by omega
  have p1 : x.tmod v3 = x % v3 := Int.tmod_eq_emod_of_nonneg (by omega)
  obtain ⟨y, hy⟩ : ∃ y, y = x % v3 := ⟨_, rfl⟩
  rw [← hy] at p1
  by_cases h : y = 0
  · have E := hide (show nodeCode D (i + 1) (NodeD.mk 5 (j : Int) v2 v3 v4 nv V) = 0 by rw [code_shape F.out G.out]; rw [h] at hy; simp [shapeCode, hx, ← hy])
    have tq : (y != 0) = false := by simp [h]
    clear h hy
    go_wp2
    go_ret
    exact ⟨ret_int E.out.symm, S3⟩
  · have E := hide (show nodeCode D (i + 1) (NodeD.mk 5 (j : Int) v2 v3 v4 nv V) = 14 by rw [code_shape F.out G.out]; rw [hy] at h; simp [shapeCode, hx, h])
    have tq : (y != 0) = true := by simp [h]
    clear h hy
    go_wp2
    go_ret
    exact ⟨ret_int E.out.symm, S3⟩

end Go.Proofs.YtlpabmcebpppfaaGreatDoor
