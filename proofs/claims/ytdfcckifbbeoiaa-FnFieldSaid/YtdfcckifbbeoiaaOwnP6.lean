import Derived.Test.YtdfcckifbbeoiaaOwnP5
import Derived.Test.YtdfcckifbbeoiaaOwnP2
import Derived.Deep.Onto
import Derived.Deep.AppendLies
import Derived.Deep.RegionHeld3
namespace Go.Proofs.Ytdfcckifbbeoiaa
open Go.RowKit

set_option maxHeartbeats 1600000 in
set_option maxRecDepth 100000 in
/-- l1Copy of a Rat whose lists are not nil: nor are the answer's. -/
theorem l1Copy_own (f : Bool) (x y : Option Addr) (ba oa n ca bb ob m cb : Nat) (X Y : Nat → Nat) (w : World) (hn : n ≤ 1048576) (hm : m ≤ 1048576) (hnc : n ≤ ca) (hmc : m ≤ cb) (hxc : x = none → ca = 0) (hyc : y = none → cb = 0) (hX : Limbs w x ba oa n X) (hY : Limbs w y bb ob m Y) :
    Calls Try.prog 97 #[.agg #[.bool f, .slice x n ca, .slice y m cb]] w fun e w' => ∃ g h c1 c2, e = .returned (.agg #[.bool f, .slice (some ⟨g, 0, none⟩) n c1, .slice (some ⟨h, 0, none⟩) m c2]) ∧ w'.ownsRow (w.heap.size + 1 + 1) 35 1 (.slice (some ⟨g, 0, none⟩) n c1) n (ll X n) ∧ w'.ownsRow (w.heap.size + 1 + 1) 35 1 (.slice (some ⟨h, 0, none⟩) m c2) m (ll Y m) ∧ w.heap.size + 1 + 1 ≤ g ∧ g < h ∧ h < w'.heap.size ∧ w.Since w.heap.size w' := by
  obtain ⟨i0, hi, hz0, hz1, hz2⟩ := info_parts Try.info35
  have sA : w.Since w.heap.size ((w.alloc (.cells #[.bool f, .slice x n ca, .slice y m cb] 27)).alloc (.cells #[.bool false, .slice none 0 0, .slice none 0 0] 27)) := ((World.Since.refl _ _).alloc (Nat.le_refl _) _).alloc (by simp) _
  have oA : Box3 ((w.alloc (.cells #[.bool f, .slice x n ca, .slice y m cb] 27)).alloc (.cells #[.bool false, .slice none 0 0, .slice none 0 0] 27)) w.heap.size (.bool f) (.slice x n ca) (.slice y m cb) := (Box3.new w _ _ _ _).keep ((World.Since.refl _ _).alloc (Nat.le_refl _) _)
  have tB : ((w.alloc (.cells #[.bool f, .slice x n ca, .slice y m cb] 27)).alloc (.cells #[.bool false, .slice none 0 0, .slice none 0 0] 27)).Since ((w.alloc (.cells #[.bool f, .slice x n ca, .slice y m cb] 27)).alloc (.cells #[.bool false, .slice none 0 0, .slice none 0 0] 27)).heap.size (((w.alloc (.cells #[.bool f, .slice x n ca, .slice y m cb] 27)).alloc (.cells #[.bool false, .slice none 0 0, .slice none 0 0] 27)).alloc (.cells #[] 35)) := (World.Since.refl _ _).alloc (Nat.le_refl _) _
  have SB := sA.trans (sinceMono tB sA.size)
  have X1 := hX.keep SB
  have own1 := World.ownsRow_made (e := 35) (size := 1) ((w.alloc (.cells #[.bool f, .slice x n ca, .slice y m cb] 27)).alloc (.cells #[.bool false, .slice none 0 0, .slice none 0 0] 27)) #[] 0 (Nat.le_refl _) (by decide) rfl
  have zA : ((w.alloc (.cells #[.bool f, .slice x n ca, .slice y m cb] 27)).alloc (.cells #[.bool false, .slice none 0 0, .slice none 0 0] 27)).heap.size = w.heap.size + 1 + 1 := by simp
  have own0 := World.ownsRow_made (e := 35) (size := 1) ((w.alloc (.cells #[.bool f, .slice x n ca, .slice y m cb] 27)).alloc (.cells #[.bool false, .slice none 0 0, .slice none 0 0] 27)) #[] 0 (Nat.le_refl _) (by decide) rfl
  rw [zA] at own1
  have zA' := zA
  have rA : Box3 ((w.alloc (.cells #[.bool f, .slice x n ca, .slice y m cb] 27)).alloc (.cells #[.bool false, .slice none 0 0, .slice none 0 0] 27)) (w.heap.size + 1) (.bool false) (.slice none 0 0) (.slice none 0 0) := by
    have := Box3.new (w.alloc (.cells #[.bool f, .slice x n ca, .slice y m cb] 27)) (.bool false) (.slice none 0 0) (.slice none 0 0) 27
    simpa using this
  have HZA := hide zA'
  clear zA zA'
  go_enter Try.func97, Try.ntmps97
  go_wp2_with (at_builtin; refine wpList_append_own_opt _ rfl _ _ 23 rfl (w.heap.size + 1 + 1) 35 i0 (.int .u32 0) 1 4 Try.underlying23 hi hz0 hz1 hz2 rfl (by decide) _ 0 [] rfl own1 x n ca (ll X n) rfl (by rw [ll_len]; omega) (fun e => by have := hxc e; omega) (limbs_newsO X1) (ll_one X n) (by unfold maxLen; omega) (by omega) (by simp) ?_)
  intro v1 w2 own2 grow2 nn2
  have tC : ((w.alloc (.cells #[.bool f, .slice x n ca, .slice y m cb] 27)).alloc (.cells #[.bool false, .slice none 0 0, .slice none 0 0] 27)).Since ((w.alloc (.cells #[.bool f, .slice x n ca, .slice y m cb] 27)).alloc (.cells #[.bool false, .slice none 0 0, .slice none 0 0] 27)).heap.size w2 := tB.grown grow2 (Nat.le_trans (Nat.le_refl _) tB.size) (fun k hk => by
    have := own0.lt k (by rw [HZA.out]; exact hk)
    exact this.1)
  have SC : w.Since w.heap.size w2 := sA.trans (sinceMono tC sA.size)
  have o2 := oA.keep tC
  have r2 := rA.keep tC
  have HN := hide nn2
  clear grow2 own1 nn2
  generalize ((w.alloc (.cells #[.bool f, .slice x n ca, .slice y m cb] 27)).alloc (.cells #[.bool false, .slice none 0 0, .slice none 0 0] 27)) = wA at *
  have tD : w2.Since w2.heap.size (w2.alloc (.cells #[] 35)) := (World.Since.refl _ _).alloc (Nat.le_refl _) _
  have SD := SC.trans (sinceMono tD SC.size)
  have Y1 := hY.keep SD
  have own3 := World.ownsRow_made (e := 35) (size := 1) w2 #[] 0 (Nat.le_refl _) (by decide) rfl
  have o3 := o2.keep tD
  have k2 := o3.c2
  go_wp2_with (at_builtin; refine wpList_append_own_opt _ rfl _ _ 23 rfl w2.heap.size 35 i0 (.int .u32 0) 1 4 Try.underlying23 hi hz0 hz1 hz2 rfl (by decide) _ 0 [] rfl own3 y m cb (ll Y m) rfl (by rw [ll_len]; omega) (fun e => by have := hyc e; omega) (limbs_newsO Y1) (ll_one Y m) (by unfold maxLen; omega) (by omega) tD.size ?_)
  intro v3 w4 own4 grow4 nn4
  have tE : w2.Since w2.heap.size w4 := tD.grown grow4 tD.size (fun k hk => (own3.lt k hk).1)
  have SE := SC.trans (sinceMono tE SC.size)
  have o4 := o2.keep tE
  have r4 := r2.keep tE
  obtain ⟨g1, c1, rfl, m1, b1, l1, L1, F1⟩ := own_limbs_some own2 HN.out
  obtain ⟨g2, c2, rfl, m2, b2, l2, L2, F2⟩ := own_limbs_some own4 nn4
  have HO2 := hide own2
  have HO4 := hide own4
  clear own2 own4
  clear grow4 own3 nn4 k2 o3
  have j0 := o4.c0
  have u0 := r4.c0
  have u1 := r4.c1
  have u2 := r4.c2
  have uf0 := r4.f 0
  have uf1 := r4.f 1
  have uf2 := r4.f 2
  go_wp2
  have zC := tC.size
  have zE := tE.size
  have rC := ((r4.set0 (.bool f)).set1 (.slice (some ⟨g1, 0, none⟩) n c1)).set2 (.slice (some ⟨g2, 0, none⟩) m c2)
  refine bodyPost_ret (results_box3 rfl _ _ _ _ _ _ rfl rC) rfl ?_
  have M : Marked w4 _ (w.heap.size + 1) := (((Marked.refl w4 _).setCell 0 (.bool f)).setCell 1 (.slice (some ⟨g1, 0, none⟩) n c1)).setCell 2 (.slice (some ⟨g2, 0, none⟩) m c2)
  have hz := HZA.out
  have zM := M.size
  have P2 := own_oth (own_oth HO2.out (Oth.ofSince w.heap.size tE) (by omega)) (Oth.ofMarked M) (by omega)
  have P4 := own_oth HO4.out (Oth.ofMarked M) (by omega)
  exact ⟨g1, g2, c1, c2, rfl, P2, P4.mono (by omega), by omega, by omega, by omega, SE.trans (M.since (by omega))⟩

set_option maxHeartbeats 3200000 in
set_option maxRecDepth 100000 in
theorem l1Spoil_any (v : Value) (B : Nat) (k : Nat) (w : World) (hk : k ≤ 1000) (HS : RatS w v B 11) :
    Calls Try.prog 109 #[v, .int .i64 k] w fun e w' => ∃ u, e = .returned u ∧ RatS w' u w.heap.size 13 ∧ w.Since w.heap.size w' := by
  obtain ⟨f, a, n, ca, b, m, cb, g, h, X, Y, rfl, RR, hn, hm, -, -⟩ := HS
  have sA : w.Since w.heap.size ((w.alloc (.cells #[.bool f, .slice a n ca, .slice b m cb] 27)).alloc (.cells #[.bool false, .slice none 0 0, .slice none 0 0] 27)) := ((World.Since.refl _ _).alloc (Nat.le_refl _) _).alloc (by simp) _
  have zA : ((w.alloc (.cells #[.bool f, .slice a n ca, .slice b m cb] 27)).alloc (.cells #[.bool false, .slice none 0 0, .slice none 0 0] 27)).heap.size = w.heap.size + 1 + 1 := by simp
  have oA : Box3 ((w.alloc (.cells #[.bool f, .slice a n ca, .slice b m cb] 27)).alloc (.cells #[.bool false, .slice none 0 0, .slice none 0 0] 27)) w.heap.size (.bool f) (.slice a n ca) (.slice b m cb) := (Box3.new w _ _ _ _).keep ((World.Since.refl _ _).alloc (Nat.le_refl _) _)
  have rA : Box3 ((w.alloc (.cells #[.bool f, .slice a n ca, .slice b m cb] 27)).alloc (.cells #[.bool false, .slice none 0 0, .slice none 0 0] 27)) (w.heap.size + 1) (.bool false) (.slice none 0 0) (.slice none 0 0) := by
    have := Box3.new (w.alloc (.cells #[.bool f, .slice a n ca, .slice b m cb] 27)) (.bool false) (.slice none 0 0) (.slice none 0 0) 27
    simpa using this
  have HZA := hide zA
  clear zA
  have o0 := oA.c0
  have o1 := oA.c1
  have o2 := oA.c2
  go_enter Try.func109, Try.ntmps109
  go_wp2_with fail
  clear o0 o1 o2
  generalize ((w.alloc (.cells #[.bool f, .slice a n ca, .slice b m cb] 27)).alloc (.cells #[.bool false, .slice none 0 0, .slice none 0 0] 27)) = wA at *
  refine (l1Copy_own f a b g 0 n ca h 0 m cb X Y wA (by omega) (by omega) RR.nc RR.mc RR.ac RR.bc (RR.keep sA).LX (RR.keep sA).LY).mono ?_
  rintro e w1 ⟨g1, h1, c1, c2, rfl, P1, P2, b1, b2, b3, s1⟩
  have S1 : w.Since w.heap.size w1 := sA.trans (sinceMono s1 sA.size)
  have r1 := rA.keep s1
  have zz := HZA.out
  obtain ⟨i0, hi, hz0, hz1, hz2⟩ := info_parts Try.info35
  have t2 : w1.Since w1.heap.size (w1.alloc (.cells #[.bool f, .slice (some ⟨g1, 0, none⟩) n c1, .slice (some ⟨h1, 0, none⟩) m c2] 27)) := (World.Since.refl _ _).alloc (Nat.le_refl _) _
  have C2 := Box3.new w1 (.bool f) (.slice (some ⟨g1, 0, none⟩) n c1) (.slice (some ⟨h1, 0, none⟩) m c2) 27
  have S2 := S1.trans (sinceMono t2 S1.size)
  have r2 := r1.keep t2
  have P12 := P1.alloc (.cells #[.bool f, .slice (some ⟨g1, 0, none⟩) n c1, .slice (some ⟨h1, 0, none⟩) m c2] 27)
  have P22 := P2.alloc (.cells #[.bool f, .slice (some ⟨g1, 0, none⟩) n c1, .slice (some ⟨h1, 0, none⟩) m c2] 27)
  have z2 := t2.size
  have rl := r1.lt
  have HP1 := hide P12
  have HP2 := hide P22
  have e0 := C2.c0
  have e1 := C2.c1
  have e2 := C2.c2
  have ef0 := C2.f 0
  have ef1 := C2.f 1
  have ef2 := C2.f 2
  have hcb := C2.lt
  have HHW : Hid ((w1.alloc (.cells #[.bool f, .slice (some ⟨g1, 0, none⟩) n c1, .slice (some ⟨h1, 0, none⟩) m c2] 27)).heap.size = w1.heap.size + 1) := hide (by simp)
  clear P1 P2 P12 P22 oA rA s1 sA
  have hce : w1.heap.size ≠ w.heap.size + 1 := by omega
  have hce2 : w.heap.size + 1 ≠ w1.heap.size := by omega
  have hce3 : w.heap.size ≠ w1.heap.size := by omega
  by_cases q0 : (k : Int) % 7 = 0
  · have q0' : ((k : Int) % 7 == 0) = true := by simp [q0]
    have hnc : ∀ j u, [Value.int .u32 0][j]? = some u → ((w1.alloc (.cells #[.bool f, .slice (some ⟨g1, 0, none⟩) n c1, .slice (some ⟨h1, 0, none⟩) m c2] 27)).alloc (.cells #[.int .u32 0] 35)).cell? ((⟨w1.heap.size + 1, 0, none⟩ : Addr).add j) = some u := by
      have := new_cell (w1.alloc (.cells #[.bool f, .slice (some ⟨g1, 0, none⟩) n c1, .slice (some ⟨h1, 0, none⟩) m c2] 27)) (.int .u32 0) 35
      rw [HHW.out] at this
      exact this
    go_wp2_with (at_builtin; refine wpList_append_own_at _ rfl _ _ 23 rfl (wA.heap.size + 1 + 1) 35 i0 (.int .u32 0) 1 4 Try.underlying23 hi hz0 hz1 hz2 rfl (by decide) _ _ _ rfl (HP1.out.alloc _) ⟨w1.heap.size + 1, 0, none⟩ 1 1 [.int .u32 0] rfl rfl hnc (one_one _ rfl) (by unfold maxLen; omega) (by omega) (by simp; omega) ?_)
    intro v' w3 hown' hgrow hnn hat
    rw [show ll X n ++ [.int .u32 0] = ll (upd X n 0) (n + 1) from by rw [ll_succ, upd_same, ll_congr (fun j hj => upd_other _ _ _ _ (show j ≠ n by omega))]; rfl] at hown'
    have t3 := (World.Since.refl (w1.alloc (.cells #[.bool f, .slice (some ⟨g1, 0, none⟩) n c1, .slice (some ⟨h1, 0, none⟩) m c2] 27)).heap.size (w1.alloc (.cells #[.bool f, .slice (some ⟨g1, 0, none⟩) n c1, .slice (some ⟨h1, 0, none⟩) m c2] 27))).alloc (Nat.le_refl _) (.cells #[.int .u32 0] 35)
    have z3 := hgrow.size
    have z3' := t3.size
    have C3 := (C2.keep t3).ofBlock (hgrow.block w1.heap.size (by simp; omega) (by simp [Value.ownBlock]; omega))
    have r3 := (r2.keep t3).ofBlock (hgrow.block (w.heap.size + 1) (by simp; omega) (by simp [Value.ownBlock]; omega))
    have S3 : w.Since w.heap.size w3 := (S2.trans (sinceMono t3 S2.size)).grown hgrow (by simp; omega) (fun k hk => by simp [Value.ownBlock] at hk; omega)
    obtain ⟨gg, c3, rfl, hmc, hbg, hgl, L3, -⟩ := own_limbs_some hown' hnn
    obtain ⟨go, co, e9, m2, -, -, LO3, -⟩ := own_limbs_some HP2.out (by simp)
    obtain ⟨rfl, rfl⟩ : h1 = go ∧ c2 = co := by simpa using e9
    have LO3 := (LO3.keep t3).ofBlock (fun h0 => hgrow.block _ (by simp; omega) (by simp [Value.ownBlock]; omega))
    have hgg : gg = g1 ∨ gg = w1.heap.size + 1 + 1 := by simpa [Value.ownBlock] using hat
    have lN : ∀ j, j < n + 1 → upd X n 0 j < 4294967296 := fun j hj => by
      by_cases e2 : j = n
      · subst e2; rw [upd_same]; omega
      · rw [upd_other _ _ _ _ e2]; exact RR.lX j (by omega)
    clear e9 hnc e0 e1 e2 ef0 ef1 ef2 hat hown' hgrow hnn
    have e0 := C3.c0
    have e1 := C3.c1
    have e2 := C3.c2
    have ef1 := C3.f 1
    have u0 := r3.c0
    have u1 := r3.c1
    have u2 := r3.c2
    have uf0 := r3.f 0
    have uf1 := r3.f 1
    have uf2 := r3.f 2
    go_wp2
    have r4 := r3.marked ((Marked.refl w3 w1.heap.size).setCell 1 (.slice (some ⟨gg, 0, none⟩) (n + 1) c3)) hce2
    have rC := ((r4.set0 (.bool f)).set1 (.slice (some ⟨gg, 0, none⟩) (n + 1) c3)).set2 (.slice (some ⟨h1, 0, none⟩) m c2)
    refine bodyPost_ret (results_box3 rfl _ _ _ _ _ _ rfl rC) rfl ?_
    have M1 : Marked w3 _ w1.heap.size := (Marked.refl w3 w1.heap.size).setCell 1 (.slice (some ⟨gg, 0, none⟩) (n + 1) c3)
    have M2 : Marked (w3.setCell ⟨w1.heap.size, 1, none⟩ (.slice (some ⟨gg, 0, none⟩) (n + 1) c3)) _ (w.heap.size + 1) := (((Marked.refl _ _).setCell 0 (.bool f)).setCell 1 (.slice (some ⟨gg, 0, none⟩) (n + 1) c3)).setCell 2 (.slice (some ⟨h1, 0, none⟩) m c2)
    have LN := (L3.marked M1 (fun _ => by omega)).marked M2 (fun _ => by omega)
    have LO := (LO3.marked M1 (fun _ => by omega)).marked M2 (fun _ => by omega)
    exact ⟨_, rfl, ⟨f, some ⟨gg, 0, none⟩, n + 1, c3, some ⟨h1, 0, none⟩, m, c2, gg, h1, upd X n 0, Y, rfl, ⟨hmc, m2, fun e => (by cases e), fun e => (by cases e), LN, LO, lN, RR.lY⟩, by omega, by omega, fun _ => by omega, fun _ => by omega⟩, (S3.trans (M1.since (by omega))).trans (M2.since (by omega))⟩
  have p0 : ((k : Int) % 7 == 0) = false := by simp [q0]
  by_cases q1 : (k : Int) % 7 = 1
  · have q1' : ((k : Int) % 7 == 1) = true := by simp [q1]
    have hnc : ∀ j u, [Value.int .u32 0][j]? = some u → ((w1.alloc (.cells #[.bool f, .slice (some ⟨g1, 0, none⟩) n c1, .slice (some ⟨h1, 0, none⟩) m c2] 27)).alloc (.cells #[.int .u32 0] 35)).cell? ((⟨w1.heap.size + 1, 0, none⟩ : Addr).add j) = some u := by
      have := new_cell (w1.alloc (.cells #[.bool f, .slice (some ⟨g1, 0, none⟩) n c1, .slice (some ⟨h1, 0, none⟩) m c2] 27)) (.int .u32 0) 35
      rw [HHW.out] at this
      exact this
    go_wp2_with (at_builtin; refine wpList_append_own_at _ rfl _ _ 23 rfl (wA.heap.size + 1 + 1) 35 i0 (.int .u32 0) 1 4 Try.underlying23 hi hz0 hz1 hz2 rfl (by decide) _ _ _ rfl (HP2.out.alloc _) ⟨w1.heap.size + 1, 0, none⟩ 1 1 [.int .u32 0] rfl rfl hnc (one_one _ rfl) (by unfold maxLen; omega) (by omega) (by simp; omega) ?_)
    intro v' w3 hown' hgrow hnn hat
    rw [show ll Y m ++ [.int .u32 0] = ll (upd Y m 0) (m + 1) from by rw [ll_succ, upd_same, ll_congr (fun j hj => upd_other _ _ _ _ (show j ≠ m by omega))]; rfl] at hown'
    have t3 := (World.Since.refl (w1.alloc (.cells #[.bool f, .slice (some ⟨g1, 0, none⟩) n c1, .slice (some ⟨h1, 0, none⟩) m c2] 27)).heap.size (w1.alloc (.cells #[.bool f, .slice (some ⟨g1, 0, none⟩) n c1, .slice (some ⟨h1, 0, none⟩) m c2] 27))).alloc (Nat.le_refl _) (.cells #[.int .u32 0] 35)
    have z3 := hgrow.size
    have z3' := t3.size
    have C3 := (C2.keep t3).ofBlock (hgrow.block w1.heap.size (by simp; omega) (by simp [Value.ownBlock]; omega))
    have r3 := (r2.keep t3).ofBlock (hgrow.block (w.heap.size + 1) (by simp; omega) (by simp [Value.ownBlock]; omega))
    have S3 : w.Since w.heap.size w3 := (S2.trans (sinceMono t3 S2.size)).grown hgrow (by simp; omega) (fun k hk => by simp [Value.ownBlock] at hk; omega)
    obtain ⟨gg, c3, rfl, hmc, hbg, hgl, L3, -⟩ := own_limbs_some hown' hnn
    obtain ⟨go, co, e9, m2, -, -, LO3, -⟩ := own_limbs_some HP1.out (by simp)
    obtain ⟨rfl, rfl⟩ : g1 = go ∧ c1 = co := by simpa using e9
    have LO3 := (LO3.keep t3).ofBlock (fun h0 => hgrow.block _ (by simp; omega) (by simp [Value.ownBlock]; omega))
    have hgg : gg = h1 ∨ gg = w1.heap.size + 1 + 1 := by simpa [Value.ownBlock] using hat
    have lN : ∀ j, j < m + 1 → upd Y m 0 j < 4294967296 := fun j hj => by
      by_cases e2 : j = m
      · subst e2; rw [upd_same]; omega
      · rw [upd_other _ _ _ _ e2]; exact RR.lY j (by omega)
    clear e9 hnc e0 e1 e2 ef0 ef1 ef2 hat hown' hgrow hnn
    have e0 := C3.c0
    have e1 := C3.c1
    have e2 := C3.c2
    have ef1 := C3.f 2
    have u0 := r3.c0
    have u1 := r3.c1
    have u2 := r3.c2
    have uf0 := r3.f 0
    have uf1 := r3.f 1
    have uf2 := r3.f 2
    go_wp2
    have r4 := r3.marked ((Marked.refl w3 w1.heap.size).setCell 2 (.slice (some ⟨gg, 0, none⟩) (m + 1) c3)) hce2
    have rC := ((r4.set0 (.bool f)).set1 (.slice (some ⟨g1, 0, none⟩) n c1)).set2 (.slice (some ⟨gg, 0, none⟩) (m + 1) c3)
    refine bodyPost_ret (results_box3 rfl _ _ _ _ _ _ rfl rC) rfl ?_
    have M1 : Marked w3 _ w1.heap.size := (Marked.refl w3 w1.heap.size).setCell 2 (.slice (some ⟨gg, 0, none⟩) (m + 1) c3)
    have M2 : Marked (w3.setCell ⟨w1.heap.size, 2, none⟩ (.slice (some ⟨gg, 0, none⟩) (m + 1) c3)) _ (w.heap.size + 1) := (((Marked.refl _ _).setCell 0 (.bool f)).setCell 1 (.slice (some ⟨g1, 0, none⟩) n c1)).setCell 2 (.slice (some ⟨gg, 0, none⟩) (m + 1) c3)
    have LN := (L3.marked M1 (fun _ => by omega)).marked M2 (fun _ => by omega)
    have LO := (LO3.marked M1 (fun _ => by omega)).marked M2 (fun _ => by omega)
    exact ⟨_, rfl, ⟨f, some ⟨g1, 0, none⟩, n, c1, some ⟨gg, 0, none⟩, m + 1, c3, g1, gg, X, upd Y m 0, rfl, ⟨m2, hmc, fun e => (by cases e), fun e => (by cases e), LO, LN, RR.lX, lN⟩, by omega, by omega, fun _ => by omega, fun _ => by omega⟩, (S3.trans (M1.since (by omega))).trans (M2.since (by omega))⟩
  have p1 : ((k : Int) % 7 == 1) = false := by simp [q1]
  by_cases q2 : (k : Int) % 7 = 2
  · have q2' : ((k : Int) % 7 == 2) = true := by simp [q2]
    have t3 := (World.Since.refl (w1.alloc (.cells #[.bool f, .slice (some ⟨g1, 0, none⟩) n c1, .slice (some ⟨h1, 0, none⟩) m c2] 27)).heap.size (w1.alloc (.cells #[.bool f, .slice (some ⟨g1, 0, none⟩) n c1, .slice (some ⟨h1, 0, none⟩) m c2] 27))).alloc (Nat.le_refl _) (.cells #[] 35)
    have C3 := C2.keep t3
    have r3 := r2.keep t3
    have S3 := S2.trans (sinceMono t3 S2.size)
    have z3' := t3.size
    obtain ⟨go, co, e9, m2, -, -, LO3, -⟩ := own_limbs_some HP1.out (by simp)
    obtain ⟨rfl, rfl⟩ : g1 = go ∧ c1 = co := by simpa using e9
    have LO3 := LO3.keep t3
    clear e0 e1 e2 ef0 ef1 ef2 e9
    have e0 := C3.c0
    have e1 := C3.c1
    have e2 := C3.c2
    have ef1 := C3.f 2
    have u0 := r3.c0
    have u1 := r3.c1
    have u2 := r3.c2
    have uf0 := r3.f 0
    have uf1 := r3.f 1
    have uf2 := r3.f 2
    generalize hW3 : (w1.alloc (.cells #[.bool f, .slice (some ⟨g1, 0, none⟩) n c1, .slice (some ⟨h1, 0, none⟩) m c2] 27)).alloc (.cells #[] 35) = w3 at *
    go_wp2
    have r4 := r3.marked ((Marked.refl w3 w1.heap.size).setCell 2 (.slice (some ⟨w1.heap.size + 1, 0, none⟩) 0 0)) hce2
    have rC := ((r4.set0 (.bool f)).set1 (.slice (some ⟨g1, 0, none⟩) n c1)).set2 (.slice (some ⟨w1.heap.size + 1, 0, none⟩) 0 0)
    refine bodyPost_ret (results_box3 rfl _ _ _ _ _ _ rfl rC) rfl ?_
    have M1 : Marked w3 _ w1.heap.size := (Marked.refl w3 w1.heap.size).setCell 2 (.slice (some ⟨w1.heap.size + 1, 0, none⟩) 0 0)
    have M2 : Marked (w3.setCell ⟨w1.heap.size, 2, none⟩ (.slice (some ⟨w1.heap.size + 1, 0, none⟩) 0 0)) _ (w.heap.size + 1) := (((Marked.refl _ _).setCell 0 (.bool f)).setCell 1 (.slice (some ⟨g1, 0, none⟩) n c1)).setCell 2 (.slice (some ⟨w1.heap.size + 1, 0, none⟩) 0 0)
    have LO := (LO3.marked M1 (fun _ => by omega)).marked M2 (fun _ => by omega)
    exact ⟨_, rfl, ⟨f, _, n, c1, _, 0, 0, g1, w1.heap.size + 1, X, fun _ => 0, rfl, ⟨m2, by omega, fun e => (by cases e), fun e => (by cases e), LO, fun j hj => absurd hj (by omega), RR.lX, fun _ _ => by omega⟩, by omega, by omega, fun _ => by omega, fun _ => by omega⟩, (S3.trans (M1.since (by omega))).trans (M2.since (by omega))⟩
  have p2 : ((k : Int) % 7 == 2) = false := by simp [q2]
  by_cases q3 : (k : Int) % 7 = 3
  · have q3' : ((k : Int) % 7 == 3) = true := by simp [q3]
    have t3 := (World.Since.refl (w1.alloc (.cells #[.bool f, .slice (some ⟨g1, 0, none⟩) n c1, .slice (some ⟨h1, 0, none⟩) m c2] 27)).heap.size (w1.alloc (.cells #[.bool f, .slice (some ⟨g1, 0, none⟩) n c1, .slice (some ⟨h1, 0, none⟩) m c2] 27))).alloc (Nat.le_refl _) (.cells #[.int .u32 0] 35)
    have C3 := C2.keep t3
    have r3 := r2.keep t3
    have S3 := S2.trans (sinceMono t3 S2.size)
    have z3' := t3.size
    obtain ⟨go, co, e9, m2, -, -, LO3, -⟩ := own_limbs_some HP1.out (by simp)
    obtain ⟨rfl, rfl⟩ : g1 = go ∧ c1 = co := by simpa using e9
    have LO3 := LO3.keep t3
    clear e0 e1 e2 ef0 ef1 ef2 e9
    have LD3 : Limbs ((w1.alloc (.cells #[.bool f, .slice (some ⟨g1, 0, none⟩) n c1, .slice (some ⟨h1, 0, none⟩) m c2] 27)).alloc (.cells #[.int .u32 0] 35)) (some ⟨w1.heap.size + 1, 0, none⟩) (w1.heap.size + 1) 0 1 (fun _ => 0) := fun j hj => ⟨rfl, by
      obtain rfl : j = 0 := by omega
      have := new_cell (w1.alloc (.cells #[.bool f, .slice (some ⟨g1, 0, none⟩) n c1, .slice (some ⟨h1, 0, none⟩) m c2] 27)) (.int .u32 0) 35 0 _ rfl
      rw [HHW.out] at this
      exact this⟩
    have e0 := C3.c0
    have e1 := C3.c1
    have e2 := C3.c2
    have ef1 := C3.f 2
    have u0 := r3.c0
    have u1 := r3.c1
    have u2 := r3.c2
    have uf0 := r3.f 0
    have uf1 := r3.f 1
    have uf2 := r3.f 2
    generalize hW3 : (w1.alloc (.cells #[.bool f, .slice (some ⟨g1, 0, none⟩) n c1, .slice (some ⟨h1, 0, none⟩) m c2] 27)).alloc (.cells #[.int .u32 0] 35) = w3 at *
    go_wp2
    have r4 := r3.marked ((Marked.refl w3 w1.heap.size).setCell 2 (.slice (some ⟨w1.heap.size + 1, 0, none⟩) 1 1)) hce2
    have rC := ((r4.set0 (.bool f)).set1 (.slice (some ⟨g1, 0, none⟩) n c1)).set2 (.slice (some ⟨w1.heap.size + 1, 0, none⟩) 1 1)
    refine bodyPost_ret (results_box3 rfl _ _ _ _ _ _ rfl rC) rfl ?_
    have M1 : Marked w3 _ w1.heap.size := (Marked.refl w3 w1.heap.size).setCell 2 (.slice (some ⟨w1.heap.size + 1, 0, none⟩) 1 1)
    have M2 : Marked (w3.setCell ⟨w1.heap.size, 2, none⟩ (.slice (some ⟨w1.heap.size + 1, 0, none⟩) 1 1)) _ (w.heap.size + 1) := (((Marked.refl _ _).setCell 0 (.bool f)).setCell 1 (.slice (some ⟨g1, 0, none⟩) n c1)).setCell 2 (.slice (some ⟨w1.heap.size + 1, 0, none⟩) 1 1)
    have LO := (LO3.marked M1 (fun _ => by omega)).marked M2 (fun _ => by omega)
    have LD := (LD3.marked M1 (fun _ => by omega)).marked M2 (fun _ => by omega)
    exact ⟨_, rfl, ⟨f, _, n, c1, _, 1, 1, g1, w1.heap.size + 1, X, fun _ => 0, rfl, ⟨m2, by omega, fun e => (by cases e), fun e => (by cases e), LO, LD, RR.lX, fun _ _ => by omega⟩, by omega, by omega, fun _ => by omega, fun _ => by omega⟩, (S3.trans (M1.since (by omega))).trans (M2.since (by omega))⟩
  have p3 : ((k : Int) % 7 == 3) = false := by simp [q3]
  by_cases q4 : (k : Int) % 7 = 4
  · have q4' : ((k : Int) % 7 == 4) = true := by simp [q4]
    have t3 : (w1.alloc (.cells #[.bool f, .slice (some ⟨g1, 0, none⟩) n c1, .slice (some ⟨h1, 0, none⟩) m c2] 27)).Since (w1.alloc (.cells #[.bool f, .slice (some ⟨g1, 0, none⟩) n c1, .slice (some ⟨h1, 0, none⟩) m c2] 27)).heap.size ((w1.alloc (.cells #[.bool f, .slice (some ⟨g1, 0, none⟩) n c1, .slice (some ⟨h1, 0, none⟩) m c2] 27)).alloc (.cells #[] 35)) := (World.Since.refl (w1.alloc (.cells #[.bool f, .slice (some ⟨g1, 0, none⟩) n c1, .slice (some ⟨h1, 0, none⟩) m c2] 27)).heap.size (w1.alloc (.cells #[.bool f, .slice (some ⟨g1, 0, none⟩) n c1, .slice (some ⟨h1, 0, none⟩) m c2] 27))).alloc (Nat.le_refl _) (.cells #[] 35)
    have t4 : ((w1.alloc (.cells #[.bool f, .slice (some ⟨g1, 0, none⟩) n c1, .slice (some ⟨h1, 0, none⟩) m c2] 27)).alloc (.cells #[] 35)).Since ((w1.alloc (.cells #[.bool f, .slice (some ⟨g1, 0, none⟩) n c1, .slice (some ⟨h1, 0, none⟩) m c2] 27)).alloc (.cells #[] 35)).heap.size (((w1.alloc (.cells #[.bool f, .slice (some ⟨g1, 0, none⟩) n c1, .slice (some ⟨h1, 0, none⟩) m c2] 27)).alloc (.cells #[] 35)).alloc (.cells #[.int .u32 1] 35)) := (World.Since.refl _ _).alloc (Nat.le_refl _) _
    have r4 := (r2.keep t3).keep t4
    have S4 := (S2.trans (sinceMono t3 S2.size)).trans (sinceMono t4 (S2.trans (sinceMono t3 S2.size)).size)
    have LD4 : Limbs (((w1.alloc (.cells #[.bool f, .slice (some ⟨g1, 0, none⟩) n c1, .slice (some ⟨h1, 0, none⟩) m c2] 27)).alloc (.cells #[] 35)).alloc (.cells #[.int .u32 1] 35)) (some ⟨w1.heap.size + 1 + 1, 0, none⟩) (w1.heap.size + 1 + 1) 0 1 (fun _ => 1) := fun j hj => ⟨rfl, by
      obtain rfl : j = 0 := by omega
      have := new_cell ((w1.alloc (.cells #[.bool f, .slice (some ⟨g1, 0, none⟩) n c1, .slice (some ⟨h1, 0, none⟩) m c2] 27)).alloc (.cells #[] 35)) (.int .u32 1) 35 0 _ rfl
      rw [show ((w1.alloc (.cells #[.bool f, .slice (some ⟨g1, 0, none⟩) n c1, .slice (some ⟨h1, 0, none⟩) m c2] 27)).alloc (.cells #[] 35)).heap.size = w1.heap.size + 1 + 1 by simp, Addr.add_lit] at this
      simpa using this⟩
    have z4 := t4.size
    have z3 := t3.size
    have hdl : 1 < 4294967296 := by omega
    clear e0 e1 e2 ef0 ef1 ef2 t3 t4 C2
    have u0 := r4.c0
    have u1 := r4.c1
    have u2 := r4.c2
    have uf0 := r4.f 0
    have uf1 := r4.f 1
    have uf2 := r4.f 2
    generalize hW4 : (((w1.alloc (.cells #[.bool f, .slice (some ⟨g1, 0, none⟩) n c1, .slice (some ⟨h1, 0, none⟩) m c2] 27)).alloc (.cells #[] 35)).alloc (.cells #[.int .u32 1] 35)) = w4 at *
    go_wp2
    have rC := ((r4.set0 (.bool true)).set1 (.slice (some ⟨w1.heap.size + 1, 0, none⟩) 0 0)).set2 (.slice (some ⟨w1.heap.size + 1 + 1, 0, none⟩) 1 1)
    refine bodyPost_ret (results_box3 rfl _ _ _ _ _ _ rfl rC) rfl ?_
    have M2 : Marked w4 _ (w.heap.size + 1) := (((Marked.refl _ _).setCell 0 (.bool true)).setCell 1 (.slice (some ⟨w1.heap.size + 1, 0, none⟩) 0 0)).setCell 2 (.slice (some ⟨w1.heap.size + 1 + 1, 0, none⟩) 1 1)
    have LD := LD4.marked M2 (fun _ => by omega)
    exact ⟨_, rfl, ⟨true, _, 0, 0, _, 1, 1, w1.heap.size + 1, w1.heap.size + 1 + 1, fun _ => 0, fun _ => 1, rfl, ⟨by omega, by omega, fun e => (by cases e), fun e => (by cases e), fun j hj => absurd hj (by omega), LD, fun _ _ => by omega, fun _ _ => hdl⟩, by omega, by omega, fun _ => by omega, fun _ => by omega⟩, S4.trans (M2.since (by omega))⟩
  have p4 : ((k : Int) % 7 == 4) = false := by simp [q4]
  by_cases q5 : (k : Int) % 7 = 5
  · have q5' : ((k : Int) % 7 == 5) = true := by simp [q5]
    obtain ⟨d, hd, hd2⟩ : ∃ d : Nat, (2 : Int) + (k : Int) / 7 = (d : Int) ∧ d ≤ 200 := ⟨2 + k / 7, by omega, by omega⟩
    clear e0 e1 e2 ef0 ef1 ef2
    go_wp2_with fail
    refine (l1BitsOf_any d _ (by omega)).mono ?_
    rintro e w3 ⟨x3, t3, B3, rfl, k3, ⟨a3, b3', o3, c3, rfl, k31, L3, p3'⟩, -, s3⟩
    have C3 := C2.keep s3
    have r3 := r2.keep s3
    have S3 := S2.trans (sinceMono s3 S2.size)
    have z3 := s3.size
    obtain ⟨go, co, e9, m2, -, -, LN2, -⟩ := own_limbs_some HP1.out (by simp)
    obtain ⟨rfl, rfl⟩ : g1 = go ∧ c1 = co := by simpa using e9
    clear e9
    obtain ⟨go, co, e9, m3, -, -, LD2, -⟩ := own_limbs_some HP2.out (by simp)
    obtain ⟨rfl, rfl⟩ : h1 = go ∧ c2 = co := by simpa using e9
    have LN3 := LN2.keep s3
    have LD3 := LD2.keep s3
    clear e9 LN2 LD2 HP1 HP2 C2 r2 S2 r1 t2
    have kk := C3.cells
    have hcl := C3.lt
    have hlX := RR.lX
    have hlY := RR.lY
    have J1 := l1Bits_any (some ⟨g1, 0, none⟩) g1 0 n c1 X w3.drew (by omega) LN3 hlX
    have L33 := L3
    have SDr := since_drew S3
    go_wp2_with fail
    go_region_held3 (fun w' => w'.cell? ⟨w1.heap.size, 0, none⟩ = some (.bool f) ∧ w'.cell? ⟨w1.heap.size, 1, none⟩ = some (.slice (some ⟨g1, 0, none⟩) n c1) ∧ w'.cell? ⟨w1.heap.size, 2, none⟩ = some (.slice (some ⟨h1, 0, none⟩) m c2)) (go_keep)
      (first
        | (go_at_call 47
           first
              | (with_reducible refine J1.mono ?_
                 rintro e w4 ⟨a4, g4, m4, c4, B4, rfl, k41, k42, L4, -, -, -, s4⟩
                 have C4 := C3.drew.keep s4
                 have r4 := r3.drew.keep s4
                 have S4 : w.Since w.heap.size w4 := SDr.trans (sinceMono s4 S3.size)
                 have kk := C4.cells
                 have L34 : Bits w4 a3 b3' o3 t3 B3 := Bits.keep (w := w3.drew) L33 s4
                 have LD4 : Limbs w4 (some ⟨h1, 0, none⟩) h1 0 m Y := Limbs.keep (w := w3.drew) LD3 s4
                 have J2 := l1MulBits_any a4 a3 g4 0 m4 c4 b3' o3 t3 c3 B4 B3 w4 (by omega) (by omega) L4 L34)
              | (with_reducible refine J4.mono ?_
                 rintro e w7 ⟨a7, g7, m7, c7, B7, rfl, k71, k72, L7, -, -, -, s7⟩
                 have C7 := C6.keep s7
                 have r7 := r6.keep s7
                 have S7 := S6.trans (sinceMono s7 S6.size)
                 have kk := C7.cells
                 have L37 := L36.keep s7
                 have LD7 := LD6.keep s7
                 have LL7 := LL6.keep s7
                 have J5 := l1MulBits_any a7 a3 g7 0 m7 c7 b3' o3 t3 c3 B7 B3 w7 (by omega) (by omega) L7 L37))
        | (go_at_call 46
           first
              | (with_reducible refine J2.mono ?_
                 rintro e w5 ⟨g5, t5, c5, B5, rfl, k51, k52, L5, -, -, -, s5⟩
                 have C5 := C4.keep s5
                 have r5 := r4.keep s5
                 have S5 := S4.trans (sinceMono s5 S4.size)
                 have kk := C5.cells
                 have L35 := L34.keep s5
                 have LD5 := LD4.keep s5
                 have J3 := l1Limbs_any2 (some ⟨g5, 0, none⟩) g5 0 t5 c5 B5 w5 (by omega) k51 L5)
              | (with_reducible refine J5.mono ?_
                 rintro e w8 ⟨g8, t8, c8, B8, rfl, k81, k82, L8, -, -, -, s8⟩
                 have C8 := C7.keep s8
                 have r8 := r7.keep s8
                 have S8 := S7.trans (sinceMono s8 S7.size)
                 have kk := C8.cells
                 have L38 := L37.keep s8
                 have LD8 := LD7.keep s8
                 have LL8 := LL7.keep s8
                 have J6 := l1Limbs_any2 (some ⟨g8, 0, none⟩) g8 0 t8 c8 B8 w8 (by omega) k81 L8))
        | (go_at_call 49
           first
              | (with_reducible refine J3.mono ?_
                 rintro e w6 ⟨a6, g6, m6, c6, Y6, rfl, k61, k62, k63, LL6, k64, -, k65, -, -, s6⟩
                 have C6 := C5.keep s6
                 have r6 := r5.keep s6
                 have S6 := S5.trans (sinceMono s6 S5.size)
                 have kk := C6.cells
                 have L36 := L35.keep s6
                 have LD6 := LD5.keep s6
                 have J4 := l1Bits_any (some ⟨h1, 0, none⟩) h1 0 m c2 Y w6 (by omega) LD6 hlY)
              | (with_reducible refine J6.mono ?_
                 rintro e w9 ⟨a9, g9, m9, c9, Y9, rfl, k91, k92, k93, LL9, k94, -, k95, -, -, s9⟩
                 have C9 := C8.keep s9
                 have r9 := r8.keep s9
                 have S9 := S8.trans (sinceMono s9 S8.size)
                 have kk := C9.cells
                 have L39 := L38.keep s9
                 have LD9 := LD8.keep s9
                 have LX9 := LL8.keep s9
                 have u0 := r9.c0
                 have u1 := r9.c1
                 have u2 := r9.c2
                 have uf0 := r9.f 0
                 have uf1 := r9.f 1
                 have uf2 := r9.f 2)))
    all_goals go_wp2
    all_goals
      have rC := ((r9.set0 (.bool f)).set1 (.slice a6 m6 c6)).set2 (.slice a9 m9 c9)
      refine bodyPost_ret (results_box3 rfl _ _ _ _ _ _ rfl rC) rfl ?_
      have M : Marked w9 _ (w.heap.size + 1) := (((Marked.refl w9 _).setCell 0 (.bool f)).setCell 1 (.slice a6 m6 c6)).setCell 2 (.slice a9 m9 c9)
      have zq : w1.heap.size ≤ w5.heap.size := by have := C5.lt; omega
      have zr : w1.heap.size ≤ w8.heap.size := by have := C8.lt; omega
      exact ⟨_, rfl, ⟨f, a6, m6, c6, a9, m9, c9, g6, g9, Y6, Y9, rfl, ⟨k61, k91, k62, k92, LX9.marked M (fun h0 => by have := k64 h0; omega), LL9.marked M (fun h0 => by have := k94 h0; omega), fun j _ => k65 j, fun j _ => k95 j⟩, by omega, by omega, fun h0 => by have := k64 h0; omega, fun h0 => by have := k94 h0; omega⟩, S9.trans (M.since (by omega))⟩
  have p5 : ((k : Int) % 7 == 5) = false := by simp [q5]
  have t3 : (w1.alloc (.cells #[.bool f, .slice (some ⟨g1, 0, none⟩) n c1, .slice (some ⟨h1, 0, none⟩) m c2] 27)).Since (w1.alloc (.cells #[.bool f, .slice (some ⟨g1, 0, none⟩) n c1, .slice (some ⟨h1, 0, none⟩) m c2] 27)).heap.size ((w1.alloc (.cells #[.bool f, .slice (some ⟨g1, 0, none⟩) n c1, .slice (some ⟨h1, 0, none⟩) m c2] 27)).alloc (.cells #[] 35)) := (World.Since.refl (w1.alloc (.cells #[.bool f, .slice (some ⟨g1, 0, none⟩) n c1, .slice (some ⟨h1, 0, none⟩) m c2] 27)).heap.size (w1.alloc (.cells #[.bool f, .slice (some ⟨g1, 0, none⟩) n c1, .slice (some ⟨h1, 0, none⟩) m c2] 27))).alloc (Nat.le_refl _) (.cells #[] 35)
  have t4 : ((w1.alloc (.cells #[.bool f, .slice (some ⟨g1, 0, none⟩) n c1, .slice (some ⟨h1, 0, none⟩) m c2] 27)).alloc (.cells #[] 35)).Since ((w1.alloc (.cells #[.bool f, .slice (some ⟨g1, 0, none⟩) n c1, .slice (some ⟨h1, 0, none⟩) m c2] 27)).alloc (.cells #[] 35)).heap.size (((w1.alloc (.cells #[.bool f, .slice (some ⟨g1, 0, none⟩) n c1, .slice (some ⟨h1, 0, none⟩) m c2] 27)).alloc (.cells #[] 35)).alloc (.cells #[.int .u32 (2 + (k : Int) / 7)] 35)) := (World.Since.refl _ _).alloc (Nat.le_refl _) _
  have r4 := (r2.keep t3).keep t4
  have S4 := (S2.trans (sinceMono t3 S2.size)).trans (sinceMono t4 (S2.trans (sinceMono t3 S2.size)).size)
  have LD4 : Limbs (((w1.alloc (.cells #[.bool f, .slice (some ⟨g1, 0, none⟩) n c1, .slice (some ⟨h1, 0, none⟩) m c2] 27)).alloc (.cells #[] 35)).alloc (.cells #[.int .u32 (2 + (k : Int) / 7)] 35)) (some ⟨w1.heap.size + 1 + 1, 0, none⟩) (w1.heap.size + 1 + 1) 0 1 (fun _ => 2 + k / 7) := fun j hj => ⟨rfl, by
    obtain rfl : j = 0 := by omega
    have := new_cell ((w1.alloc (.cells #[.bool f, .slice (some ⟨g1, 0, none⟩) n c1, .slice (some ⟨h1, 0, none⟩) m c2] 27)).alloc (.cells #[] 35)) (.int .u32 (2 + (k : Int) / 7)) 35 0 _ rfl
    rw [show ((w1.alloc (.cells #[.bool f, .slice (some ⟨g1, 0, none⟩) n c1, .slice (some ⟨h1, 0, none⟩) m c2] 27)).alloc (.cells #[] 35)).heap.size = w1.heap.size + 1 + 1 by simp, Addr.add_lit] at this
    simpa using this⟩
  have z4 := t4.size
  have z3 := t3.size
  have hdl : 2 + k / 7 < 4294967296 := by omega
  clear e0 e1 e2 ef0 ef1 ef2 t3 t4 C2
  have u0 := r4.c0
  have u1 := r4.c1
  have u2 := r4.c2
  have uf0 := r4.f 0
  have uf1 := r4.f 1
  have uf2 := r4.f 2
  generalize hW4 : (((w1.alloc (.cells #[.bool f, .slice (some ⟨g1, 0, none⟩) n c1, .slice (some ⟨h1, 0, none⟩) m c2] 27)).alloc (.cells #[] 35)).alloc (.cells #[.int .u32 (2 + (k : Int) / 7)] 35)) = w4 at *
  go_wp2
  have rC := ((r4.set0 (.bool false)).set1 (.slice (some ⟨w1.heap.size + 1, 0, none⟩) 0 0)).set2 (.slice (some ⟨w1.heap.size + 1 + 1, 0, none⟩) 1 1)
  refine bodyPost_ret (results_box3 rfl _ _ _ _ _ _ rfl rC) rfl ?_
  have M2 : Marked w4 _ (w.heap.size + 1) := (((Marked.refl _ _).setCell 0 (.bool false)).setCell 1 (.slice (some ⟨w1.heap.size + 1, 0, none⟩) 0 0)).setCell 2 (.slice (some ⟨w1.heap.size + 1 + 1, 0, none⟩) 1 1)
  have LD := LD4.marked M2 (fun _ => by omega)
  exact ⟨_, rfl, ⟨false, _, 0, 0, _, 1, 1, w1.heap.size + 1, w1.heap.size + 1 + 1, fun _ => 0, fun _ => 2 + k / 7, rfl, ⟨by omega, by omega, fun e => (by cases e), fun e => (by cases e), fun j hj => absurd hj (by omega), LD, fun _ _ => by omega, fun _ _ => hdl⟩, by omega, by omega, fun _ => by omega, fun _ => by omega⟩, S4.trans (M2.since (by omega))⟩

end Go.Proofs.Ytdfcckifbbeoiaa

namespace Go.Proofs.Ytdfcckifbbeoiaa
open Go.RowKit

theorem wrap64 {x : Int} (h0 : -9223372036854775808 ≤ x) (h1 : x < 9223372036854775808) : IntKind.i64.wrap x = x := by
  have h2 : IntKind.i64.bits = 64 := rfl
  have h3 : IntKind.i64.signed = true := rfl
  unfold IntKind.wrap
  simp only [h2, h3]
  simp
  split <;> omega

theorem l1Spoil_int (v : Value) (B : Nat) (k : Int) (w : World) (h0 : 0 ≤ k) (h1 : k ≤ 1000) (HS : RatS w v B 11) :
    Calls Try.prog 109 #[v, .int .i64 k] w fun e w' => ∃ u, e = .returned u ∧ RatS w' u w.heap.size 13 ∧ w.Since w.heap.size w' := by
  obtain ⟨j, rfl⟩ : ∃ j : Nat, k = (j : Int) := ⟨k.toNat, by omega⟩
  exact l1Spoil_any v B j w (by omega) HS

set_option maxHeartbeats 3200000 in
set_option maxRecDepth 100000 in
theorem l1DrawAny_any (c : Nat) (a : Option Addr) (b off n cap : Nat) (X : Nat → Nat) (w : World) (hn : n ≤ 1048576) (R : Rd w c a b off n cap X) (hbl : 0 < n → b < w.heap.size) :
    Calls Try.prog 64 #[.pointer (some ⟨c, 0, none⟩)] w fun e w' => ∃ v, e = .returned v ∧ RatS w' v w.heap.size 13 ∧ Rd w' c a b off n cap X ∧ Oth c w w' := by
  have sA : w.Since w.heap.size (w.alloc (.cells #[.bool false, .slice none 0 0, .slice none 0 0] 27)) := (World.Since.refl _ _).alloc (Nat.le_refl _) _
  have rA := Box3.new w (.bool false) (.slice none 0 0) (.slice none 0 0) 27
  have rl := R.lt
  have bl := rA.lt
  have RA := R.keep sA
  go_enter Try.func64, Try.ntmps64
  go_wp2_with fail
  generalize (w.alloc (.cells #[.bool false, .slice none 0 0, .slice none 0 0] 27)) = wA at *
  have zA := sA.size
  refine (next_any c a b off n cap X wA hn RA).mono ?_
  rintro e w1 ⟨k, rfl, hk, R1, O1⟩
  have r1 := rA.oth O1 (by omega)
  have O01 := (Oth.ofSince c sA).trans O1
  have z1 := O1.size
  clear RA O1 sA
  go_wp2_with fail
  refine (l1Zero_any w1).mono ?_
  rintro e w2 ⟨v2, rfl, ⟨x1, x2, g2, h2, rfl, N2, D2, -, -, -⟩, s2⟩
  obtain ⟨a2, q2, c2, -, rfl, -⟩ := N2
  obtain ⟨a2', q2', c2', -, rfl, -⟩ := D2
  have t3 : w2.Since w2.heap.size (w2.alloc (.cells #[.bool false, .slice a2 q2 c2, .slice a2' q2' c2'] 27)) := (World.Since.refl _ _).alloc (Nat.le_refl _) _
  have B3 := Box3.new w2 (.bool false) (.slice a2 q2 c2) (.slice a2' q2' c2') 27
  have r3 := (r1.keep s2).keep t3
  have R3 := (R1.keep s2).keep t3
  have O03 := (O01.trans (Oth.ofSince c s2)).trans (Oth.ofSince c t3)
  have z2 := s2.size
  have z3 := t3.size
  have r1l := r1.lt
  clear r1 R1 O01 s2 t3
  by_cases q : (k : Int) % 3 = 0
  · have q' : ((k : Int) % 3 == 0) = true := by simp [q]
    go_wp2_with fail
    generalize (w2.alloc (.cells #[.bool false, .slice a2 q2 c2, .slice a2' q2' c2'] 27)) = w3 at *
    generalize hcc : w2.heap.size = cc at *
    refine (l1DrawRat_any c a b off n cap X w3 hn R3 (fun h => by have := hbl h; omega)).mono ?_
    rintro e w4 ⟨v4, rfl, ⟨f4, a4, n4, c4, b4, m4, d4, g4, h4, X4, Y4, rfl, RR4, k41, k42, k43, k44⟩, R4, O4⟩
    have B4 := B3.oth O4 (by omega)
    have r4 := r3.oth O4 (by omega)
    have O04 := O03.trans O4
    have z4 := O4.size
    have b3l := B3.lt
    clear B3 r3 R3 O03 O4
    have e0 := B4.c0
    have e1 := B4.c1
    have e2 := B4.c2
    have ef0 := B4.f 0
    have ef1 := B4.f 1
    have ef2 := B4.f 2
    have M5 : Marked w4 (((w4.setCell ⟨cc, 0, none⟩ (.bool f4)).setCell ⟨cc, 1, none⟩ (.slice a4 n4 c4)).setCell ⟨cc, 2, none⟩ (.slice b4 m4 d4)) cc := (((Marked.refl w4 _).setCell 0 (.bool f4)).setCell 1 (.slice a4 n4 c4)).setCell 2 (.slice b4 m4 d4)
    have B5 := ((B4.set0 (.bool f4)).set1 (.slice a4 n4 c4)).set2 (.slice b4 m4 d4)
    have r5 := r4.marked M5 (by omega)
    have R5 := R4.marked M5 (by omega) (fun h => by have := hbl h; omega)
    have O05 := oth_new O04 M5 (by omega)
    have S4 : RatS w4 (.agg #[.bool f4, .slice a4 n4 c4, .slice b4 m4 d4]) w3.heap.size 11 := ⟨f4, a4, n4, c4, b4, m4, d4, g4, h4, X4, Y4, rfl, RR4, k41, k42, k43, k44⟩
    have S5 := S4.oth (Oth.ofMarked M5) (by omega)
    have z5 := M5.size
    clear S4 B4 r4 R4 O04 RR4
    by_cases p : (k : Int) % 9 = 8
    · exact absurd p (by omega)
    · have p' : ((k : Int) % 9 == 8) = false := by simp [p]
      have u0 := r5.c0
      have u1 := r5.c1
      have u2 := r5.c2
      have uf0 := r5.f 0
      have uf1 := r5.f 1
      have uf2 := r5.f 2
      have hne : cc ≠ w.heap.size := by omega
      have i0 := B5.c0
      have i1 := B5.c1
      have i2 := B5.c2
      go_wp2
      generalize ((w4.setCell ⟨cc, 0, none⟩ (.bool f4)).setCell ⟨cc, 1, none⟩ (.slice a4 n4 c4)).setCell ⟨cc, 2, none⟩ (.slice b4 m4 d4) = w5 at *
      have rC := ((r5.set0 (.bool f4)).set1 (.slice a4 n4 c4)).set2 (.slice b4 m4 d4)
      refine bodyPost_ret (results_box3 rfl _ _ _ _ _ _ rfl rC) rfl ?_
      have M : Marked w5 _ w.heap.size := (((Marked.refl w5 _).setCell 0 (.bool f4)).setCell 1 (.slice a4 n4 c4)).setCell 2 (.slice b4 m4 d4)
      exact ⟨_, rfl, (S5.oth (Oth.ofMarked M) (by omega)).more (by omega) (by omega), R5.marked M (by omega) (fun h => by have := hbl h; omega), oth_new O05 M (Nat.le_refl _)⟩
  · have q' : ((k : Int) % 3 == 0) = false := by simp [q]
    go_wp2_with fail
    generalize (w2.alloc (.cells #[.bool false, .slice a2 q2 c2, .slice a2' q2' c2'] 27)) = w3 at *
    generalize hcc : w2.heap.size = cc at *
    refine (l1DrawBig_any c a b off n cap X w3 hn R3 (fun h => by have := hbl h; omega)).mono ?_
    rintro e w4 ⟨v4, rfl, ⟨f4, a4, n4, c4, b4, m4, d4, g4, h4, X4, Y4, rfl, RR4, k41, k42, k43, k44⟩, R4, O4⟩
    have B4 := B3.oth O4 (by omega)
    have r4 := r3.oth O4 (by omega)
    have O04 := O03.trans O4
    have z4 := O4.size
    have b3l := B3.lt
    clear B3 r3 R3 O03 O4
    have e0 := B4.c0
    have e1 := B4.c1
    have e2 := B4.c2
    have ef0 := B4.f 0
    have ef1 := B4.f 1
    have ef2 := B4.f 2
    have M5 : Marked w4 (((w4.setCell ⟨cc, 0, none⟩ (.bool f4)).setCell ⟨cc, 1, none⟩ (.slice a4 n4 c4)).setCell ⟨cc, 2, none⟩ (.slice b4 m4 d4)) cc := (((Marked.refl w4 _).setCell 0 (.bool f4)).setCell 1 (.slice a4 n4 c4)).setCell 2 (.slice b4 m4 d4)
    have B5 := ((B4.set0 (.bool f4)).set1 (.slice a4 n4 c4)).set2 (.slice b4 m4 d4)
    have r5 := r4.marked M5 (by omega)
    have R5 := R4.marked M5 (by omega) (fun h => by have := hbl h; omega)
    have O05 := oth_new O04 M5 (by omega)
    have S4 : RatS w4 (.agg #[.bool f4, .slice a4 n4 c4, .slice b4 m4 d4]) w3.heap.size 11 := ⟨f4, a4, n4, c4, b4, m4, d4, g4, h4, X4, Y4, rfl, RR4, k41, k42, k43, k44⟩
    have S5 := S4.oth (Oth.ofMarked M5) (by omega)
    have z5 := M5.size
    clear S4 B4 r4 R4 O04 RR4
    by_cases p : (k : Int) % 9 = 8
    · have p' : ((k : Int) % 9 == 8) = true := by simp [p]
      go_wp2_with fail
      generalize ((w4.setCell ⟨cc, 0, none⟩ (.bool f4)).setCell ⟨cc, 1, none⟩ (.slice a4 n4 c4)).setCell ⟨cc, 2, none⟩ (.slice b4 m4 d4) = w5 at *
      have kk := B5.cells
      have hne1 : cc ≠ w.heap.size := by omega
      have hne2 : w.heap.size ≠ cc := by omega
      have wr1 : IntKind.i64.wrap ((k : Int) / 9) = (k : Int) / 9 := wrap64 (by omega) (by omega)
      have J1 := next_any c a b off n cap X w5.drew hn (R5.keep (since_drew (World.Since.refl _ _)))
      go_region_held3 (fun w' => w'.cell? ⟨cc, 0, none⟩ = some (.bool f4) ∧ w'.cell? ⟨cc, 1, none⟩ = some (.slice a4 n4 c4) ∧ w'.cell? ⟨cc, 2, none⟩ = some (.slice b4 m4 d4)) (go_keep)
        (first
          | (go_at_call 44
             with_reducible refine J1.mono ?_
             rintro e w6 ⟨k6, rfl, hk6, R6, O6⟩
             have O56 : Oth c w5 w6 := ⟨O6.os, O6.tape, O6.output, O6.size, O6.block⟩
             have B6 := B5.oth O56 (by omega)
             have r6 := r5.oth O56 (by omega)
             have S6 := S5.oth O56 (by omega)
             have O06 := O05.trans O56
             have z6 := O56.size
             have kk := B6.cells
             have wr2 : IntKind.i64.wrap ((k : Int) / 9 + (k6 : Int)) = (k : Int) / 9 + k6 := wrap64 (by omega) (by omega)
             have J2 := fun z h0 h1 => l1Spoil_int _ _ z w6 h0 h1 S6)
          | (go_at_call 109
             with_reducible refine (J2 _ (by first | omega | (rw [wr2]; omega)) (by first | omega | (rw [wr2]; omega))).mono ?_
             rintro e w7 ⟨v7, rfl, ⟨f7, a7, n7, c7, b7, m7, d7, g7, h7, X7, Y7, rfl, RR7, k71, k72, k73, k74⟩, s7⟩
             have r7 := r6.keep s7
             have R7 := R6.keep s7
             have O07 := O06.trans (Oth.ofSince c s7)
             have z7 := s7.size
             have kk := (B6.keep s7).cells
             have u0 := r7.c0
             have u1 := r7.c1
             have u2 := r7.c2
             have uf0 := r7.f 0
             have uf1 := r7.f 1
             have uf2 := r7.f 2))
      all_goals
        have SH : RatS w7 (.agg #[.bool f7, .slice a7 n7 c7, .slice b7 m7 d7]) w6.heap.size 13 := ⟨f7, a7, n7, c7, b7, m7, d7, g7, h7, X7, Y7, rfl, RR7, k71, k72, k73, k74⟩
        clear RR7 J1 J2
        go_wp2
        have rC := ((r7.set0 (.bool f7)).set1 (.slice a7 n7 c7)).set2 (.slice b7 m7 d7)
        refine bodyPost_ret (results_box3 rfl _ _ _ _ _ _ rfl rC) rfl ?_
        have M : Marked w7 _ w.heap.size := (((Marked.refl w7 _).setCell 0 (.bool f7)).setCell 1 (.slice a7 n7 c7)).setCell 2 (.slice b7 m7 d7)
        exact ⟨_, rfl, (SH.oth (Oth.ofMarked M) (by omega)).more (by omega) (by omega), R7.marked M (by omega) (fun h => by have := hbl h; omega), oth_new O07 M (Nat.le_refl _)⟩
    · have p' : ((k : Int) % 9 == 8) = false := by simp [p]
      have u0 := r5.c0
      have u1 := r5.c1
      have u2 := r5.c2
      have uf0 := r5.f 0
      have uf1 := r5.f 1
      have uf2 := r5.f 2
      have hne : cc ≠ w.heap.size := by omega
      have i0 := B5.c0
      have i1 := B5.c1
      have i2 := B5.c2
      go_wp2
      generalize ((w4.setCell ⟨cc, 0, none⟩ (.bool f4)).setCell ⟨cc, 1, none⟩ (.slice a4 n4 c4)).setCell ⟨cc, 2, none⟩ (.slice b4 m4 d4) = w5 at *
      have rC := ((r5.set0 (.bool f4)).set1 (.slice a4 n4 c4)).set2 (.slice b4 m4 d4)
      refine bodyPost_ret (results_box3 rfl _ _ _ _ _ _ rfl rC) rfl ?_
      have M : Marked w5 _ w.heap.size := (((Marked.refl w5 _).setCell 0 (.bool f4)).setCell 1 (.slice a4 n4 c4)).setCell 2 (.slice b4 m4 d4)
      exact ⟨_, rfl, (S5.oth (Oth.ofMarked M) (by omega)).more (by omega) (by omega), R5.marked M (by omega) (fun h => by have := hbl h; omega), oth_new O05 M (Nat.le_refl _)⟩

end Go.Proofs.Ytdfcckifbbeoiaa

namespace Go.Proofs.Ytdfcckifbbeoiaa
open Go.RowKit

theorem lv_pow {X : Nat → Nat} {n k : Nat} (h : ∀ j, j < n → X j < 4294967296) (hk : n ≤ k) : lv X n < 4294967296 ^ k := by
  have h1 := lv_lt X n h
  rw [Nat.pow_mul, show (2 : Nat) ^ 32 = 4294967296 by decide] at h1
  exact Nat.lt_of_lt_of_le h1 (Nat.pow_le_pow_right (by decide) hk)

theorem ratOk_swap {f : Bool} {X Y : Nat → Nat} {n m : Nat} (h0 : 0 < n) (ok : ratOkB f X n Y m = true) : ratOkB f Y m X n = true := by
  unfold ratOkB at *
  simp only [Bool.and_eq_true, bne_iff_ne, Bool.not_eq_true', beq_iff_eq] at *
  obtain ⟨⟨⟨⟨h1, h2⟩, h3⟩, -⟩, h5⟩ := ok
  refine ⟨⟨⟨⟨h2, h1⟩, by omega⟩, ?_⟩, by rw [Nat.gcd_comm]; exact h5⟩
  have : (m == 0) = false := by simp; omega
  rw [this, Bool.and_false]

/-- Two struct answers that lie in boxes. -/
theorem results_two3 {fn : Func} {p q : Tmp} (h : fn.results = #[.cell p 27, .cell q 27]) (tmps : Array Value) (w : World) (c d : Nat) (x y z x' y' z' : Value) (hp : tmps.getD p undef = .pointer (some ⟨c, 0, none⟩)) (hq : tmps.getD q undef = .pointer (some ⟨d, 0, none⟩)) (B : Box3 w c x y z) (B' : Box3 w d x' y' z') :
    (results fn tmps).run Try.prog w = .ok (.tuple #[.agg #[x, y, z], .agg #[x', y', z']]) w := by
  have hp' : tmps[p]?.getD undef = .pointer (some ⟨c, 0, none⟩) := by simpa using hp
  have hq' : tmps[q]?.getD undef = .pointer (some ⟨d, 0, none⟩) := by simpa using hq
  have hl := run_loadVar_mid (P := Try.prog) w c 0 27 [x, y, z] _ (fun j v hv => by
    rcases j with _ | _ | _ | j
    · simp at hv; subst hv; exact B.c0
    · simp at hv; subst hv; exact B.c1
    · simp at hv; subst hv; exact B.c2
    · simp at hv) Try.underlying27 rfl ratInfo
  have hl' := run_loadVar_mid (P := Try.prog) w d 0 27 [x', y', z'] _ (fun j v hv => by
    rcases j with _ | _ | _ | j
    · simp at hv; subst hv; exact B'.c0
    · simp at hv; subst hv; exact B'.c1
    · simp at hv; subst hv; exact B'.c2
    · simp at hv) Try.underlying27 rfl ratInfo
  simp [results, h, hp', hq', asAddr, hl, hl']

set_option maxHeartbeats 3200000 in
set_option maxRecDepth 100000 in
theorem l1DrawPair_any (c : Nat) (a : Option Addr) (b off n cap : Nat) (X : Nat → Nat) (w : World) (hn : n ≤ 1048576) (R : Rd w c a b off n cap X) (hbl : 0 < n → b < w.heap.size) :
    Calls Try.prog 63 #[.pointer (some ⟨c, 0, none⟩)] w fun e w' => ∃ v v', e = .returned (.tuple #[v, v']) ∧ RatS w' v w.heap.size 32 ∧ RatS w' v' w.heap.size 32 ∧ Oth c w w' := by
  have sA : w.Since w.heap.size ((w.alloc (.cells #[.bool false, .slice none 0 0, .slice none 0 0] 27)).alloc (.cells #[.bool false, .slice none 0 0, .slice none 0 0] 27)) := ((World.Since.refl _ _).alloc (Nat.le_refl _) _).alloc (by simp) _
  have zA : ((w.alloc (.cells #[.bool false, .slice none 0 0, .slice none 0 0] 27)).alloc (.cells #[.bool false, .slice none 0 0, .slice none 0 0] 27)).heap.size = w.heap.size + 1 + 1 := by simp
  have rA : Box3 ((w.alloc (.cells #[.bool false, .slice none 0 0, .slice none 0 0] 27)).alloc (.cells #[.bool false, .slice none 0 0, .slice none 0 0] 27)) w.heap.size (.bool false) (.slice none 0 0) (.slice none 0 0) := (Box3.new w _ _ _ _).keep ((World.Since.refl _ _).alloc (Nat.le_refl _) _)
  have rB : Box3 ((w.alloc (.cells #[.bool false, .slice none 0 0, .slice none 0 0] 27)).alloc (.cells #[.bool false, .slice none 0 0, .slice none 0 0] 27)) (w.heap.size + 1) (.bool false) (.slice none 0 0) (.slice none 0 0) := by
    have := Box3.new (w.alloc (.cells #[.bool false, .slice none 0 0, .slice none 0 0] 27)) (.bool false) (.slice none 0 0) (.slice none 0 0) 27
    simpa using this
  have HZA := hide zA
  clear zA
  have rl := R.lt
  have RA := R.keep sA
  go_enter Try.func63, Try.ntmps63
  go_wp2_with fail
  generalize ((w.alloc (.cells #[.bool false, .slice none 0 0, .slice none 0 0] 27)).alloc (.cells #[.bool false, .slice none 0 0, .slice none 0 0] 27)) = wA at *
  have zA := HZA.out
  refine (next_any c a b off n cap X wA hn RA).mono ?_
  rintro e w1 ⟨k, rfl, hk, R1, O1⟩
  have rA1 := rA.oth O1 (by omega)
  have rB1 := rB.oth O1 (by omega)
  have O01 := (Oth.ofSince c sA).trans O1
  have z1 := O1.size
  clear RA O1 sA rA rB
  go_wp2_with fail
  refine (l1DrawAny_any c a b off n cap X w1 hn R1 (fun h => by have := hbl h; omega)).mono ?_
  rintro e w2 ⟨v2, rfl, ⟨f1, a1, n1, c1, b1, m1, d1, g1, h1, X1, Y1, rfl, RR1, k11, k12, k13, k14⟩, R2, O2⟩
  have O02 := O01.trans O2
  have t3 : w2.Since w2.heap.size (w2.alloc (.cells #[.bool f1, .slice a1 n1 c1, .slice b1 m1 d1] 27)) := (World.Since.refl _ _).alloc (Nat.le_refl _) _
  have A3 := Box3.new w2 (.bool f1) (.slice a1 n1 c1) (.slice b1 m1 d1) 27
  have rA3 := (rA1.oth O2 (by omega)).keep t3
  have rB3 := (rB1.oth O2 (by omega)).keep t3
  have R3 := R2.keep t3
  have RR3 := RR1.keep t3
  have O03 := O02.trans (Oth.ofSince c t3)
  have z2 := O2.size
  have z3 := t3.size
  have rbl := rB1.lt
  clear rA1 rB1 R1 O01 R2 O2 O02 RR1 t3
  have al := A3.lt
  have hne1 : w2.heap.size ≠ w.heap.size := by omega
  have hne2 : w2.heap.size ≠ w.heap.size + 1 := by omega
  have hne3 : w.heap.size ≠ w2.heap.size := by omega
  have hne4 : w.heap.size + 1 ≠ w2.heap.size := by omega
  have hne5 : w.heap.size + 1 ≠ w.heap.size := by omega
  have SF : RatS (w2.alloc (.cells #[.bool f1, .slice a1 n1 c1, .slice b1 m1 d1] 27)) (.agg #[.bool f1, .slice a1 n1 c1, .slice b1 m1 d1]) (w.heap.size + 1 + 1) 13 := ⟨f1, a1, n1, c1, b1, m1, d1, g1, h1, X1, Y1, rfl, RR3, k11, k12, fun h0 => by have := k13 h0; omega, fun h0 => by have := k14 h0; omega⟩
  by_cases q0 : (k : Int) % 8 = 0
  · have q0' : ((k : Int) % 8 == 0) = true := by simp [q0]
    have J1 := l1Copy_opt f1 a1 b1 g1 0 n1 c1 h1 0 m1 d1 X1 Y1 (w2.alloc (.cells #[.bool f1, .slice a1 n1 c1, .slice b1 m1 d1] 27)).drew (by omega) (by omega) RR3.nc RR3.mc RR3.ac RR3.bc RR3.LX RR3.LY
    have kk := A3.cells
    go_wp2_with fail
    go_region_held3 (fun w' => w'.cell? ⟨w2.heap.size, 0, none⟩ = some (.bool f1) ∧ w'.cell? ⟨w2.heap.size, 1, none⟩ = some (.slice a1 n1 c1) ∧ w'.cell? ⟨w2.heap.size, 2, none⟩ = some (.slice b1 m1 d1)) (go_keep)
      (first
       | (go_at_call 97
          with_reducible refine J1.mono ?_
          rintro e w6 ⟨g6, h6, c6, d6, rfl, k61, k62, L6, L6', -, -, k63, k64, k65, s6⟩
          have s6' : (w2.alloc (.cells #[.bool f1, .slice a1 n1 c1, .slice b1 m1 d1] 27)).Since (w2.alloc (.cells #[.bool f1, .slice a1 n1 c1, .slice b1 m1 d1] 27)).heap.size w6 := ⟨s6.os, s6.tape, s6.output, s6.size, s6.block⟩
          have A6 := A3.keep s6'
          have rA6 := rA3.keep s6'
          have rB6 := rB3.keep s6'
          have S16 := SF.keep s6'
          have O06 := O03.trans (Oth.ofSince c s6')
          have S26 : RatS w6 (.agg #[.bool f1, .slice (some ⟨g6, 0, none⟩) n1 c6, .slice (some ⟨h6, 0, none⟩) m1 d6]) (w.heap.size + 1 + 1) 13 := ⟨f1, _, n1, c6, _, m1, d6, g6, h6, X1, Y1, rfl, ⟨k61, k62, fun h => (by cases h), fun h => (by cases h), L6, L6', RR3.lX, RR3.lY⟩, k11, k12, fun _ => by simp at k63; omega, fun _ => by simp at k63; omega⟩
          have kk := A6.cells
          have ua0 := rA6.c0
          have ufa0 := rA6.f 0
          have ua1 := rA6.c1
          have ufa1 := rA6.f 1
          have ua2 := rA6.c2
          have ufa2 := rA6.f 2
          have ub0 := rB6.c0
          have ufb0 := rB6.f 0
          have ub1 := rB6.c1
          have ufb1 := rB6.f 1
          have ub2 := rB6.c2
          have ufb2 := rB6.f 2))
    all_goals
      go_wp2
      have rC := ((rA6.set0 (.bool f1)).set1 (.slice a1 n1 c1)).set2 (.slice b1 m1 d1)
      have M1 : Marked w6 ((((w6).setCell ⟨w.heap.size, 0, none⟩ (.bool f1)).setCell ⟨w.heap.size, 1, none⟩ (.slice a1 n1 c1)).setCell ⟨w.heap.size, 2, none⟩ (.slice b1 m1 d1)) w.heap.size := (((Marked.refl w6 _).setCell 0 (.bool f1)).setCell 1 (.slice a1 n1 c1)).setCell 2 (.slice b1 m1 d1)
      have rD := (((rB6.marked M1 hne5).set0 (.bool f1)).set1 (.slice (some ⟨g6, 0, none⟩) n1 c6)).set2 (.slice (some ⟨h6, 0, none⟩) m1 d6)
      have M2 : Marked ((((w6).setCell ⟨w.heap.size, 0, none⟩ (.bool f1)).setCell ⟨w.heap.size, 1, none⟩ (.slice a1 n1 c1)).setCell ⟨w.heap.size, 2, none⟩ (.slice b1 m1 d1)) _ (w.heap.size + 1) := (((Marked.refl _ _).setCell 0 (.bool f1)).setCell 1 (.slice (some ⟨g6, 0, none⟩) n1 c6)).setCell 2 (.slice (some ⟨h6, 0, none⟩) m1 d6)
      have rC' := rC.marked M2 hne5.symm
      refine bodyPost_ret (results_two3 rfl _ _ _ _ _ _ _ _ _ _ rfl rfl rC' rD) rfl ?_
      exact ⟨_, _, rfl, ((S16.oth (Oth.ofMarked M1) (by omega)).oth (Oth.ofMarked M2) (by omega)).more (by omega) (by omega), ((S26.oth (Oth.ofMarked M1) (by omega)).oth (Oth.ofMarked M2) (by omega)).more (by omega) (by omega), oth_new (oth_new O06 M1 (Nat.le_refl _)) M2 (by omega)⟩
  have p0 : ((k : Int) % 8 == 0) = false := by simp [q0]
  by_cases q1 : (k : Int) % 8 = 1
  · have q1' : ((k : Int) % 8 == 1) = true := by simp [q1]
    have e0 := A3.c0
    have e1 := A3.c1
    have e2 := A3.c2
    go_wp2_with fail
    clear e0 e1 e2
    generalize (w2.alloc (.cells #[.bool f1, .slice a1 n1 c1, .slice b1 m1 d1] 27)) = w3 at *
    generalize hcA : w2.heap.size = cA at *
    have J := specRatOk_any f1 a1 b1 g1 0 n1 c1 h1 0 m1 d1 X1 Y1 w3 (by omega) (by omega) RR3.LX RR3.LY RR3.lX RR3.lY
    by_cases ok : ratOkB f1 X1 n1 Y1 m1 = true
    · rw [ok] at J
      refine J.mono ?_
      rintro e w4 ⟨rfl, s4⟩
      have A4 := A3.keep s4
      have rA4 := rA3.keep s4
      have rB4 := rB3.keep s4
      have R4 := R3.keep s4
      have RR4 := RR3.keep s4
      have O04 := O03.trans (Oth.ofSince c s4)
      have z4 := s4.size
      have SF4 := SF.keep s4
      clear J
      have J1 := l1Neg_opt f1 a1 b1 g1 0 n1 c1 h1 0 m1 d1 X1 Y1 w4.drew (by omega) (by omega) RR4.nc RR4.mc RR4.ac RR4.bc RR4.LX RR4.LY
      have kk := A4.cells
      go_wp2_with fail
      go_region_held3 (fun w' => w'.cell? ⟨cA, 0, none⟩ = some (.bool f1) ∧ w'.cell? ⟨cA, 1, none⟩ = some (.slice a1 n1 c1) ∧ w'.cell? ⟨cA, 2, none⟩ = some (.slice b1 m1 d1)) (go_keep)
        (first
         | (go_at_call 106
            with_reducible refine J1.mono ?_
            rintro e w6 ⟨g6, h6, c6, d6, rfl, k61, k62, L6, L6', k63, k64, k65, s6⟩
            have s6' : w4.Since w4.heap.size w6 := ⟨s6.os, s6.tape, s6.output, s6.size, s6.block⟩
            have A6 := A4.keep s6'
            have rA6 := rA4.keep s6'
            have rB6 := rB4.keep s6'
            have S16 := SF4.keep s6'
            have O06 := O04.trans (Oth.ofSince c s6')
            have k63 : w4.heap.size ≤ g6 := k63
            have S26 : RatS w6 (.agg #[.bool (!f1 && decide (0 < n1)), .slice (some ⟨g6, 0, none⟩) n1 c6, .slice (some ⟨h6, 0, none⟩) m1 d6]) (w.heap.size + 1 + 1) 13 := ⟨_, _, n1, c6, _, m1, d6, g6, h6, X1, Y1, rfl, ⟨k61, k62, fun h => (by cases h), fun h => (by cases h), L6, L6', RR3.lX, RR3.lY⟩, k11, k12, fun _ => by omega, fun _ => by omega⟩
            have kk := A6.cells
            have ua0 := rA6.c0
            have ufa0 := rA6.f 0
            have ua1 := rA6.c1
            have ufa1 := rA6.f 1
            have ua2 := rA6.c2
            have ufa2 := rA6.f 2
            have ub0 := rB6.c0
            have ufb0 := rB6.f 0
            have ub1 := rB6.c1
            have ufb1 := rB6.f 1
            have ub2 := rB6.c2
            have ufb2 := rB6.f 2))
      all_goals
        go_wp2
        have rC := ((rA6.set0 (.bool f1)).set1 (.slice a1 n1 c1)).set2 (.slice b1 m1 d1)
        have M1 : Marked w6 ((((w6).setCell ⟨w.heap.size, 0, none⟩ (.bool f1)).setCell ⟨w.heap.size, 1, none⟩ (.slice a1 n1 c1)).setCell ⟨w.heap.size, 2, none⟩ (.slice b1 m1 d1)) w.heap.size := (((Marked.refl w6 _).setCell 0 (.bool f1)).setCell 1 (.slice a1 n1 c1)).setCell 2 (.slice b1 m1 d1)
        have rD := (((rB6.marked M1 hne5).set0 (.bool (!f1 && decide (0 < n1)))).set1 (.slice (some ⟨g6, 0, none⟩) n1 c6)).set2 (.slice (some ⟨h6, 0, none⟩) m1 d6)
        have M2 : Marked ((((w6).setCell ⟨w.heap.size, 0, none⟩ (.bool f1)).setCell ⟨w.heap.size, 1, none⟩ (.slice a1 n1 c1)).setCell ⟨w.heap.size, 2, none⟩ (.slice b1 m1 d1)) _ (w.heap.size + 1) := (((Marked.refl _ _).setCell 0 (.bool (!f1 && decide (0 < n1)))).setCell 1 (.slice (some ⟨g6, 0, none⟩) n1 c6)).setCell 2 (.slice (some ⟨h6, 0, none⟩) m1 d6)
        have rC' := rC.marked M2 hne5.symm
        refine bodyPost_ret (results_two3 rfl _ _ _ _ _ _ _ _ _ _ rfl rfl rC' rD) rfl ?_
        exact ⟨_, _, rfl, ((S16.oth (Oth.ofMarked M1) (by omega)).oth (Oth.ofMarked M2) (by omega)).more (by omega) (by omega), ((S26.oth (Oth.ofMarked M1) (by omega)).oth (Oth.ofMarked M2) (by omega)).more (by omega) (by omega), oth_new (oth_new O06 M1 (Nat.le_refl _)) M2 (by omega)⟩
    · have ok' : ratOkB f1 X1 n1 Y1 m1 = false := by simpa using ok
      rw [ok'] at J
      refine J.mono ?_
      rintro e w4 ⟨rfl, s4⟩
      have A4 := A3.keep s4
      have rA4 := rA3.keep s4
      have rB4 := rB3.keep s4
      have R4 := R3.keep s4
      have RR4 := RR3.keep s4
      have O04 := O03.trans (Oth.ofSince c s4)
      have z4 := s4.size
      have SF4 := SF.keep s4
      clear J
      have p2 : ((k : Int) % 8 == 2) = false := by simp; omega
      have p3 : ((k : Int) % 8 == 3) = false := by simp; omega
      go_wp2_with fail
      refine (l1DrawAny_any c a b off n cap X w4 hn R4 (fun h => by have := hbl h; omega)).mono ?_
      rintro e w5 ⟨v5, rfl, ⟨f2, a2, n2, c2, b2, m2, d2, g2, h2, X2, Y2, rfl, RS5, k21, k22, k23, k24⟩, R5, O5⟩
      have al4 := A4.lt
      have SG5 : RatS w5 (.agg #[.bool f2, .slice a2 n2 c2, .slice b2 m2 d2]) (w.heap.size + 1 + 1) 13 := ⟨f2, a2, n2, c2, b2, m2, d2, g2, h2, X2, Y2, rfl, RS5, k21, k22, fun h0 => by have := k23 h0; omega, fun h0 => by have := k24 h0; omega⟩
      have A5 := A4.oth O5 (by omega)
      have rA5 := rA4.oth O5 (by omega)
      have rB5 := rB4.oth O5 (by omega)
      have SF5 := SF4.oth O5 (by omega)
      have RR5 : RRaw w5 a1 b1 g1 0 n1 c1 h1 0 m1 d1 X1 Y1 := ⟨RR4.nc, RR4.mc, RR4.ac, RR4.bc, RR4.LX.oth O5 (fun h0 => by have := k13 h0; omega), RR4.LY.oth O5 (fun h0 => by have := k14 h0; omega), RR4.lX, RR4.lY⟩
      have O05 := O04.trans O5
      have z5 := O5.size
      have s7 : w5.Since w5.heap.size (w5.alloc (.cells #[.bool f2, .slice a2 n2 c2, .slice b2 m2 d2] 27)) := (World.Since.refl _ _).alloc (Nat.le_refl _) _
      have B7 := Box3.new w5 (.bool f2) (.slice a2 n2 c2) (.slice b2 m2 d2) 27
      have A7 := A5.keep s7
      have rA7 := rA5.keep s7
      have rB7 := rB5.keep s7
      have R7 := R5.keep s7
      have RR7 := RR5.keep s7
      have O07 := O05.trans (Oth.ofSince c s7)
      have z7 := s7.size
      have SF7 := SF5.keep s7
      have SG7 := SG5.keep s7
      have RS7 := RS5.keep s7
      have bl7 := B7.lt
      clear A4 rA4 rB4 SF4 RR4 O04 R4 O5 A5 rA5 rB5 R5 RR5 O05 SF5 SG5 RS5 s7
      have hne6 : w5.heap.size ≠ w.heap.size := by omega
      have hne7 : w5.heap.size ≠ w.heap.size + 1 := by omega
      have hne8 : w.heap.size ≠ w5.heap.size := by omega
      have hne9 : w.heap.size + 1 ≠ w5.heap.size := by omega
      go_wp2_with fail
      generalize (w5.alloc (.cells #[.bool f2, .slice a2 n2 c2, .slice b2 m2 d2] 27)) = w7 at *
      generalize hcB : w5.heap.size = cB at *
      have kk := And.intro A7.cells B7.cells
      have ua0 := rA7.c0
      have ufa0 := rA7.f 0
      have ua1 := rA7.c1
      have ufa1 := rA7.f 1
      have ua2 := rA7.c2
      have ufa2 := rA7.f 2
      have ub0 := rB7.c0
      have ufb0 := rB7.f 0
      have ub1 := rB7.c1
      have ufb1 := rB7.f 1
      have ub2 := rB7.c2
      have ufb2 := rB7.f 2
      go_region_held3 (fun w' => w'.cell? ⟨cA, 0, none⟩ = some (.bool f1) ∧ w'.cell? ⟨cA, 1, none⟩ = some (.slice a1 n1 c1) ∧ w'.cell? ⟨cA, 2, none⟩ = some (.slice b1 m1 d1) ∧ w'.cell? ⟨cB, 0, none⟩ = some (.bool f2) ∧ w'.cell? ⟨cB, 1, none⟩ = some (.slice a2 n2 c2) ∧ w'.cell? ⟨cB, 2, none⟩ = some (.slice b2 m2 d2)) (go_keep) (fail)
      all_goals
        go_wp2
        have rC := ((rA7.set0 (.bool f1)).set1 (.slice a1 n1 c1)).set2 (.slice b1 m1 d1)
        have M1 : Marked w7 ((((w7).setCell ⟨w.heap.size, 0, none⟩ (.bool f1)).setCell ⟨w.heap.size, 1, none⟩ (.slice a1 n1 c1)).setCell ⟨w.heap.size, 2, none⟩ (.slice b1 m1 d1)) w.heap.size := (((Marked.refl w7 _).setCell 0 (.bool f1)).setCell 1 (.slice a1 n1 c1)).setCell 2 (.slice b1 m1 d1)
        have rD := (((rB7.marked M1 hne5).set0 (.bool f2)).set1 (.slice a2 n2 c2)).set2 (.slice b2 m2 d2)
        have M2 : Marked ((((w7).setCell ⟨w.heap.size, 0, none⟩ (.bool f1)).setCell ⟨w.heap.size, 1, none⟩ (.slice a1 n1 c1)).setCell ⟨w.heap.size, 2, none⟩ (.slice b1 m1 d1)) _ (w.heap.size + 1) := (((Marked.refl _ _).setCell 0 (.bool f2)).setCell 1 (.slice a2 n2 c2)).setCell 2 (.slice b2 m2 d2)
        have rC' := rC.marked M2 hne5.symm
        refine bodyPost_ret (results_two3 rfl _ _ _ _ _ _ _ _ _ _ rfl rfl rC'.drew rD.drew) rfl ?_
        exact ⟨_, _, rfl, ((SF7.oth (Oth.ofMarked M1) (by omega)).oth (Oth.ofMarked M2) (by omega)).more (by omega) (by omega) |>.keep (since_drew (World.Since.refl _ _)), ((SG7.oth (Oth.ofMarked M1) (by omega)).oth (Oth.ofMarked M2) (by omega)).more (by omega) (by omega) |>.keep (since_drew (World.Since.refl _ _)), (oth_new (oth_new O07 M1 (Nat.le_refl _)) M2 (by omega)).drew⟩
  have p1 : ((k : Int) % 8 == 1) = false := by simp [q1]
  go_wp2_with fail
  generalize (w2.alloc (.cells #[.bool f1, .slice a1 n1 c1, .slice b1 m1 d1] 27)) = w3 at *
  generalize hcA : w2.heap.size = cA at *
  have SF3 := SF
  clear SF
  go_wp2_with fail
  refine (l1DrawAny_any c a b off n cap X w3 hn R3 (fun h => by have := hbl h; omega)).mono ?_
  rintro e w5 ⟨v5, rfl, ⟨f2, a2, n2, c2, b2, m2, d2, g2, h2, X2, Y2, rfl, RS5, k21, k22, k23, k24⟩, R5, O5⟩
  have al3 := A3.lt
  have SG5 : RatS w5 (.agg #[.bool f2, .slice a2 n2 c2, .slice b2 m2 d2]) (w.heap.size + 1 + 1) 13 := ⟨f2, a2, n2, c2, b2, m2, d2, g2, h2, X2, Y2, rfl, RS5, k21, k22, fun h0 => by have := k23 h0; omega, fun h0 => by have := k24 h0; omega⟩
  have A5 := A3.oth O5 (by omega)
  have rA5 := rA3.oth O5 (by omega)
  have rB5 := rB3.oth O5 (by omega)
  have SF5 := SF3.oth O5 (by omega)
  have RR5 : RRaw w5 a1 b1 g1 0 n1 c1 h1 0 m1 d1 X1 Y1 := ⟨RR3.nc, RR3.mc, RR3.ac, RR3.bc, RR3.LX.oth O5 (fun h0 => by have := k13 h0; omega), RR3.LY.oth O5 (fun h0 => by have := k14 h0; omega), RR3.lX, RR3.lY⟩
  have O05 := O03.trans O5
  have z5 := O5.size
  have s7 : w5.Since w5.heap.size (w5.alloc (.cells #[.bool f2, .slice a2 n2 c2, .slice b2 m2 d2] 27)) := (World.Since.refl _ _).alloc (Nat.le_refl _) _
  have B7 := Box3.new w5 (.bool f2) (.slice a2 n2 c2) (.slice b2 m2 d2) 27
  have A7 := A5.keep s7
  have rA7 := rA5.keep s7
  have rB7 := rB5.keep s7
  have R7 := R5.keep s7
  have RR7 := RR5.keep s7
  have O07 := O05.trans (Oth.ofSince c s7)
  have z7 := s7.size
  have SF7 := SF5.keep s7
  have SG7 := SG5.keep s7
  have RS7 := RS5.keep s7
  have bl7 := B7.lt
  clear A3 rA3 rB3 SF3 RR3 O03 R3 O5 A5 rA5 rB5 R5 RR5 O05 SF5 SG5 RS5 s7
  have hne6 : w5.heap.size ≠ w.heap.size := by omega
  have hne7 : w5.heap.size ≠ w.heap.size + 1 := by omega
  have hne8 : w.heap.size ≠ w5.heap.size := by omega
  have hne9 : w.heap.size + 1 ≠ w5.heap.size := by omega
  by_cases r2 : (k : Int) % 8 = 2
  · have r2' : ((k : Int) % 8 == 2) = true := by simp [r2]
    have r3' : ((k : Int) % 8 == 3) = false := by simp; omega
    have e0 := A7.c0
    have e1 := A7.c1
    have e2 := A7.c2
    go_wp2_with fail
    clear e0 e1 e2
    generalize (w5.alloc (.cells #[.bool f2, .slice a2 n2 c2, .slice b2 m2 d2] 27)) = w7 at *
    generalize hcB : w5.heap.size = cB at *
    have J := specRatOk_any f1 a1 b1 g1 0 n1 c1 h1 0 m1 d1 X1 Y1 w7 (by omega) (by omega) RR7.LX RR7.LY RR7.lX RR7.lY
    by_cases ok1 : ratOkB f1 X1 n1 Y1 m1 = true
    · rw [ok1] at J
      refine J.mono ?_
      rintro e w8 ⟨rfl, s8⟩
      have A8 := A7.keep s8
      have rA8 := rA7.keep s8
      have rB8 := rB7.keep s8
      have RR8 := RR7.keep s8
      have O08 := O07.trans (Oth.ofSince c s8)
      have z8 := s8.size
      have SF8 := SF7.keep s8
      have SG8 := SG7.keep s8
      have RS8 := RS7.keep s8
      have B8 := B7.keep s8
      clear J A7 rA7 rB7 RR7 O07 SF7 SG7 RS7 B7 s8
      have i0 := B8.c0
      have i1 := B8.c1
      have i2 := B8.c2
      go_wp2_with fail
      clear i0 i1 i2
      have J := specRatOk_any f2 a2 b2 g2 0 n2 c2 h2 0 m2 d2 X2 Y2 w8 (by omega) (by omega) RS8.LX RS8.LY RS8.lX RS8.lY
      by_cases ok2 : ratOkB f2 X2 n2 Y2 m2 = true
      · rw [ok2] at J
        refine J.mono ?_
        rintro e w9 ⟨rfl, s9⟩
        have A9 := A8.keep s9
        have rA9 := rA8.keep s9
        have rB9 := rB8.keep s9
        have RR9 := RR8.keep s9
        have O09 := O08.trans (Oth.ofSince c s9)
        have z9 := s9.size
        have SF9 := SF8.keep s9
        have SG9 := SG8.keep s9
        have RS9 := RS8.keep s9
        have B9 := B8.keep s9
        clear J A8 rA8 rB8 RR8 O08 SF8 SG8 RS8 B8 s9
        by_cases hn2 : 0 < n2
        · have hn2' : (0 : Int) < (n2 : Int) := by omega
          have i0 := B9.c0
          have i1 := B9.c1
          have i2 := B9.c2
          go_wp2_with fail
          clear i0 i1 i2
          obtain rfl : a2 = some ⟨g2, 0, none⟩ := by have := (RS9.LX 0 hn2).1; simpa using this
          have RI2 := RS9.ok ok2
          obtain rfl : b2 = some ⟨h2, 0, none⟩ := by have := (RS9.LY 0 RI2.m0).1; simpa using this
          have RI1 := RR9.ok ok1
          have J1 := l1Inv_any f2 ⟨g2, 0, none⟩ ⟨h2, 0, none⟩ g2 0 n2 c2 h2 0 m2 d2 X2 Y2 w9.drew (by omega) (by omega) RS9.nc RS9.mc RS9.LX RS9.LY
          have kk := And.intro A9.cells B9.cells
          have z9' := rB9.lt
          go_region_held3 (fun w' => w'.cell? ⟨cA, 0, none⟩ = some (.bool f1) ∧ w'.cell? ⟨cA, 1, none⟩ = some (.slice a1 n1 c1) ∧ w'.cell? ⟨cA, 2, none⟩ = some (.slice b1 m1 d1) ∧ w'.cell? ⟨cB, 0, none⟩ = some (.bool f2) ∧ w'.cell? ⟨cB, 1, none⟩ = some (.slice (some ⟨g2, 0, none⟩) n2 c2) ∧ w'.cell? ⟨cB, 2, none⟩ = some (.slice (some ⟨h2, 0, none⟩) m2 d2)) (go_keep)
            (first
             | (go_at_call 80
                with_reducible refine J1.mono ?_
                rintro e w10 ⟨i1', i2', gi, hi', ci, di, rfl, v1, v2, v3, v4, LI1, LI2, -, -, -, s10⟩
                have s10' : w9.Since w9.heap.size w10 := ⟨s10.os, s10.tape, s10.output, s10.size, s10.block⟩
                have A10 := A9.keep s10'
                have B10 := B9.keep s10'
                have kk := And.intro A10.cells B10.cells
                have RJ : RIn w10 i2' i1' hi' 0 m2 di gi 0 n2 ci Y2 X2 := ⟨v2, v1, v4, v3, LI2, LI1, RI2.lY, RI2.lX, RI2.pY, RI2.pX, hn2⟩
                obtain ⟨q1', hq1, e11, e12⟩ := rat_of_ok (RI1.keep s10') ok1
                obtain ⟨q2', hq2, e21, e22⟩ := rat_of_ok RJ (ratOk_swap hn2 ok2)
                have Q1 : Qb q1' 13 := ⟨by rw [e11]; exact lv_pow RI1.lX k11, by rw [e12]; exact lv_pow RI1.lY k12⟩
                have Q2 : Qb q2' 13 := ⟨by rw [e21]; exact lv_pow RI2.lY k22, by rw [e22]; exact lv_pow RI2.lX k21⟩
                have J2 := l1Add_q Q1 Q2 (by omega) hq1 hq2
                have HQ := hide (Q1.add Q2)
                clear e11 e12 e21 e22 hq1 hq2 Q1 Q2)
             | (go_at_call 58
                with_reducible refine J2.mono ?_
                rintro e w6 ⟨v6, rfl, HV, s6⟩
                have S26 : RatS w6 v6 w10.heap.size 27 := HV.shape HQ.out.1 HQ.out.2
                have s6' : w9.Since w9.heap.size w6 := s10'.trans (sinceMono s6 s10'.size)
                obtain ⟨f6, a6, n6, c6, b6, m6, d6, g6, h6, X6, Y6, rfl, RR6, k61, k62, k63, k64⟩ := S26
                have z10 := s10'.size
                have S26 : RatS w6 (.agg #[.bool f6, .slice a6 n6 c6, .slice b6 m6 d6]) (w.heap.size + 1 + 1) 27 := ⟨f6, a6, n6, c6, b6, m6, d6, g6, h6, X6, Y6, rfl, RR6, k61, k62, fun h0 => by have := k63 h0; omega, fun h0 => by have := k64 h0; omega⟩
                have A6 := A9.keep s6'
                have B6 := B9.keep s6'
                have rA6 := rA9.keep s6'
                have rB6 := rB9.keep s6'
                have S16 := SF9.keep s6'
                have O06 := O09.trans (Oth.ofSince c s6')
                have kk := And.intro A6.cells B6.cells
                have ua0 := rA6.c0
                have ufa0 := rA6.f 0
                have ua1 := rA6.c1
                have ufa1 := rA6.f 1
                have ua2 := rA6.c2
                have ufa2 := rA6.f 2
                have ub0 := rB6.c0
                have ufb0 := rB6.f 0
                have ub1 := rB6.c1
                have ufb1 := rB6.f 1
                have ub2 := rB6.c2
                have ufb2 := rB6.f 2))
          all_goals
            go_wp2
            have rC := ((rA6.set0 (.bool f1)).set1 (.slice a1 n1 c1)).set2 (.slice b1 m1 d1)
            have M1 : Marked w6 ((((w6).setCell ⟨w.heap.size, 0, none⟩ (.bool f1)).setCell ⟨w.heap.size, 1, none⟩ (.slice a1 n1 c1)).setCell ⟨w.heap.size, 2, none⟩ (.slice b1 m1 d1)) w.heap.size := (((Marked.refl w6 _).setCell 0 (.bool f1)).setCell 1 (.slice a1 n1 c1)).setCell 2 (.slice b1 m1 d1)
            have rD := (((rB6.marked M1 hne5).set0 (.bool f6)).set1 (.slice a6 n6 c6)).set2 (.slice b6 m6 d6)
            have M2 : Marked ((((w6).setCell ⟨w.heap.size, 0, none⟩ (.bool f1)).setCell ⟨w.heap.size, 1, none⟩ (.slice a1 n1 c1)).setCell ⟨w.heap.size, 2, none⟩ (.slice b1 m1 d1)) _ (w.heap.size + 1) := (((Marked.refl _ _).setCell 0 (.bool f6)).setCell 1 (.slice a6 n6 c6)).setCell 2 (.slice b6 m6 d6)
            have rC' := rC.marked M2 hne5.symm
            refine bodyPost_ret (results_two3 rfl _ _ _ _ _ _ _ _ _ _ rfl rfl rC' rD) rfl ?_
            exact ⟨_, _, rfl, ((S16.oth (Oth.ofMarked M1) (by omega)).oth (Oth.ofMarked M2) (by omega)).more (by omega) (by omega), ((S26.oth (Oth.ofMarked M1) (by omega)).oth (Oth.ofMarked M2) (by omega)).more (by omega) (by omega), oth_new (oth_new O06 M1 (Nat.le_refl _)) M2 (by omega)⟩
        · have hn2' : ¬ (0 : Int) < (n2 : Int) := by omega
          have i0 := B9.c0
          have i1 := B9.c1
          have i2 := B9.c2
          go_wp2_with fail
          clear i0 i1 i2
          have kk := And.intro A9.cells B9.cells
          have ua0 := rA9.c0
          have ufa0 := rA9.f 0
          have ua1 := rA9.c1
          have ufa1 := rA9.f 1
          have ua2 := rA9.c2
          have ufa2 := rA9.f 2
          have ub0 := rB9.c0
          have ufb0 := rB9.f 0
          have ub1 := rB9.c1
          have ufb1 := rB9.f 1
          have ub2 := rB9.c2
          have ufb2 := rB9.f 2
          go_region_held3 (fun w' => w'.cell? ⟨cA, 0, none⟩ = some (.bool f1) ∧ w'.cell? ⟨cA, 1, none⟩ = some (.slice a1 n1 c1) ∧ w'.cell? ⟨cA, 2, none⟩ = some (.slice b1 m1 d1) ∧ w'.cell? ⟨cB, 0, none⟩ = some (.bool f2) ∧ w'.cell? ⟨cB, 1, none⟩ = some (.slice a2 n2 c2) ∧ w'.cell? ⟨cB, 2, none⟩ = some (.slice b2 m2 d2)) (go_keep) (fail)
          all_goals
            go_wp2
            have rC := ((rA9.set0 (.bool f1)).set1 (.slice a1 n1 c1)).set2 (.slice b1 m1 d1)
            have M1 : Marked w9 ((((w9).setCell ⟨w.heap.size, 0, none⟩ (.bool f1)).setCell ⟨w.heap.size, 1, none⟩ (.slice a1 n1 c1)).setCell ⟨w.heap.size, 2, none⟩ (.slice b1 m1 d1)) w.heap.size := (((Marked.refl w9 _).setCell 0 (.bool f1)).setCell 1 (.slice a1 n1 c1)).setCell 2 (.slice b1 m1 d1)
            have rD := (((rB9.marked M1 hne5).set0 (.bool f2)).set1 (.slice a2 n2 c2)).set2 (.slice b2 m2 d2)
            have M2 : Marked ((((w9).setCell ⟨w.heap.size, 0, none⟩ (.bool f1)).setCell ⟨w.heap.size, 1, none⟩ (.slice a1 n1 c1)).setCell ⟨w.heap.size, 2, none⟩ (.slice b1 m1 d1)) _ (w.heap.size + 1) := (((Marked.refl _ _).setCell 0 (.bool f2)).setCell 1 (.slice a2 n2 c2)).setCell 2 (.slice b2 m2 d2)
            have rC' := rC.marked M2 hne5.symm
            refine bodyPost_ret (results_two3 rfl _ _ _ _ _ _ _ _ _ _ rfl rfl rC'.drew rD.drew) rfl ?_
            exact ⟨_, _, rfl, ((SF9.oth (Oth.ofMarked M1) (by omega)).oth (Oth.ofMarked M2) (by omega)).more (by omega) (by omega) |>.keep (since_drew (World.Since.refl _ _)), ((SG9.oth (Oth.ofMarked M1) (by omega)).oth (Oth.ofMarked M2) (by omega)).more (by omega) (by omega) |>.keep (since_drew (World.Since.refl _ _)), (oth_new (oth_new O09 M1 (Nat.le_refl _)) M2 (by omega)).drew⟩
      · have ok2' : ratOkB f2 X2 n2 Y2 m2 = false := by simpa using ok2
        rw [ok2'] at J
        refine J.mono ?_
        rintro e w9 ⟨rfl, s9⟩
        have A9 := A8.keep s9
        have rA9 := rA8.keep s9
        have rB9 := rB8.keep s9
        have RR9 := RR8.keep s9
        have O09 := O08.trans (Oth.ofSince c s9)
        have z9 := s9.size
        have SF9 := SF8.keep s9
        have SG9 := SG8.keep s9
        have RS9 := RS8.keep s9
        have B9 := B8.keep s9
        clear J A8 rA8 rB8 RR8 O08 SF8 SG8 RS8 B8 s9
        go_wp2_with fail
        have kk := And.intro A9.cells B9.cells
        have ua0 := rA9.c0
        have ufa0 := rA9.f 0
        have ua1 := rA9.c1
        have ufa1 := rA9.f 1
        have ua2 := rA9.c2
        have ufa2 := rA9.f 2
        have ub0 := rB9.c0
        have ufb0 := rB9.f 0
        have ub1 := rB9.c1
        have ufb1 := rB9.f 1
        have ub2 := rB9.c2
        have ufb2 := rB9.f 2
        go_region_held3 (fun w' => w'.cell? ⟨cA, 0, none⟩ = some (.bool f1) ∧ w'.cell? ⟨cA, 1, none⟩ = some (.slice a1 n1 c1) ∧ w'.cell? ⟨cA, 2, none⟩ = some (.slice b1 m1 d1) ∧ w'.cell? ⟨cB, 0, none⟩ = some (.bool f2) ∧ w'.cell? ⟨cB, 1, none⟩ = some (.slice a2 n2 c2) ∧ w'.cell? ⟨cB, 2, none⟩ = some (.slice b2 m2 d2)) (go_keep) (fail)
        all_goals
          go_wp2
          have rC := ((rA9.set0 (.bool f1)).set1 (.slice a1 n1 c1)).set2 (.slice b1 m1 d1)
          have M1 : Marked w9 ((((w9).setCell ⟨w.heap.size, 0, none⟩ (.bool f1)).setCell ⟨w.heap.size, 1, none⟩ (.slice a1 n1 c1)).setCell ⟨w.heap.size, 2, none⟩ (.slice b1 m1 d1)) w.heap.size := (((Marked.refl w9 _).setCell 0 (.bool f1)).setCell 1 (.slice a1 n1 c1)).setCell 2 (.slice b1 m1 d1)
          have rD := (((rB9.marked M1 hne5).set0 (.bool f2)).set1 (.slice a2 n2 c2)).set2 (.slice b2 m2 d2)
          have M2 : Marked ((((w9).setCell ⟨w.heap.size, 0, none⟩ (.bool f1)).setCell ⟨w.heap.size, 1, none⟩ (.slice a1 n1 c1)).setCell ⟨w.heap.size, 2, none⟩ (.slice b1 m1 d1)) _ (w.heap.size + 1) := (((Marked.refl _ _).setCell 0 (.bool f2)).setCell 1 (.slice a2 n2 c2)).setCell 2 (.slice b2 m2 d2)
          have rC' := rC.marked M2 hne5.symm
          refine bodyPost_ret (results_two3 rfl _ _ _ _ _ _ _ _ _ _ rfl rfl rC'.drew rD.drew) rfl ?_
          exact ⟨_, _, rfl, ((SF9.oth (Oth.ofMarked M1) (by omega)).oth (Oth.ofMarked M2) (by omega)).more (by omega) (by omega) |>.keep (since_drew (World.Since.refl _ _)), ((SG9.oth (Oth.ofMarked M1) (by omega)).oth (Oth.ofMarked M2) (by omega)).more (by omega) (by omega) |>.keep (since_drew (World.Since.refl _ _)), (oth_new (oth_new O09 M1 (Nat.le_refl _)) M2 (by omega)).drew⟩
    · have ok1' : ratOkB f1 X1 n1 Y1 m1 = false := by simpa using ok1
      rw [ok1'] at J
      refine J.mono ?_
      rintro e w8 ⟨rfl, s8⟩
      have A8 := A7.keep s8
      have rA8 := rA7.keep s8
      have rB8 := rB7.keep s8
      have RR8 := RR7.keep s8
      have O08 := O07.trans (Oth.ofSince c s8)
      have z8 := s8.size
      have SF8 := SF7.keep s8
      have SG8 := SG7.keep s8
      have RS8 := RS7.keep s8
      have B8 := B7.keep s8
      clear J A7 rA7 rB7 RR7 O07 SF7 SG7 RS7 B7 s8
      go_wp2_with fail
      have kk := And.intro A8.cells B8.cells
      have ua0 := rA8.c0
      have ufa0 := rA8.f 0
      have ua1 := rA8.c1
      have ufa1 := rA8.f 1
      have ua2 := rA8.c2
      have ufa2 := rA8.f 2
      have ub0 := rB8.c0
      have ufb0 := rB8.f 0
      have ub1 := rB8.c1
      have ufb1 := rB8.f 1
      have ub2 := rB8.c2
      have ufb2 := rB8.f 2
      go_region_held3 (fun w' => w'.cell? ⟨cA, 0, none⟩ = some (.bool f1) ∧ w'.cell? ⟨cA, 1, none⟩ = some (.slice a1 n1 c1) ∧ w'.cell? ⟨cA, 2, none⟩ = some (.slice b1 m1 d1) ∧ w'.cell? ⟨cB, 0, none⟩ = some (.bool f2) ∧ w'.cell? ⟨cB, 1, none⟩ = some (.slice a2 n2 c2) ∧ w'.cell? ⟨cB, 2, none⟩ = some (.slice b2 m2 d2)) (go_keep) (fail)
      all_goals
        go_wp2
        have rC := ((rA8.set0 (.bool f1)).set1 (.slice a1 n1 c1)).set2 (.slice b1 m1 d1)
        have M1 : Marked w8 ((((w8).setCell ⟨w.heap.size, 0, none⟩ (.bool f1)).setCell ⟨w.heap.size, 1, none⟩ (.slice a1 n1 c1)).setCell ⟨w.heap.size, 2, none⟩ (.slice b1 m1 d1)) w.heap.size := (((Marked.refl w8 _).setCell 0 (.bool f1)).setCell 1 (.slice a1 n1 c1)).setCell 2 (.slice b1 m1 d1)
        have rD := (((rB8.marked M1 hne5).set0 (.bool f2)).set1 (.slice a2 n2 c2)).set2 (.slice b2 m2 d2)
        have M2 : Marked ((((w8).setCell ⟨w.heap.size, 0, none⟩ (.bool f1)).setCell ⟨w.heap.size, 1, none⟩ (.slice a1 n1 c1)).setCell ⟨w.heap.size, 2, none⟩ (.slice b1 m1 d1)) _ (w.heap.size + 1) := (((Marked.refl _ _).setCell 0 (.bool f2)).setCell 1 (.slice a2 n2 c2)).setCell 2 (.slice b2 m2 d2)
        have rC' := rC.marked M2 hne5.symm
        refine bodyPost_ret (results_two3 rfl _ _ _ _ _ _ _ _ _ _ rfl rfl rC'.drew rD.drew) rfl ?_
        exact ⟨_, _, rfl, ((SF8.oth (Oth.ofMarked M1) (by omega)).oth (Oth.ofMarked M2) (by omega)).more (by omega) (by omega) |>.keep (since_drew (World.Since.refl _ _)), ((SG8.oth (Oth.ofMarked M1) (by omega)).oth (Oth.ofMarked M2) (by omega)).more (by omega) (by omega) |>.keep (since_drew (World.Since.refl _ _)), (oth_new (oth_new O08 M1 (Nat.le_refl _)) M2 (by omega)).drew⟩
  have r2' : ((k : Int) % 8 == 2) = false := by simp [r2]
  by_cases r3 : (k : Int) % 8 = 3
  · have r3' : ((k : Int) % 8 == 3) = true := by simp [r3]
    have e0 := A7.c0
    have e1 := A7.c1
    have e2 := A7.c2
    by_cases hm1 : 0 < m1
    · have hm1' : (0 : Int) < (m1 : Int) := by omega
      go_wp2_with fail
      clear e0 e1 e2
      generalize (w5.alloc (.cells #[.bool f2, .slice a2 n2 c2, .slice b2 m2 d2] 27)) = w7 at *
      generalize hcB : w5.heap.size = cB at *
      have J := specRatOk_any f1 a1 b1 g1 0 n1 c1 h1 0 m1 d1 X1 Y1 w7 (by omega) (by omega) RR7.LX RR7.LY RR7.lX RR7.lY
      by_cases ok1 : ratOkB f1 X1 n1 Y1 m1 = true
      · rw [ok1] at J
        refine J.mono ?_
        rintro e w8 ⟨rfl, s8⟩
        have A8 := A7.keep s8
        have rA8 := rA7.keep s8
        have rB8 := rB7.keep s8
        have RR8 := RR7.keep s8
        have O08 := O07.trans (Oth.ofSince c s8)
        have z8 := s8.size
        have SF8 := SF7.keep s8
        have SG8 := SG7.keep s8
        have RS8 := RS7.keep s8
        have B8 := B7.keep s8
        clear J A7 rA7 rB7 RR7 O07 SF7 SG7 RS7 B7 s8
        have i0 := B8.c0
        have i1 := B8.c1
        have i2 := B8.c2
        go_wp2_with fail
        clear i0 i1 i2
        have J := specRatOk_any f2 a2 b2 g2 0 n2 c2 h2 0 m2 d2 X2 Y2 w8 (by omega) (by omega) RS8.LX RS8.LY RS8.lX RS8.lY
        by_cases ok2 : ratOkB f2 X2 n2 Y2 m2 = true
        · rw [ok2] at J
          refine J.mono ?_
          rintro e w9 ⟨rfl, s9⟩
          have A9 := A8.keep s9
          have rA9 := rA8.keep s9
          have rB9 := rB8.keep s9
          have RR9 := RR8.keep s9
          have O09 := O08.trans (Oth.ofSince c s9)
          have z9 := s9.size
          have SF9 := SF8.keep s9
          have SG9 := SG8.keep s9
          have RS9 := RS8.keep s9
          have B9 := B8.keep s9
          clear J A8 rA8 rB8 RR8 O08 SF8 SG8 RS8 B8 s9
          go_wp2_with fail
          have J1 := l1Bits_any a2 g2 0 n2 c2 X2 w9.drew (by omega) RS9.LX RS9.lX
          have RI1 := RR9.ok ok1
          have hden := RI1.den
          have kk := And.intro A9.cells B9.cells
          have z9' := rB9.lt
          have LY9 := RR9.LY
          have lY9 := RR9.lY
          go_region_held3 (fun w' => w'.cell? ⟨cA, 0, none⟩ = some (.bool f1) ∧ w'.cell? ⟨cA, 1, none⟩ = some (.slice a1 n1 c1) ∧ w'.cell? ⟨cA, 2, none⟩ = some (.slice b1 m1 d1) ∧ w'.cell? ⟨cB, 0, none⟩ = some (.bool f2) ∧ w'.cell? ⟨cB, 1, none⟩ = some (.slice a2 n2 c2) ∧ w'.cell? ⟨cB, 2, none⟩ = some (.slice b2 m2 d2)) (go_keep)
            (first
             | (go_at_call 47
                first
                | (with_reducible refine J1.mono ?_
                   rintro e w10 ⟨a10, g10, m10, c10, B10', rfl, k101, k102, L10, -, p10, -, s10⟩
                   have s10' : w9.Since w9.heap.size w10 := ⟨s10.os, s10.tape, s10.output, s10.size, s10.block⟩
                   have kk := And.intro (A9.keep s10').cells (B9.keep s10').cells
                   have T10 : Tr w10 (.slice a10 m10 c10) m10 B10' := ⟨a10, g10, 0, c10, rfl, k101, L10, p10⟩
                   have J2 := l1Bits_any b1 h1 0 m1 d1 Y1 w10 (by omega) (LY9.keep s10') lY9)
                | (with_reducible refine J2.mono ?_
                   rintro e w11 ⟨a11, g11, m11, c11, B11', rfl, k111, k112, L11, -, p11, e11, s11⟩
                   have s11' : w9.Since w9.heap.size w11 := s10'.trans (sinceMono s11 s10'.size)
                   have kk := And.intro (A9.keep s11').cells (B9.keep s11').cells
                   have T11 : Tr w11 (.slice a11 m11 c11) m11 B11' := ⟨a11, g11, 0, c11, rfl, k111, L11, p11⟩
                   have J3 := l1Make_any f2 _ _ m10 m11 B10' B11' w11 (by omega) (by omega) (T10.keep s11) T11 (by rw [e11]; exact hden)
                   have HB1 := hide (bv_lim B10' (k := 13) (show m10 ≤ 32 * 13 by omega))
                   have HB2 := hide (bv_lim B11' (k := 13) (show m11 ≤ 32 * 13 by omega))))
             | (go_at_call 84
                with_reducible refine J3.mono ?_
                rintro e w6 ⟨v6, rfl, HV, s6⟩
                have S26 : RatS w6 v6 w11.heap.size 13 := HV.shape (lt_div HB1.out) (lt_div HB2.out)
                have s6' : w9.Since w9.heap.size w6 := s11'.trans (sinceMono s6 s11'.size)
                obtain ⟨f6, a6, n6, c6, b6, m6, d6, g6, h6, X6, Y6, rfl, RR6, k61, k62, k63, k64⟩ := S26
                have z10 := s11'.size
                have S26 : RatS w6 (.agg #[.bool f6, .slice a6 n6 c6, .slice b6 m6 d6]) (w.heap.size + 1 + 1) 27 := ⟨f6, a6, n6, c6, b6, m6, d6, g6, h6, X6, Y6, rfl, RR6, by omega, by omega, fun h0 => by have := k63 h0; omega, fun h0 => by have := k64 h0; omega⟩
                have A6 := A9.keep s6'
                have B6 := B9.keep s6'
                have rA6 := rA9.keep s6'
                have rB6 := rB9.keep s6'
                have S16 := SF9.keep s6'
                have O06 := O09.trans (Oth.ofSince c s6')
                have kk := And.intro A6.cells B6.cells
                have ua0 := rA6.c0
                have ufa0 := rA6.f 0
                have ua1 := rA6.c1
                have ufa1 := rA6.f 1
                have ua2 := rA6.c2
                have ufa2 := rA6.f 2
                have ub0 := rB6.c0
                have ufb0 := rB6.f 0
                have ub1 := rB6.c1
                have ufb1 := rB6.f 1
                have ub2 := rB6.c2
                have ufb2 := rB6.f 2))
          all_goals
            go_wp2
            have rC := ((rA6.set0 (.bool f1)).set1 (.slice a1 n1 c1)).set2 (.slice b1 m1 d1)
            have M1 : Marked w6 ((((w6).setCell ⟨w.heap.size, 0, none⟩ (.bool f1)).setCell ⟨w.heap.size, 1, none⟩ (.slice a1 n1 c1)).setCell ⟨w.heap.size, 2, none⟩ (.slice b1 m1 d1)) w.heap.size := (((Marked.refl w6 _).setCell 0 (.bool f1)).setCell 1 (.slice a1 n1 c1)).setCell 2 (.slice b1 m1 d1)
            have rD := (((rB6.marked M1 hne5).set0 (.bool f6)).set1 (.slice a6 n6 c6)).set2 (.slice b6 m6 d6)
            have M2 : Marked ((((w6).setCell ⟨w.heap.size, 0, none⟩ (.bool f1)).setCell ⟨w.heap.size, 1, none⟩ (.slice a1 n1 c1)).setCell ⟨w.heap.size, 2, none⟩ (.slice b1 m1 d1)) _ (w.heap.size + 1) := (((Marked.refl _ _).setCell 0 (.bool f6)).setCell 1 (.slice a6 n6 c6)).setCell 2 (.slice b6 m6 d6)
            have rC' := rC.marked M2 hne5.symm
            refine bodyPost_ret (results_two3 rfl _ _ _ _ _ _ _ _ _ _ rfl rfl rC' rD) rfl ?_
            exact ⟨_, _, rfl, ((S16.oth (Oth.ofMarked M1) (by omega)).oth (Oth.ofMarked M2) (by omega)).more (by omega) (by omega), ((S26.oth (Oth.ofMarked M1) (by omega)).oth (Oth.ofMarked M2) (by omega)).more (by omega) (by omega), oth_new (oth_new O06 M1 (Nat.le_refl _)) M2 (by omega)⟩
        · have ok2' : ratOkB f2 X2 n2 Y2 m2 = false := by simpa using ok2
          rw [ok2'] at J
          refine J.mono ?_
          rintro e w9 ⟨rfl, s9⟩
          have A9 := A8.keep s9
          have rA9 := rA8.keep s9
          have rB9 := rB8.keep s9
          have RR9 := RR8.keep s9
          have O09 := O08.trans (Oth.ofSince c s9)
          have z9 := s9.size
          have SF9 := SF8.keep s9
          have SG9 := SG8.keep s9
          have RS9 := RS8.keep s9
          have B9 := B8.keep s9
          clear J A8 rA8 rB8 RR8 O08 SF8 SG8 RS8 B8 s9
          go_wp2_with fail
          have kk := And.intro A9.cells B9.cells
          have ua0 := rA9.c0
          have ufa0 := rA9.f 0
          have ua1 := rA9.c1
          have ufa1 := rA9.f 1
          have ua2 := rA9.c2
          have ufa2 := rA9.f 2
          have ub0 := rB9.c0
          have ufb0 := rB9.f 0
          have ub1 := rB9.c1
          have ufb1 := rB9.f 1
          have ub2 := rB9.c2
          have ufb2 := rB9.f 2
          go_region_held3 (fun w' => w'.cell? ⟨cA, 0, none⟩ = some (.bool f1) ∧ w'.cell? ⟨cA, 1, none⟩ = some (.slice a1 n1 c1) ∧ w'.cell? ⟨cA, 2, none⟩ = some (.slice b1 m1 d1) ∧ w'.cell? ⟨cB, 0, none⟩ = some (.bool f2) ∧ w'.cell? ⟨cB, 1, none⟩ = some (.slice a2 n2 c2) ∧ w'.cell? ⟨cB, 2, none⟩ = some (.slice b2 m2 d2)) (go_keep) (fail)
          all_goals
            go_wp2
            have rC := ((rA9.set0 (.bool f1)).set1 (.slice a1 n1 c1)).set2 (.slice b1 m1 d1)
            have M1 : Marked w9 ((((w9).setCell ⟨w.heap.size, 0, none⟩ (.bool f1)).setCell ⟨w.heap.size, 1, none⟩ (.slice a1 n1 c1)).setCell ⟨w.heap.size, 2, none⟩ (.slice b1 m1 d1)) w.heap.size := (((Marked.refl w9 _).setCell 0 (.bool f1)).setCell 1 (.slice a1 n1 c1)).setCell 2 (.slice b1 m1 d1)
            have rD := (((rB9.marked M1 hne5).set0 (.bool f2)).set1 (.slice a2 n2 c2)).set2 (.slice b2 m2 d2)
            have M2 : Marked ((((w9).setCell ⟨w.heap.size, 0, none⟩ (.bool f1)).setCell ⟨w.heap.size, 1, none⟩ (.slice a1 n1 c1)).setCell ⟨w.heap.size, 2, none⟩ (.slice b1 m1 d1)) _ (w.heap.size + 1) := (((Marked.refl _ _).setCell 0 (.bool f2)).setCell 1 (.slice a2 n2 c2)).setCell 2 (.slice b2 m2 d2)
            have rC' := rC.marked M2 hne5.symm
            refine bodyPost_ret (results_two3 rfl _ _ _ _ _ _ _ _ _ _ rfl rfl rC'.drew rD.drew) rfl ?_
            exact ⟨_, _, rfl, ((SF9.oth (Oth.ofMarked M1) (by omega)).oth (Oth.ofMarked M2) (by omega)).more (by omega) (by omega) |>.keep (since_drew (World.Since.refl _ _)), ((SG9.oth (Oth.ofMarked M1) (by omega)).oth (Oth.ofMarked M2) (by omega)).more (by omega) (by omega) |>.keep (since_drew (World.Since.refl _ _)), (oth_new (oth_new O09 M1 (Nat.le_refl _)) M2 (by omega)).drew⟩
      · have ok1' : ratOkB f1 X1 n1 Y1 m1 = false := by simpa using ok1
        rw [ok1'] at J
        refine J.mono ?_
        rintro e w8 ⟨rfl, s8⟩
        have A8 := A7.keep s8
        have rA8 := rA7.keep s8
        have rB8 := rB7.keep s8
        have RR8 := RR7.keep s8
        have O08 := O07.trans (Oth.ofSince c s8)
        have z8 := s8.size
        have SF8 := SF7.keep s8
        have SG8 := SG7.keep s8
        have RS8 := RS7.keep s8
        have B8 := B7.keep s8
        clear J A7 rA7 rB7 RR7 O07 SF7 SG7 RS7 B7 s8
        go_wp2_with fail
        have kk := And.intro A8.cells B8.cells
        have ua0 := rA8.c0
        have ufa0 := rA8.f 0
        have ua1 := rA8.c1
        have ufa1 := rA8.f 1
        have ua2 := rA8.c2
        have ufa2 := rA8.f 2
        have ub0 := rB8.c0
        have ufb0 := rB8.f 0
        have ub1 := rB8.c1
        have ufb1 := rB8.f 1
        have ub2 := rB8.c2
        have ufb2 := rB8.f 2
        go_region_held3 (fun w' => w'.cell? ⟨cA, 0, none⟩ = some (.bool f1) ∧ w'.cell? ⟨cA, 1, none⟩ = some (.slice a1 n1 c1) ∧ w'.cell? ⟨cA, 2, none⟩ = some (.slice b1 m1 d1) ∧ w'.cell? ⟨cB, 0, none⟩ = some (.bool f2) ∧ w'.cell? ⟨cB, 1, none⟩ = some (.slice a2 n2 c2) ∧ w'.cell? ⟨cB, 2, none⟩ = some (.slice b2 m2 d2)) (go_keep) (fail)
        all_goals
          go_wp2
          have rC := ((rA8.set0 (.bool f1)).set1 (.slice a1 n1 c1)).set2 (.slice b1 m1 d1)
          have M1 : Marked w8 ((((w8).setCell ⟨w.heap.size, 0, none⟩ (.bool f1)).setCell ⟨w.heap.size, 1, none⟩ (.slice a1 n1 c1)).setCell ⟨w.heap.size, 2, none⟩ (.slice b1 m1 d1)) w.heap.size := (((Marked.refl w8 _).setCell 0 (.bool f1)).setCell 1 (.slice a1 n1 c1)).setCell 2 (.slice b1 m1 d1)
          have rD := (((rB8.marked M1 hne5).set0 (.bool f2)).set1 (.slice a2 n2 c2)).set2 (.slice b2 m2 d2)
          have M2 : Marked ((((w8).setCell ⟨w.heap.size, 0, none⟩ (.bool f1)).setCell ⟨w.heap.size, 1, none⟩ (.slice a1 n1 c1)).setCell ⟨w.heap.size, 2, none⟩ (.slice b1 m1 d1)) _ (w.heap.size + 1) := (((Marked.refl _ _).setCell 0 (.bool f2)).setCell 1 (.slice a2 n2 c2)).setCell 2 (.slice b2 m2 d2)
          have rC' := rC.marked M2 hne5.symm
          refine bodyPost_ret (results_two3 rfl _ _ _ _ _ _ _ _ _ _ rfl rfl rC'.drew rD.drew) rfl ?_
          exact ⟨_, _, rfl, ((SF8.oth (Oth.ofMarked M1) (by omega)).oth (Oth.ofMarked M2) (by omega)).more (by omega) (by omega) |>.keep (since_drew (World.Since.refl _ _)), ((SG8.oth (Oth.ofMarked M1) (by omega)).oth (Oth.ofMarked M2) (by omega)).more (by omega) (by omega) |>.keep (since_drew (World.Since.refl _ _)), (oth_new (oth_new O08 M1 (Nat.le_refl _)) M2 (by omega)).drew⟩
    · have hm1' : ¬ (0 : Int) < (m1 : Int) := by omega
      go_wp2_with fail
      clear e0 e1 e2
      generalize (w5.alloc (.cells #[.bool f2, .slice a2 n2 c2, .slice b2 m2 d2] 27)) = w7 at *
      generalize hcB : w5.heap.size = cB at *
      have kk := And.intro A7.cells B7.cells
      have ua0 := rA7.c0
      have ufa0 := rA7.f 0
      have ua1 := rA7.c1
      have ufa1 := rA7.f 1
      have ua2 := rA7.c2
      have ufa2 := rA7.f 2
      have ub0 := rB7.c0
      have ufb0 := rB7.f 0
      have ub1 := rB7.c1
      have ufb1 := rB7.f 1
      have ub2 := rB7.c2
      have ufb2 := rB7.f 2
      go_region_held3 (fun w' => w'.cell? ⟨cA, 0, none⟩ = some (.bool f1) ∧ w'.cell? ⟨cA, 1, none⟩ = some (.slice a1 n1 c1) ∧ w'.cell? ⟨cA, 2, none⟩ = some (.slice b1 m1 d1) ∧ w'.cell? ⟨cB, 0, none⟩ = some (.bool f2) ∧ w'.cell? ⟨cB, 1, none⟩ = some (.slice a2 n2 c2) ∧ w'.cell? ⟨cB, 2, none⟩ = some (.slice b2 m2 d2)) (go_keep) (fail)
      all_goals
        go_wp2
        have rC := ((rA7.set0 (.bool f1)).set1 (.slice a1 n1 c1)).set2 (.slice b1 m1 d1)
        have M1 : Marked w7 ((((w7).setCell ⟨w.heap.size, 0, none⟩ (.bool f1)).setCell ⟨w.heap.size, 1, none⟩ (.slice a1 n1 c1)).setCell ⟨w.heap.size, 2, none⟩ (.slice b1 m1 d1)) w.heap.size := (((Marked.refl w7 _).setCell 0 (.bool f1)).setCell 1 (.slice a1 n1 c1)).setCell 2 (.slice b1 m1 d1)
        have rD := (((rB7.marked M1 hne5).set0 (.bool f2)).set1 (.slice a2 n2 c2)).set2 (.slice b2 m2 d2)
        have M2 : Marked ((((w7).setCell ⟨w.heap.size, 0, none⟩ (.bool f1)).setCell ⟨w.heap.size, 1, none⟩ (.slice a1 n1 c1)).setCell ⟨w.heap.size, 2, none⟩ (.slice b1 m1 d1)) _ (w.heap.size + 1) := (((Marked.refl _ _).setCell 0 (.bool f2)).setCell 1 (.slice a2 n2 c2)).setCell 2 (.slice b2 m2 d2)
        have rC' := rC.marked M2 hne5.symm
        refine bodyPost_ret (results_two3 rfl _ _ _ _ _ _ _ _ _ _ rfl rfl rC'.drew rD.drew) rfl ?_
        exact ⟨_, _, rfl, ((SF7.oth (Oth.ofMarked M1) (by omega)).oth (Oth.ofMarked M2) (by omega)).more (by omega) (by omega) |>.keep (since_drew (World.Since.refl _ _)), ((SG7.oth (Oth.ofMarked M1) (by omega)).oth (Oth.ofMarked M2) (by omega)).more (by omega) (by omega) |>.keep (since_drew (World.Since.refl _ _)), (oth_new (oth_new O07 M1 (Nat.le_refl _)) M2 (by omega)).drew⟩
  have r3' : ((k : Int) % 8 == 3) = false := by simp [r3]
  go_wp2_with fail
  generalize (w5.alloc (.cells #[.bool f2, .slice a2 n2 c2, .slice b2 m2 d2] 27)) = w7 at *
  generalize hcB : w5.heap.size = cB at *
  have kk := And.intro A7.cells B7.cells
  have ua0 := rA7.c0
  have ufa0 := rA7.f 0
  have ua1 := rA7.c1
  have ufa1 := rA7.f 1
  have ua2 := rA7.c2
  have ufa2 := rA7.f 2
  have ub0 := rB7.c0
  have ufb0 := rB7.f 0
  have ub1 := rB7.c1
  have ufb1 := rB7.f 1
  have ub2 := rB7.c2
  have ufb2 := rB7.f 2
  go_region_held3 (fun w' => w'.cell? ⟨cA, 0, none⟩ = some (.bool f1) ∧ w'.cell? ⟨cA, 1, none⟩ = some (.slice a1 n1 c1) ∧ w'.cell? ⟨cA, 2, none⟩ = some (.slice b1 m1 d1) ∧ w'.cell? ⟨cB, 0, none⟩ = some (.bool f2) ∧ w'.cell? ⟨cB, 1, none⟩ = some (.slice a2 n2 c2) ∧ w'.cell? ⟨cB, 2, none⟩ = some (.slice b2 m2 d2)) (go_keep) (fail)
  all_goals
    go_wp2
    have rC := ((rA7.set0 (.bool f1)).set1 (.slice a1 n1 c1)).set2 (.slice b1 m1 d1)
    have M1 : Marked w7 ((((w7).setCell ⟨w.heap.size, 0, none⟩ (.bool f1)).setCell ⟨w.heap.size, 1, none⟩ (.slice a1 n1 c1)).setCell ⟨w.heap.size, 2, none⟩ (.slice b1 m1 d1)) w.heap.size := (((Marked.refl w7 _).setCell 0 (.bool f1)).setCell 1 (.slice a1 n1 c1)).setCell 2 (.slice b1 m1 d1)
    have rD := (((rB7.marked M1 hne5).set0 (.bool f2)).set1 (.slice a2 n2 c2)).set2 (.slice b2 m2 d2)
    have M2 : Marked ((((w7).setCell ⟨w.heap.size, 0, none⟩ (.bool f1)).setCell ⟨w.heap.size, 1, none⟩ (.slice a1 n1 c1)).setCell ⟨w.heap.size, 2, none⟩ (.slice b1 m1 d1)) _ (w.heap.size + 1) := (((Marked.refl _ _).setCell 0 (.bool f2)).setCell 1 (.slice a2 n2 c2)).setCell 2 (.slice b2 m2 d2)
    have rC' := rC.marked M2 hne5.symm
    refine bodyPost_ret (results_two3 rfl _ _ _ _ _ _ _ _ _ _ rfl rfl rC'.drew rD.drew) rfl ?_
    exact ⟨_, _, rfl, ((SF7.oth (Oth.ofMarked M1) (by omega)).oth (Oth.ofMarked M2) (by omega)).more (by omega) (by omega) |>.keep (since_drew (World.Since.refl _ _)), ((SG7.oth (Oth.ofMarked M1) (by omega)).oth (Oth.ofMarked M2) (by omega)).more (by omega) (by omega) |>.keep (since_drew (World.Since.refl _ _)), (oth_new (oth_new O07 M1 (Nat.le_refl _)) M2 (by omega)).drew⟩

end Go.Proofs.Ytdfcckifbbeoiaa

namespace Go.Proofs.Ytdfcckifbbeoiaa
open Go.RowKit

set_option maxHeartbeats 1600000 in
set_option maxRecDepth 100000 in
theorem drawRatAdd_any (a : Option Addr) (b off n cap : Nat) (X : Nat → Nat) (w : World) (hn : n ≤ 1048576) (hC : Code w a b off n X) :
    Calls Try.prog 20 #[.slice a n cap] w fun e w' => ∃ v1 v2, e = .returned (.tuple #[v1, v2]) ∧ RatS w' v1 w.heap.size 32 ∧ RatS w' v2 w.heap.size 32 ∧ w.Since w.heap.size w' := by
  have sA : w.Since w.heap.size ((w.alloc (.cells #[.bool false, .slice none 0 0, .slice none 0 0] 27)).alloc (.cells #[.bool false, .slice none 0 0, .slice none 0 0] 27)) := ((World.Since.refl _ _).alloc (Nat.le_refl _) _).alloc (by simp) _
  have zA : ((w.alloc (.cells #[.bool false, .slice none 0 0, .slice none 0 0] 27)).alloc (.cells #[.bool false, .slice none 0 0, .slice none 0 0] 27)).heap.size = w.heap.size + 1 + 1 := by simp
  have rA : Box3 ((w.alloc (.cells #[.bool false, .slice none 0 0, .slice none 0 0] 27)).alloc (.cells #[.bool false, .slice none 0 0, .slice none 0 0] 27)) w.heap.size (.bool false) (.slice none 0 0) (.slice none 0 0) := (Box3.new w _ _ _ _).keep ((World.Since.refl _ _).alloc (Nat.le_refl _) _)
  have rB : Box3 ((w.alloc (.cells #[.bool false, .slice none 0 0, .slice none 0 0] 27)).alloc (.cells #[.bool false, .slice none 0 0, .slice none 0 0] 27)) (w.heap.size + 1) (.bool false) (.slice none 0 0) (.slice none 0 0) := by
    have := Box3.new (w.alloc (.cells #[.bool false, .slice none 0 0, .slice none 0 0] 27)) (.bool false) (.slice none 0 0) (.slice none 0 0) 27
    simpa using this
  have HZA := hide zA
  clear zA
  have hbl := hC.lt
  go_enter Try.func20, Try.ntmps20
  go_wp2_with fail
  generalize ((w.alloc (.cells #[.bool false, .slice none 0 0, .slice none 0 0] 27)).alloc (.cells #[.bool false, .slice none 0 0, .slice none 0 0] 27)) = wA at *
  have zA1 : w.heap.size + 1 < wA.heap.size := by have := HZA.out; omega
  clear HZA
  refine (l1Open_any a b off n cap X wA (hC.keep sA)).mono ?_
  rintro e w1 ⟨rfl, R1, s1⟩
  have rA1 := rA.keep s1
  have rB1 := rB.keep s1
  have z1 := s1.size
  have hc1 := R1.lt
  go_wp2_with fail
  refine (l1DrawPair_any wA.heap.size a b off n cap X w1 hn R1 (fun h => by have := hbl h; omega)).mono ?_
  rintro e w2 ⟨v, v', rfl, ⟨f1, a1, n1, c1, b1, m1, d1, g1, h1, X1, Y1, rfl, RR1, k11, k12, k13, k14⟩, ⟨f2, a2, n2, c2, b2, m2, d2, g2, h2, X2, Y2, rfl, RR2, k21, k22, k23, k24⟩, O2⟩
  have S1 : RatS w2 (.agg #[.bool f1, .slice a1 n1 c1, .slice b1 m1 d1]) w1.heap.size 32 := ⟨f1, a1, n1, c1, b1, m1, d1, g1, h1, X1, Y1, rfl, RR1, k11, k12, k13, k14⟩
  have S2 : RatS w2 (.agg #[.bool f2, .slice a2 n2 c2, .slice b2 m2 d2]) w1.heap.size 32 := ⟨f2, a2, n2, c2, b2, m2, d2, g2, h2, X2, Y2, rfl, RR2, k21, k22, k23, k24⟩
  have rA2 := rA1.oth O2 (by omega)
  have rB2 := rB1.oth O2 (by omega)
  have S02 : w.Since w.heap.size w2 := (sA.trans (sinceMono s1 sA.size)).trans (sinceMono (O2.since (by omega)) (by omega))
  have hne5 : w.heap.size + 1 ≠ w.heap.size := by omega
  have ua0 := rA2.c0
  have ufa0 := rA2.f 0
  have ua1 := rA2.c1
  have ufa1 := rA2.f 1
  have ua2 := rA2.c2
  have ufa2 := rA2.f 2
  have ub0 := rB2.c0
  have ufb0 := rB2.f 0
  have ub1 := rB2.c1
  have ufb1 := rB2.f 1
  have ub2 := rB2.c2
  have ufb2 := rB2.f 2
  go_wp2
  have rC := ((rA2.set0 (.bool f1)).set1 (.slice a1 n1 c1)).set2 (.slice b1 m1 d1)
  have M1 : Marked w2 (((w2.setCell ⟨w.heap.size, 0, none⟩ (.bool f1)).setCell ⟨w.heap.size, 1, none⟩ (.slice a1 n1 c1)).setCell ⟨w.heap.size, 2, none⟩ (.slice b1 m1 d1)) w.heap.size := (((Marked.refl w2 _).setCell 0 (.bool f1)).setCell 1 (.slice a1 n1 c1)).setCell 2 (.slice b1 m1 d1)
  have rD := (((rB2.marked M1 hne5).set0 (.bool f2)).set1 (.slice a2 n2 c2)).set2 (.slice b2 m2 d2)
  have M2 : Marked (((w2.setCell ⟨w.heap.size, 0, none⟩ (.bool f1)).setCell ⟨w.heap.size, 1, none⟩ (.slice a1 n1 c1)).setCell ⟨w.heap.size, 2, none⟩ (.slice b1 m1 d1)) _ (w.heap.size + 1) := (((Marked.refl _ _).setCell 0 (.bool f2)).setCell 1 (.slice a2 n2 c2)).setCell 2 (.slice b2 m2 d2)
  have rC' := rC.marked M2 hne5.symm
  refine bodyPost_ret (results_two3 rfl _ _ _ _ _ _ _ _ _ _ rfl rfl rC' rD) rfl ?_
  exact ⟨_, _, rfl, ((S1.oth (Oth.ofMarked M1) (by omega)).oth (Oth.ofMarked M2) (by omega)).more (by omega) (by omega), ((S2.oth (Oth.ofMarked M1) (by omega)).oth (Oth.ofMarked M2) (by omega)).more (by omega) (by omega), (S02.trans (M1.since (Nat.le_refl _))).trans (M2.since (by omega))⟩

set_option maxHeartbeats 1600000 in
set_option maxRecDepth 100000 in
theorem drawRatText_any (a : Option Addr) (b off n cap : Nat) (X : Nat → Nat) (w : World) (hn : n ≤ 1048576) (hC : Code w a b off n X) :
    Calls Try.prog 21 #[.slice a n cap] w fun e w' => ∃ v, e = .returned v ∧ RatS w' v w.heap.size 32 ∧ w.Since w.heap.size w' := by
  have sA : w.Since w.heap.size (w.alloc (.cells #[.bool false, .slice none 0 0, .slice none 0 0] 27)) := (World.Since.refl _ _).alloc (Nat.le_refl _) _
  have rA := Box3.new w (.bool false) (.slice none 0 0) (.slice none 0 0) 27
  have hbl := hC.lt
  go_enter Try.func21, Try.ntmps21
  go_wp2_with fail
  generalize (w.alloc (.cells #[.bool false, .slice none 0 0, .slice none 0 0] 27)) = wA at *
  have bl := rA.lt
  refine (l1Open_any a b off n cap X wA (hC.keep sA)).mono ?_
  rintro e w1 ⟨rfl, R1, s1⟩
  have rA1 := rA.keep s1
  have z1 := s1.size
  have hc1 := R1.lt
  go_wp2_with fail
  refine (l1DrawAny_any wA.heap.size a b off n cap X w1 hn R1 (fun h => by have := hbl h; omega)).mono ?_
  rintro e w2 ⟨v, rfl, ⟨f1, a1, n1, c1, b1, m1, d1, g1, h1, X1, Y1, rfl, RR1, k11, k12, k13, k14⟩, -, O2⟩
  have S1 : RatS w2 (.agg #[.bool f1, .slice a1 n1 c1, .slice b1 m1 d1]) w1.heap.size 13 := ⟨f1, a1, n1, c1, b1, m1, d1, g1, h1, X1, Y1, rfl, RR1, k11, k12, k13, k14⟩
  have rA2 := rA1.oth O2 (by omega)
  have S02 : w.Since w.heap.size w2 := (sA.trans (sinceMono s1 sA.size)).trans (sinceMono (O2.since (by omega)) (by omega))
  have ua0 := rA2.c0
  have ufa0 := rA2.f 0
  have ua1 := rA2.c1
  have ufa1 := rA2.f 1
  have ua2 := rA2.c2
  have ufa2 := rA2.f 2
  go_wp2
  have rC := ((rA2.set0 (.bool f1)).set1 (.slice a1 n1 c1)).set2 (.slice b1 m1 d1)
  have M1 : Marked w2 _ w.heap.size := (((Marked.refl w2 _).setCell 0 (.bool f1)).setCell 1 (.slice a1 n1 c1)).setCell 2 (.slice b1 m1 d1)
  refine bodyPost_ret (results_box3 rfl _ _ _ _ _ _ rfl rC) rfl ?_
  exact ⟨_, rfl, (S1.oth (Oth.ofMarked M1) (by omega)).more (by omega) (by omega), S02.trans (M1.since (Nat.le_refl _))⟩

end Go.Proofs.Ytdfcckifbbeoiaa
