import Derived.Test.YthaomfabdghfjaaGreatOwnP7
import Derived.Laws.AppendOwnNone
import Derived.Test.YthaomfabdghfjaaGreatOwnP6
import Derived.Test.YthaomfabdghfjaaGreatOwnP4
import Derived.Test.YthaomfabdghfjaaGreatOwnP3
namespace Go.Proofs.YthaomfabdghfjaaGreat
open Go.RowKit

/-- An append to a row of one's own, from a list that may be nil. -/
theorem wpList_append_own_opt {P : Program} (w : World) {ops : Array Oper} {rest : List Oper} {o : Oper} {a : Act} {Q : Exit → Act → World → Prop} (hgd : o.guard = none) (s x : Operand) (t : TypeId)
    (ho : o.op = .call { callee := .builtin .append, args := #[s, x], argTypes := #[t, t] })
    (base : Nat) (e : TypeId) (i : TypeInfo) (z : Value) (size bytes : Nat) (ht : P.underlying t = some (.slice e)) (hi : P.info? e = some i) (hz : i.zero = some z)
    (hsize : i.size = size) (hby : i.bytes = bytes) (hzs : z.cells.size = size) (hsz : 0 < size)
    (v : Value) (n : Nat) (xs : List Value) (hs : a.eval s = v) (hown : w.ownsRow base e size v n xs)
    (q : Option Addr) (m c : Nat) (news : List Value) (hx : a.eval x = .slice q m c) (hl : news.length = m * size) (hq : q = none → m = 0 ∧ c = 0) (hnews : ∀ ad, q = some ad → ∀ j u, news[j]? = some u → w.cell? (ad.add j) = some u) (h1 : ∀ u ∈ news, u.oneCell' = true)
    (h63 : n + m ≤ maxLen) (hbytes : (n + m) * bytes ≤ 140737488355328) (hbase : base ≤ w.heap.size)
    (h : ∀ v' w', w'.ownsRow base e size v' (n + m) (xs ++ news) → w.grownBy w' v.ownBlock → (v' = .slice none 0 0 ↔ v = .slice none 0 0 ∧ m = 0) → wpList P ops Q rest (a.put o.dst v') w') : wpList P ops Q (o :: rest) a w := by
  rcases q with _ | ad
  · obtain ⟨rfl, rfl⟩ := hq rfl
    obtain rfl : news = [] := List.length_eq_zero_iff.mp (by omega)
    refine wpList_append_own_none hgd s x t ho base e i size ht hi v n xs hs hown hx (h v w ?_ ?_ ?_)
    · rw [List.append_nil]; exact hown
    · exact ⟨rfl, rfl, rfl, Nat.le_refl _, fun _ _ _ => rfl⟩
    · simp
  · exact wpList_append_own w hgd s x t ho base e i z size bytes ht hi hz hsize hby hzs hsz v n xs hs hown ad m c news hx hl (hnews ad rfl) h1 h63 hbytes hbase h

theorem limbs_newsO {w : World} {a : Option Addr} {b off n : Nat} {X : Nat → Nat} (h : Limbs w a b off n X) : ∀ ad, a = some ad → ∀ j u, (ll X n)[j]? = some u → w.cell? (ad.add j) = some u := by
  intro ad e
  subst e
  exact limbs_news h

set_option maxHeartbeats 1600000 in
set_option maxRecDepth 100000 in
/-- l1Copy of a Rat whose lists are not nil: nor are the answer's. -/
theorem l1Copy_opt (f : Bool) (x y : Option Addr) (ba oa n ca bb ob m cb : Nat) (X Y : Nat → Nat) (w : World) (hn : n ≤ 16777216) (hm : m ≤ 16777216) (hnc : n ≤ ca) (hmc : m ≤ cb) (hxc : x = none → ca = 0) (hyc : y = none → cb = 0) (hX : Limbs w x ba oa n X) (hY : Limbs w y bb ob m Y) :
    Calls Tryz.prog 98 #[.agg #[.bool f, .slice x n ca, .slice y m cb]] w fun e w' => ∃ g h c1 c2, e = .returned (.agg #[.bool f, .slice (some ⟨g, 0, none⟩) n c1, .slice (some ⟨h, 0, none⟩) m c2]) ∧ n ≤ c1 ∧ m ≤ c2 ∧
      Limbs w' (some ⟨g, 0, none⟩) g 0 n X ∧ Limbs w' (some ⟨h, 0, none⟩) h 0 m Y ∧ (0 < n → ∀ o, w'.frozen? ⟨g, o, none⟩ = false) ∧ (0 < m → ∀ o, w'.frozen? ⟨h, o, none⟩ = false) ∧ w.heap.size ≤ g ∧ g < h ∧ h < w'.heap.size ∧ w.Since w.heap.size w' := by
  obtain ⟨i0, hi, hz0, hz1, hz2⟩ := info_parts Tryz.info119
  have sA : w.Since w.heap.size ((w.alloc (.cells #[.bool f, .slice x n ca, .slice y m cb] 70)).alloc (.cells #[.bool false, .slice none 0 0, .slice none 0 0] 70)) := ((World.Since.refl _ _).alloc (Nat.le_refl _) _).alloc (by simp) _
  have oA : Box3 ((w.alloc (.cells #[.bool f, .slice x n ca, .slice y m cb] 70)).alloc (.cells #[.bool false, .slice none 0 0, .slice none 0 0] 70)) w.heap.size (.bool f) (.slice x n ca) (.slice y m cb) := (Box3.new w _ _ _ _).keep ((World.Since.refl _ _).alloc (Nat.le_refl _) _)
  have tB : ((w.alloc (.cells #[.bool f, .slice x n ca, .slice y m cb] 70)).alloc (.cells #[.bool false, .slice none 0 0, .slice none 0 0] 70)).Since ((w.alloc (.cells #[.bool f, .slice x n ca, .slice y m cb] 70)).alloc (.cells #[.bool false, .slice none 0 0, .slice none 0 0] 70)).heap.size (((w.alloc (.cells #[.bool f, .slice x n ca, .slice y m cb] 70)).alloc (.cells #[.bool false, .slice none 0 0, .slice none 0 0] 70)).alloc (.cells #[] 119)) := (World.Since.refl _ _).alloc (Nat.le_refl _) _
  have SB := sA.trans (sinceMono tB sA.size)
  have X1 := hX.keep SB
  have own1 := World.ownsRow_made (e := 119) (size := 1) ((w.alloc (.cells #[.bool f, .slice x n ca, .slice y m cb] 70)).alloc (.cells #[.bool false, .slice none 0 0, .slice none 0 0] 70)) #[] 0 (Nat.le_refl _) (by decide) rfl
  have zA : ((w.alloc (.cells #[.bool f, .slice x n ca, .slice y m cb] 70)).alloc (.cells #[.bool false, .slice none 0 0, .slice none 0 0] 70)).heap.size = w.heap.size + 1 + 1 := by simp
  have own0 := World.ownsRow_made (e := 119) (size := 1) ((w.alloc (.cells #[.bool f, .slice x n ca, .slice y m cb] 70)).alloc (.cells #[.bool false, .slice none 0 0, .slice none 0 0] 70)) #[] 0 (Nat.le_refl _) (by decide) rfl
  rw [zA] at own1
  have zA' := zA
  have rA : Box3 ((w.alloc (.cells #[.bool f, .slice x n ca, .slice y m cb] 70)).alloc (.cells #[.bool false, .slice none 0 0, .slice none 0 0] 70)) (w.heap.size + 1) (.bool false) (.slice none 0 0) (.slice none 0 0) := by
    have := Box3.new (w.alloc (.cells #[.bool f, .slice x n ca, .slice y m cb] 70)) (.bool false) (.slice none 0 0) (.slice none 0 0) 70
    simpa using this
  have HZA := hide zA'
  clear zA zA'
  go_enter Tryz.func98, Tryz.ntmps98
  go_wp2_with (at_builtin; refine wpList_append_own_opt _ rfl _ _ 61 rfl (w.heap.size + 1 + 1) 119 i0 (.int .u32 0) 1 4 Tryz.underlying61 hi hz0 hz1 hz2 rfl (by decide) _ 0 [] rfl own1 x n ca (ll X n) rfl (by rw [ll_len]; omega) (fun e => by have := hxc e; omega) (limbs_newsO X1) (ll_one X n) (by unfold maxLen; omega) (by omega) (by simp) ?_)
  intro v1 w2 own2 grow2 nn2
  have tC : ((w.alloc (.cells #[.bool f, .slice x n ca, .slice y m cb] 70)).alloc (.cells #[.bool false, .slice none 0 0, .slice none 0 0] 70)).Since ((w.alloc (.cells #[.bool f, .slice x n ca, .slice y m cb] 70)).alloc (.cells #[.bool false, .slice none 0 0, .slice none 0 0] 70)).heap.size w2 := tB.grown grow2 (Nat.le_trans (Nat.le_refl _) tB.size) (fun k hk => by
    have := own0.lt k (by rw [HZA.out]; exact hk)
    exact this.1)
  have SC : w.Since w.heap.size w2 := sA.trans (sinceMono tC sA.size)
  have o2 := oA.keep tC
  have r2 := rA.keep tC
  have HN := hide nn2
  clear grow2 own1 nn2
  generalize ((w.alloc (.cells #[.bool f, .slice x n ca, .slice y m cb] 70)).alloc (.cells #[.bool false, .slice none 0 0, .slice none 0 0] 70)) = wA at *
  have tD : w2.Since w2.heap.size (w2.alloc (.cells #[] 119)) := (World.Since.refl _ _).alloc (Nat.le_refl _) _
  have SD := SC.trans (sinceMono tD SC.size)
  have Y1 := hY.keep SD
  have own3 := World.ownsRow_made (e := 119) (size := 1) w2 #[] 0 (Nat.le_refl _) (by decide) rfl
  have o3 := o2.keep tD
  have k2 := o3.c2
  go_wp2_with (at_builtin; refine wpList_append_own_opt _ rfl _ _ 61 rfl w2.heap.size 119 i0 (.int .u32 0) 1 4 Tryz.underlying61 hi hz0 hz1 hz2 rfl (by decide) _ 0 [] rfl own3 y m cb (ll Y m) rfl (by rw [ll_len]; omega) (fun e => by have := hyc e; omega) (limbs_newsO Y1) (ll_one Y m) (by unfold maxLen; omega) (by omega) tD.size ?_)
  intro v3 w4 own4 grow4 nn4
  have tE : w2.Since w2.heap.size w4 := tD.grown grow4 tD.size (fun k hk => (own3.lt k hk).1)
  have SE := SC.trans (sinceMono tE SC.size)
  have o4 := o2.keep tE
  have r4 := r2.keep tE
  obtain ⟨g1, c1, rfl, m1, b1, l1, L1, F1⟩ := own_limbs_some own2 HN.out
  obtain ⟨g2, c2, rfl, m2, b2, l2, L2, F2⟩ := own_limbs_some own4 nn4
  clear grow4 own3 nn4 k2 o3
  have j0 := o4.c0
  have u0 := r4.c0
  have u1 := r4.c1
  have u2 := r4.c2
  have uf0 := r4.f 0
  have uf1 := r4.f 1
  have uf2 := r4.f 2
  go_wp2
  have zC := tC.size
  have zE := tE.size
  have rC := ((r4.set0 (.bool f)).set1 (.slice (some ⟨g1, 0, none⟩) n c1)).set2 (.slice (some ⟨g2, 0, none⟩) m c2)
  refine bodyPost_ret (results_box3 rfl _ _ _ _ _ _ rfl rC) rfl ?_
  have M : Marked w4 _ (w.heap.size + 1) := (((Marked.refl w4 _).setCell 0 (.bool f)).setCell 1 (.slice (some ⟨g1, 0, none⟩) n c1)).setCell 2 (.slice (some ⟨g2, 0, none⟩) m c2)
  have hz := HZA.out
  have zM := M.size
  refine ⟨g1, g2, c1, c2, rfl, m1, m2, (L1.keep tE).marked M (fun _ => by omega), L2.marked M (fun _ => by omega), fun _ o => ?_, fun _ o => ?_, by omega, by omega, by omega, SE.trans (M.since (by omega))⟩
  · rw [M.frozenO (a := ⟨g1, o, none⟩) (by show g1 ≠ _; omega), tE.frozen (a := ⟨g1, o, none⟩) l1]; exact F1 o
  · rw [M.frozenO (a := ⟨g2, o, none⟩) (by show g2 ≠ _; omega)]; exact F2 o

set_option maxHeartbeats 1600000 in
set_option maxRecDepth 100000 in
theorem l1Neg_opt (f : Bool) (x y : Option Addr) (ba oa n ca bb ob m cb : Nat) (X Y : Nat → Nat) (w : World) (hn : n ≤ 16777216) (hm : m ≤ 16777216) (hnc : n ≤ ca) (hmc : m ≤ cb) (hxc : x = none → ca = 0) (hyc : y = none → cb = 0) (hX : Limbs w x ba oa n X) (hY : Limbs w y bb ob m Y) :
    Calls Tryz.prog 120 #[.agg #[.bool f, .slice x n ca, .slice y m cb]] w fun e w' => ∃ g h c1 c2, e = .returned (.agg #[.bool (!f && decide (0 < n)), .slice (some ⟨g, 0, none⟩) n c1, .slice (some ⟨h, 0, none⟩) m c2]) ∧ n ≤ c1 ∧ m ≤ c2 ∧
      Limbs w' (some ⟨g, 0, none⟩) g 0 n X ∧ Limbs w' (some ⟨h, 0, none⟩) h 0 m Y ∧ w.heap.size ≤ g ∧ g < h ∧ h < w'.heap.size ∧ w.Since w.heap.size w' := by
  have sA : w.Since w.heap.size ((w.alloc (.cells #[.bool f, .slice x n ca, .slice y m cb] 70)).alloc (.cells #[.bool false, .slice none 0 0, .slice none 0 0] 70)) := ((World.Since.refl _ _).alloc (Nat.le_refl _) _).alloc (by simp) _
  have oA : Box3 ((w.alloc (.cells #[.bool f, .slice x n ca, .slice y m cb] 70)).alloc (.cells #[.bool false, .slice none 0 0, .slice none 0 0] 70)) w.heap.size (.bool f) (.slice x n ca) (.slice y m cb) := (Box3.new w _ _ _ _).keep ((World.Since.refl _ _).alloc (Nat.le_refl _) _)
  have rA : Box3 ((w.alloc (.cells #[.bool f, .slice x n ca, .slice y m cb] 70)).alloc (.cells #[.bool false, .slice none 0 0, .slice none 0 0] 70)) (w.heap.size + 1) (.bool false) (.slice none 0 0) (.slice none 0 0) := by
    have := Box3.new (w.alloc (.cells #[.bool f, .slice x n ca, .slice y m cb] 70)) (.bool false) (.slice none 0 0) (.slice none 0 0) 70
    simpa using this
  go_enter Tryz.func120, Tryz.ntmps120
  go_wp2_with fail
  generalize ((w.alloc (.cells #[.bool f, .slice x n ca, .slice y m cb] 70)).alloc (.cells #[.bool false, .slice none 0 0, .slice none 0 0] 70)) = w1 at *
  refine (l1Copy_opt f x y ba oa n ca bb ob m cb X Y w1 hn hm hnc hmc hxc hyc (hX.keep sA) (hY.keep sA)).mono ?_
  rintro e w2 ⟨g, h, c1, c2, rfl, m1, m2, L1, L2, -, -, b1, b2, b3, s2⟩
  have S2 : w.Since w.heap.size w2 := sA.trans (sinceMono s2 sA.size)
  have z1 := rA.lt
  have t3 : w2.Since w2.heap.size (w2.alloc (.cells #[.bool f, .slice (some ⟨g, 0, none⟩) n c1, .slice (some ⟨h, 0, none⟩) m c2] 70)) := (World.Since.refl _ _).alloc (Nat.le_refl _) _
  have q3 := Box3.new w2 (.bool f) (.slice (some ⟨g, 0, none⟩) n c1) (.slice (some ⟨h, 0, none⟩) m c2) 70
  have o3 := (oA.keep s2).keep t3
  have r3 := (rA.keep s2).keep t3
  have k0 := o3.c0
  have k1 := o3.c1
  have j0 := q3.c0
  have j1 := q3.c1
  have j2 := q3.c2
  have jf := q3.f 0
  have hne : w.heap.size ≠ w2.heap.size := by omega
  have hne2 : w.heap.size + 1 ≠ w2.heap.size := by omega
  have r2 := rA.keep s2
  cases f
  · by_cases hn0 : 0 < n
    · have hgt : (0 : Int) < (n : Int) := by omega
      have t4 : w2.Since w2.heap.size (w2.alloc (.cells #[.bool true, .slice (some ⟨g, 0, none⟩) n c1, .slice (some ⟨h, 0, none⟩) m c2] 70)) := (World.Since.refl _ _).alloc (Nat.le_refl _) _
      have q4 := Box3.new w2 (.bool true) (.slice (some ⟨g, 0, none⟩) n c1) (.slice (some ⟨h, 0, none⟩) m c2) 70
      have r4 := r2.keep t4
      have S4 := S2.trans (sinceMono t4 S2.size)
      have i0 := q4.c0
      have i1 := q4.c1
      have i2 := q4.c2
      have u0 := r4.c0
      have u1 := r4.c1
      have u2 := r4.c2
      have uf0 := r4.f 0
      have uf1 := r4.f 1
      have uf2 := r4.f 2
      go_wp2
      have rC := ((r4.set0 (.bool true)).set1 (.slice (some ⟨g, 0, none⟩) n c1)).set2 (.slice (some ⟨h, 0, none⟩) m c2)
      refine bodyPost_ret (results_box3 rfl _ _ _ _ _ _ rfl rC) rfl ?_
      have M5 : Marked (w2.alloc (.cells #[.bool true, .slice (some ⟨g, 0, none⟩) n c1, .slice (some ⟨h, 0, none⟩) m c2] 70)) _ (w.heap.size + 1) := (((Marked.refl (w2.alloc (.cells #[.bool true, .slice (some ⟨g, 0, none⟩) n c1, .slice (some ⟨h, 0, none⟩) m c2] 70)) _).setCell 0 (.bool true)).setCell 1 (.slice (some ⟨g, 0, none⟩) n c1)).setCell 2 (.slice (some ⟨h, 0, none⟩) m c2)
      have zM := M5.size
      have zq : w2.heap.size ≤ (w2.alloc (.cells #[.bool true, .slice (some ⟨g, 0, none⟩) n c1, .slice (some ⟨h, 0, none⟩) m c2] 70)).heap.size := t4.size
      exact ⟨g, h, c1, c2, by simp [hn0], m1, m2, (L1.keep t4).marked M5 (fun _ => by omega), (L2.keep t4).marked M5 (fun _ => by omega), by omega, by omega, by omega, S4.trans (M5.since (by omega))⟩
    · have hgt : ¬ (0 : Int) < (n : Int) := by omega
      have t4 : w2.Since w2.heap.size (w2.alloc (.cells #[.bool false, .slice (some ⟨g, 0, none⟩) n c1, .slice (some ⟨h, 0, none⟩) m c2] 70)) := (World.Since.refl _ _).alloc (Nat.le_refl _) _
      have q4 := Box3.new w2 (.bool false) (.slice (some ⟨g, 0, none⟩) n c1) (.slice (some ⟨h, 0, none⟩) m c2) 70
      have r4 := r2.keep t4
      have S4 := S2.trans (sinceMono t4 S2.size)
      have i0 := q4.c0
      have i1 := q4.c1
      have i2 := q4.c2
      have u0 := r4.c0
      have u1 := r4.c1
      have u2 := r4.c2
      have uf0 := r4.f 0
      have uf1 := r4.f 1
      have uf2 := r4.f 2
      go_wp2
      have rC := ((r4.set0 (.bool false)).set1 (.slice (some ⟨g, 0, none⟩) n c1)).set2 (.slice (some ⟨h, 0, none⟩) m c2)
      refine bodyPost_ret (results_box3 rfl _ _ _ _ _ _ rfl rC) rfl ?_
      have M5 : Marked (w2.alloc (.cells #[.bool false, .slice (some ⟨g, 0, none⟩) n c1, .slice (some ⟨h, 0, none⟩) m c2] 70)) _ (w.heap.size + 1) := (((Marked.refl (w2.alloc (.cells #[.bool false, .slice (some ⟨g, 0, none⟩) n c1, .slice (some ⟨h, 0, none⟩) m c2] 70)) _).setCell 0 (.bool false)).setCell 1 (.slice (some ⟨g, 0, none⟩) n c1)).setCell 2 (.slice (some ⟨h, 0, none⟩) m c2)
      have zM := M5.size
      have zq : w2.heap.size ≤ (w2.alloc (.cells #[.bool false, .slice (some ⟨g, 0, none⟩) n c1, .slice (some ⟨h, 0, none⟩) m c2] 70)).heap.size := t4.size
      exact ⟨g, h, c1, c2, by simp [hn0], m1, m2, (L1.keep t4).marked M5 (fun _ => by omega), (L2.keep t4).marked M5 (fun _ => by omega), by omega, by omega, by omega, S4.trans (M5.since (by omega))⟩
  · have t4 : w2.Since w2.heap.size (w2.alloc (.cells #[.bool false, .slice (some ⟨g, 0, none⟩) n c1, .slice (some ⟨h, 0, none⟩) m c2] 70)) := (World.Since.refl _ _).alloc (Nat.le_refl _) _
    have q4 := Box3.new w2 (.bool false) (.slice (some ⟨g, 0, none⟩) n c1) (.slice (some ⟨h, 0, none⟩) m c2) 70
    have r4 := r2.keep t4
    have S4 := S2.trans (sinceMono t4 S2.size)
    have i0 := q4.c0
    have i1 := q4.c1
    have i2 := q4.c2
    have u0 := r4.c0
    have u1 := r4.c1
    have u2 := r4.c2
    have uf0 := r4.f 0
    have uf1 := r4.f 1
    have uf2 := r4.f 2
    go_wp2
    have rC := ((r4.set0 (.bool false)).set1 (.slice (some ⟨g, 0, none⟩) n c1)).set2 (.slice (some ⟨h, 0, none⟩) m c2)
    refine bodyPost_ret (results_box3 rfl _ _ _ _ _ _ rfl rC) rfl ?_
    have M5 : Marked (w2.alloc (.cells #[.bool false, .slice (some ⟨g, 0, none⟩) n c1, .slice (some ⟨h, 0, none⟩) m c2] 70)) _ (w.heap.size + 1) := (((Marked.refl (w2.alloc (.cells #[.bool false, .slice (some ⟨g, 0, none⟩) n c1, .slice (some ⟨h, 0, none⟩) m c2] 70)) _).setCell 0 (.bool false)).setCell 1 (.slice (some ⟨g, 0, none⟩) n c1)).setCell 2 (.slice (some ⟨h, 0, none⟩) m c2)
    have zM := M5.size
    have zq : w2.heap.size ≤ (w2.alloc (.cells #[.bool false, .slice (some ⟨g, 0, none⟩) n c1, .slice (some ⟨h, 0, none⟩) m c2] 70)).heap.size := t4.size
    exact ⟨g, h, c1, c2, rfl, m1, m2, (L1.keep t4).marked M5 (fun _ => by omega), (L2.keep t4).marked M5 (fun _ => by omega), by omega, by omega, by omega, S4.trans (M5.since (by omega))⟩

set_option maxHeartbeats 3200000 in
set_option maxRecDepth 100000 in
theorem l1Add_zeroOpt (f f' : Bool) (a b a' b' : Option Addr) (ba oa n ca bb ob m cb ba' oa' n' ca' bb' ob' m' cb' : Nat) (X Y X' Y' : Nat → Nat) (w : World) (hn : n + n' + m + m' ≤ 16777216)
    (R : RIn w a b ba oa n ca bb ob m cb X Y) (R' : RIn w a' b' ba' oa' n' ca' bb' ob' m' cb' X' Y') (ok : ratOkB f X n Y m = true) (ok' : ratOkB f' X' n' Y' m' = true) (h0 : n = 0 ∨ n' = 0) :
    Calls Tryz.prog 110 #[.agg #[.bool f, .slice a n ca, .slice b m cb], .agg #[.bool f', .slice a' n' ca', .slice b' m' cb']] w fun e w' => ∃ v, e = .returned v ∧
      RatV w' v (sumNeg f f' (lv X n * lv Y' m') (lv X' n' * lv Y m) && sumTop f f' (lv X n * lv Y' m') (lv X' n' * lv Y m) != 0) (sumTop f f' (lv X n * lv Y' m') (lv X' n' * lv Y m) / Nat.gcd (sumTop f f' (lv X n * lv Y' m') (lv X' n' * lv Y m)) (lv Y m * lv Y' m')) ((lv Y m * lv Y' m') / Nat.gcd (sumTop f f' (lv X n * lv Y' m') (lv X' n' * lv Y m)) (lv Y m * lv Y' m')) w.heap.size 67108864 ∧ w.Since w.heap.size w' := by
  have hne2 : w.heap.size + 1 + 1 ≠ w.heap.size := by omega
  have sA : w.Since w.heap.size (((w.alloc (.cells #[.bool f, .slice a n ca, .slice b m cb] 70)).alloc (.cells #[.bool f', .slice a' n' ca', .slice b' m' cb'] 70)).alloc (.cells #[.bool false, .slice none 0 0, .slice none 0 0] 70)) := (((World.Since.refl _ _).alloc (Nat.le_refl _) _).alloc (by simp) _).alloc (by simp; omega) _
  have zA : (((w.alloc (.cells #[.bool f, .slice a n ca, .slice b m cb] 70)).alloc (.cells #[.bool f', .slice a' n' ca', .slice b' m' cb'] 70)).alloc (.cells #[.bool false, .slice none 0 0, .slice none 0 0] 70)).heap.size = w.heap.size + 1 + 1 + 1 := by simp
  have oA : Box3 (((w.alloc (.cells #[.bool f, .slice a n ca, .slice b m cb] 70)).alloc (.cells #[.bool f', .slice a' n' ca', .slice b' m' cb'] 70)).alloc (.cells #[.bool false, .slice none 0 0, .slice none 0 0] 70)) w.heap.size (.bool f) (.slice a n ca) (.slice b m cb) := ((Box3.new w _ _ _ _).keep ((World.Since.refl _ _).alloc (Nat.le_refl _) _)).keep ((World.Since.refl _ _).alloc (Nat.le_refl _) _)
  have pA : Box3 (((w.alloc (.cells #[.bool f, .slice a n ca, .slice b m cb] 70)).alloc (.cells #[.bool f', .slice a' n' ca', .slice b' m' cb'] 70)).alloc (.cells #[.bool false, .slice none 0 0, .slice none 0 0] 70)) (w.heap.size + 1) (.bool f') (.slice a' n' ca') (.slice b' m' cb') := by
    have := (Box3.new (w.alloc (.cells #[.bool f, .slice a n ca, .slice b m cb] 70)) (.bool f') (.slice a' n' ca') (.slice b' m' cb') 70).keep ((World.Since.refl _ _).alloc (Nat.le_refl _) (.cells #[.bool false, .slice none 0 0, .slice none 0 0] 70))
    simpa using this
  have rA : Box3 (((w.alloc (.cells #[.bool f, .slice a n ca, .slice b m cb] 70)).alloc (.cells #[.bool f', .slice a' n' ca', .slice b' m' cb'] 70)).alloc (.cells #[.bool false, .slice none 0 0, .slice none 0 0] 70)) (w.heap.size + 1 + 1) (.bool false) (.slice none 0 0) (.slice none 0 0) := by
    have := Box3.new ((w.alloc (.cells #[.bool f, .slice a n ca, .slice b m cb] 70)).alloc (.cells #[.bool f', .slice a' n' ca', .slice b' m' cb'] 70)) (.bool false) (.slice none 0 0) (.slice none 0 0) 70
    simpa using this
  by_cases h1 : n = 0
  · have hZ := sum_zeroA ok ok' h1
    rw [hZ.1, hZ.2.1, hZ.2.2]
    clear hZ ok ok' h0
    subst h1
    have k0 := pA.c0
    have k1 := pA.c1
    have k2 := pA.c2
    go_enter Tryz.func110, Tryz.ntmps110
    go_wp2_with fail
    generalize (((w.alloc (.cells #[.bool f, .slice a 0 ca, .slice b m cb] 70)).alloc (.cells #[.bool f', .slice a' n' ca', .slice b' m' cb'] 70)).alloc (.cells #[.bool false, .slice none 0 0, .slice none 0 0] 70)) = w1 at *
    refine (l1Copy_opt f' a' b' ba' oa' n' ca' bb' ob' m' cb' X' Y' w1 (by omega) (by omega) R'.nc R'.mc R'.ac R'.bc (R'.keep sA).LX (R'.keep sA).LY).mono ?_
    rintro e w6 ⟨g6, h6, c1, c2, rfl, v1, v2, N6, D6, FN, FD, y1, y2, y3, s6⟩
    have rB := rA.keep s6
    have S6 : w.Since w.heap.size w6 := sA.trans (sinceMono s6 sA.size)
    have u0 := rB.c0
    have u1 := rB.c1
    have u2 := rB.c2
    have uf0 := rB.f 0
    have uf1 := rB.f 1
    have uf2 := rB.f 2
    go_wp2
    have rC := ((rB.set0 (.bool f')).set1 (.slice (some ⟨g6, 0, none⟩) n' c1)).set2 (.slice (some ⟨h6, 0, none⟩) m' c2)
    refine bodyPost_ret (results_box3 rfl _ _ _ _ _ _ rfl rC) rfl ?_
    have M : Marked w6 _ (w.heap.size + 1 + 1) := (((Marked.refl w6 _).setCell 0 (.bool f')).setCell 1 (.slice (some ⟨g6, 0, none⟩) n' c1)).setCell 2 (.slice (some ⟨h6, 0, none⟩) m' c2)
    have N7 : NatAt w6 (.slice (some ⟨g6, 0, none⟩) n' c1) g6 (lv X' n') 67108864 := ⟨_, _, _, X', rfl, v1, by omega, fun h => (by cases h), N6, FN, R'.lX, R'.pX, rfl⟩
    have D7 : NatAt w6 (.slice (some ⟨h6, 0, none⟩) m' c2) h6 (lv Y' m') 67108864 := ⟨_, _, _, Y', rfl, v2, by omega, fun h => (by cases h), D6, FD, R'.lY, R'.pY, rfl⟩
    exact ⟨_, rfl, ⟨_, _, g6, h6, rfl, N7.marked M (by omega), D7.marked M (by omega), by omega, by omega, by omega⟩, S6.trans (M.since (by omega))⟩
  · have h2 : n' = 0 := by omega
    have hZ := sum_zeroB ok ok' h2
    rw [hZ.1, hZ.2.1, hZ.2.2]
    clear hZ ok ok' h0
    subst h2
    have q1 : ((n : Int) == 0) = false := by simp; omega
    have k0 := oA.c0
    have k1 := oA.c1
    have k2 := oA.c2
    go_enter Tryz.func110, Tryz.ntmps110
    go_wp2_with fail
    generalize (((w.alloc (.cells #[.bool f, .slice a n ca, .slice b m cb] 70)).alloc (.cells #[.bool f', .slice a' 0 ca', .slice b' m' cb'] 70)).alloc (.cells #[.bool false, .slice none 0 0, .slice none 0 0] 70)) = w1 at *
    refine (l1Copy_opt f a b ba oa n ca bb ob m cb X Y w1 (by omega) (by omega) R.nc R.mc R.ac R.bc (R.keep sA).LX (R.keep sA).LY).mono ?_
    rintro e w6 ⟨g6, h6, c1, c2, rfl, v1, v2, N6, D6, FN, FD, y1, y2, y3, s6⟩
    have rB := rA.keep s6
    have S6 : w.Since w.heap.size w6 := sA.trans (sinceMono s6 sA.size)
    have u0 := rB.c0
    have u1 := rB.c1
    have u2 := rB.c2
    have uf0 := rB.f 0
    have uf1 := rB.f 1
    have uf2 := rB.f 2
    go_wp2
    have rC := ((rB.set0 (.bool f)).set1 (.slice (some ⟨g6, 0, none⟩) n c1)).set2 (.slice (some ⟨h6, 0, none⟩) m c2)
    refine bodyPost_ret (results_box3 rfl _ _ _ _ _ _ rfl rC) rfl ?_
    have M : Marked w6 _ (w.heap.size + 1 + 1) := (((Marked.refl w6 _).setCell 0 (.bool f)).setCell 1 (.slice (some ⟨g6, 0, none⟩) n c1)).setCell 2 (.slice (some ⟨h6, 0, none⟩) m c2)
    have N7 : NatAt w6 (.slice (some ⟨g6, 0, none⟩) n c1) g6 (lv X n) 67108864 := ⟨_, _, _, X, rfl, v1, by omega, fun h => (by cases h), N6, FN, R.lX, R.pX, rfl⟩
    have D7 : NatAt w6 (.slice (some ⟨h6, 0, none⟩) m c2) h6 (lv Y m) 67108864 := ⟨_, _, _, Y, rfl, v2, by omega, fun h => (by cases h), D6, FD, R.lY, R.pY, rfl⟩
    exact ⟨_, rfl, ⟨_, _, g6, h6, rfl, N7.marked M (by omega), D7.marked M (by omega), by omega, by omega, by omega⟩, S6.trans (M.since (by omega))⟩

theorem l1Add_opt (f f' : Bool) (a b a' b' : Option Addr) (ba oa n ca bb ob m cb ba' oa' n' ca' bb' ob' m' cb' : Nat) (X Y X' Y' : Nat → Nat) (w : World) (hn : n + n' + m + m' ≤ 16777216)
    (R : RIn w a b ba oa n ca bb ob m cb X Y) (R' : RIn w a' b' ba' oa' n' ca' bb' ob' m' cb' X' Y') (ok : ratOkB f X n Y m = true) (ok' : ratOkB f' X' n' Y' m' = true) :
    Calls Tryz.prog 110 #[.agg #[.bool f, .slice a n ca, .slice b m cb], .agg #[.bool f', .slice a' n' ca', .slice b' m' cb']] w fun e w' => ∃ v, e = .returned v ∧
      RatV w' v (sumNeg f f' (lv X n * lv Y' m') (lv X' n' * lv Y m) && sumTop f f' (lv X n * lv Y' m') (lv X' n' * lv Y m) != 0) (sumTop f f' (lv X n * lv Y' m') (lv X' n' * lv Y m) / Nat.gcd (sumTop f f' (lv X n * lv Y' m') (lv X' n' * lv Y m)) (lv Y m * lv Y' m')) ((lv Y m * lv Y' m') / Nat.gcd (sumTop f f' (lv X n * lv Y' m') (lv X' n' * lv Y m)) (lv Y m * lv Y' m')) w.heap.size 67108864 ∧ w.Since w.heap.size w' := by
  by_cases h0 : n = 0 ∨ n' = 0
  · exact l1Add_zeroOpt f f' a b a' b' ba oa n ca bb ob m cb ba' oa' n' ca' bb' ob' m' cb' X Y X' Y' w hn R R' ok ok' h0
  · obtain rfl : a = some ⟨ba, oa, none⟩ := by have := (R.LX 0 (by omega)).1; simpa using this
    obtain rfl : b = some ⟨bb, ob, none⟩ := by have := (R.LY 0 R.m0).1; simpa using this
    obtain rfl : a' = some ⟨ba', oa', none⟩ := by have := (R'.LX 0 (by omega)).1; simpa using this
    obtain rfl : b' = some ⟨bb', ob', none⟩ := by have := (R'.LY 0 R'.m0).1; simpa using this
    exact l1Add_any f f' _ _ _ _ ba oa n ca bb ob m cb ba' oa' n' ca' bb' ob' m' cb' X Y X' Y' w hn R R' ok ok'

end Go.Proofs.YthaomfabdghfjaaGreat

namespace Go.Proofs.YthaomfabdghfjaaGreat
open Go.RowKit

theorem sign_cmp (f f' : Bool) (x y n' q : Nat) (hf : f = true → 0 < x) (hf' : f' = true → 0 < y) (hy : 0 < n' ↔ 0 < y) (hq : q = 0 ↔ sumTop f (!f' && decide (0 < n')) x y = 0) :
    (if (q : Int) = 0 then (0 : Int) else if (sumNeg f (!f' && decide (0 < n')) x y && sumTop f (!f' && decide (0 < n')) x y != 0) = true then -1 else 1) = cmpR f f' x y := by
  have hd : decide (0 < n') = decide (0 < y) := by simp [hy]
  rw [hd] at hq ⊢
  clear hd hy
  have hq' : ((q : Int) = 0) ↔ sumTop f (!f' && decide (0 < y)) x y = 0 := by omega
  simp only [hq']
  clear hq hq'
  rcases Nat.lt_trichotomy x y with h1 | h1 | h1
  · cases f <;> cases f' <;> rcases Nat.eq_zero_or_pos y with h0 | h0 <;> simp_all [sumNeg, sumTop, cmpR, cmpN] <;> (try omega)
  · cases f <;> cases f' <;> rcases Nat.eq_zero_or_pos y with h0 | h0 <;> simp_all [sumNeg, sumTop, cmpR, cmpN] <;> (try omega)
  · have h2 : ¬ x < y := by omega
    have h3 : ¬ x - y = 0 := by omega
    have h6 : 0 < x := by omega
    have h7 : ¬ x = 0 := by omega
    clear hf
    cases f <;> cases f' <;> rcases Nat.eq_zero_or_pos y with h0 | h0 <;> simp [sumNeg, sumTop, cmpR, cmpN, h0, h1, h2, h3, h6, h7] <;> (try (have := hf' rfl; omega)) <;> (try omega)

set_option maxHeartbeats 800000 in
set_option maxRecDepth 100000 in
theorem l1Sign_any (f : Bool) (a b : Option Addr) (n ca m cb : Nat) (w : World) :
    Calls Tryz.prog 80 #[.agg #[.bool f, .slice a n ca, .slice b m cb]] w fun e w' => e = .returned (.int .i64 (if (n : Int) = 0 then (0 : Int) else if f = true then -1 else 1)) ∧ w.Since w.heap.size w' := by
  have sA : w.Since w.heap.size (w.alloc (.cells #[.bool f, .slice a n ca, .slice b m cb] 70)) := (World.Since.refl _ _).alloc (Nat.le_refl _) _
  by_cases h0 : n = 0
  · subst h0
    go_enter Tryz.func80, Tryz.ntmps80
    go_wp2
    go_ret
    exact ⟨rfl, sA⟩
  · have q1 : ((n : Int) == 0) = false := by simp; omega
    have q2 : ¬ ((n : Int) = 0) := by omega
    rw [if_neg q2]
    cases f
    · go_enter Tryz.func80, Tryz.ntmps80
      go_wp2
      go_ret
      exact ⟨rfl, sA⟩
    · go_enter Tryz.func80, Tryz.ntmps80
      go_wp2
      go_ret
      exact ⟨rfl, sA⟩

theorem ratOk_neg {f' : Bool} {X' Y' : Nat → Nat} {n' m' : Nat} (ok' : ratOkB f' X' n' Y' m' = true) : ratOkB (!f' && decide (0 < n')) X' n' Y' m' = true := by
  unfold ratOkB at *
  cases f' <;> rcases Nat.eq_zero_or_pos n' with h | h <;> simp_all <;> (try omega)

set_option maxHeartbeats 3200000 in
set_option maxRecDepth 100000 in
theorem l1Sub_any (f f' : Bool) (a b a' b' : Addr) (ba oa n ca bb ob m cb ba' oa' n' ca' bb' ob' m' cb' : Nat) (X Y X' Y' : Nat → Nat) (w : World) (hn : n + n' + m + m' ≤ 16777216)
    (R : RIn w (some a) (some b) ba oa n ca bb ob m cb X Y) (R' : RIn w (some a') (some b') ba' oa' n' ca' bb' ob' m' cb' X' Y') (ok : ratOkB f X n Y m = true) (ok' : ratOkB f' X' n' Y' m' = true) :
    Calls Tryz.prog 81 #[.agg #[.bool f, .slice (some a) n ca, .slice (some b) m cb], .agg #[.bool f', .slice (some a') n' ca', .slice (some b') m' cb']] w fun e w' => ∃ v, e = .returned v ∧
      RatV w' v (sumNeg f (!f' && decide (0 < n')) (lv X n * lv Y' m') (lv X' n' * lv Y m) && sumTop f (!f' && decide (0 < n')) (lv X n * lv Y' m') (lv X' n' * lv Y m) != 0) (sumTop f (!f' && decide (0 < n')) (lv X n * lv Y' m') (lv X' n' * lv Y m) / Nat.gcd (sumTop f (!f' && decide (0 < n')) (lv X n * lv Y' m') (lv X' n' * lv Y m)) (lv Y m * lv Y' m')) ((lv Y m * lv Y' m') / Nat.gcd (sumTop f (!f' && decide (0 < n')) (lv X n * lv Y' m') (lv X' n' * lv Y m)) (lv Y m * lv Y' m')) w.heap.size 67108864 ∧ w.Since w.heap.size w' := by
  have hne2 : w.heap.size + 1 + 1 ≠ w.heap.size := by omega
  have sA : w.Since w.heap.size (((w.alloc (.cells #[.bool f, .slice (some a) n ca, .slice (some b) m cb] 70)).alloc (.cells #[.bool f', .slice (some a') n' ca', .slice (some b') m' cb'] 70)).alloc (.cells #[.bool false, .slice none 0 0, .slice none 0 0] 70)) := (((World.Since.refl _ _).alloc (Nat.le_refl _) _).alloc (by simp) _).alloc (by simp; omega) _
  have zA : (((w.alloc (.cells #[.bool f, .slice (some a) n ca, .slice (some b) m cb] 70)).alloc (.cells #[.bool f', .slice (some a') n' ca', .slice (some b') m' cb'] 70)).alloc (.cells #[.bool false, .slice none 0 0, .slice none 0 0] 70)).heap.size = w.heap.size + 1 + 1 + 1 := by simp
  have oA : Box3 (((w.alloc (.cells #[.bool f, .slice (some a) n ca, .slice (some b) m cb] 70)).alloc (.cells #[.bool f', .slice (some a') n' ca', .slice (some b') m' cb'] 70)).alloc (.cells #[.bool false, .slice none 0 0, .slice none 0 0] 70)) w.heap.size (.bool f) (.slice (some a) n ca) (.slice (some b) m cb) := ((Box3.new w _ _ _ _).keep ((World.Since.refl _ _).alloc (Nat.le_refl _) _)).keep ((World.Since.refl _ _).alloc (Nat.le_refl _) _)
  have pA : Box3 (((w.alloc (.cells #[.bool f, .slice (some a) n ca, .slice (some b) m cb] 70)).alloc (.cells #[.bool f', .slice (some a') n' ca', .slice (some b') m' cb'] 70)).alloc (.cells #[.bool false, .slice none 0 0, .slice none 0 0] 70)) (w.heap.size + 1) (.bool f') (.slice (some a') n' ca') (.slice (some b') m' cb') := by
    have := (Box3.new (w.alloc (.cells #[.bool f, .slice (some a) n ca, .slice (some b) m cb] 70)) (.bool f') (.slice (some a') n' ca') (.slice (some b') m' cb') 70).keep ((World.Since.refl _ _).alloc (Nat.le_refl _) (.cells #[.bool false, .slice none 0 0, .slice none 0 0] 70))
    simpa using this
  have rA : Box3 (((w.alloc (.cells #[.bool f, .slice (some a) n ca, .slice (some b) m cb] 70)).alloc (.cells #[.bool f', .slice (some a') n' ca', .slice (some b') m' cb'] 70)).alloc (.cells #[.bool false, .slice none 0 0, .slice none 0 0] 70)) (w.heap.size + 1 + 1) (.bool false) (.slice none 0 0) (.slice none 0 0) := by
    have := Box3.new ((w.alloc (.cells #[.bool f, .slice (some a) n ca, .slice (some b) m cb] 70)).alloc (.cells #[.bool f', .slice (some a') n' ca', .slice (some b') m' cb'] 70)) (.bool false) (.slice none 0 0) (.slice none 0 0) 70
    simpa using this
  have m1 := R.m0
  have m1' := R'.m0
  obtain ⟨NN, hNN⟩ : ∃ z, z = (sumNeg f (!f' && decide (0 < n')) (lv X n * lv Y' m') (lv X' n' * lv Y m) && sumTop f (!f' && decide (0 < n')) (lv X n * lv Y' m') (lv X' n' * lv Y m) != 0) := ⟨_, rfl⟩
  have HNN := hide hNN
  clear hNN
  have J1 := l1Neg_any f' a' b' ba' oa' n' ca' bb' ob' m' cb' X' Y' (((w.alloc (.cells #[.bool f, .slice (some a) n ca, .slice (some b) m cb] 70)).alloc (.cells #[.bool f', .slice (some a') n' ca', .slice (some b') m' cb'] 70)).alloc (.cells #[.bool false, .slice none 0 0, .slice none 0 0] 70)).drew (by omega) (by omega) R'.nc R'.mc (R'.keep (since_drew sA)).LX (R'.keep (since_drew sA)).LY
  go_enter Tryz.func81, Tryz.ntmps81
  have k := And.intro oA.cells pA.cells
  go_wp2_with fail
  generalize (((w.alloc (.cells #[.bool f, .slice (some a) n ca, .slice (some b) m cb] 70)).alloc (.cells #[.bool f', .slice (some a') n' ca', .slice (some b') m' cb'] 70)).alloc (.cells #[.bool false, .slice none 0 0, .slice none 0 0] 70)) = w1 at *
  go_region_held3 (fun w' => w'.cell? ⟨w.heap.size, 0, none⟩ = some (.bool f) ∧ w'.cell? ⟨w.heap.size, 1, none⟩ = some (.slice (some a) n ca) ∧ w'.cell? ⟨w.heap.size, 2, none⟩ = some (.slice (some b) m cb) ∧ w'.cell? ⟨w.heap.size + 1, 0, none⟩ = some (.bool f') ∧ w'.cell? ⟨w.heap.size + 1, 1, none⟩ = some (.slice (some a') n' ca') ∧ w'.cell? ⟨w.heap.size + 1, 2, none⟩ = some (.slice (some b') m' cb')) (go_keep)
    (first
      | (go_at_call 120
         with_reducible refine J1.mono ?_
         rintro e w2 ⟨g, h, c1, c2, rfl, v1, v2, L1, L2, b1, b2, b3, s2⟩
         have S2 : w.Since w.heap.size w2 := (since_drew sA).trans (sinceMono s2 sA.size)
         have o2 := oA.drew.keep s2
         have p2 := pA.drew.keep s2
         have r2 := rA.drew.keep s2
         have kk := And.intro o2.cells p2.cells
         have R2 : RIn w2 (some ⟨g, 0, none⟩) (some ⟨h, 0, none⟩) g 0 n' c1 h 0 m' c2 X' Y' := ⟨v1, v2, fun h => (by cases h), fun h => (by cases h), L1, L2, R'.lX, R'.lY, R'.pX, R'.pY, R'.m0⟩
         have J2 := l1Add_any f (!f' && decide (0 < n')) a b ⟨g, 0, none⟩ ⟨h, 0, none⟩ ba oa n ca bb ob m cb g 0 n' c1 h 0 m' c2 X Y X' Y' w2 hn (R.keep S2) R2 ok (ratOk_neg ok')
         rw [← HNN.out] at J2)
      | (go_at_call 110
         with_reducible refine J2.mono ?_
         rintro e w6 ⟨v, rfl, ⟨x1, x2, g6, h6, rfl, N6, D6, y1, y2, y3⟩, s6⟩
         have N6' := N6
         have D6' := D6
         obtain ⟨a1, q1, d1, Y1, rfl, -⟩ := N6
         obtain ⟨a2, q2, d2, Y2, rfl, -⟩ := D6
         have kk := And.intro (o2.keep s6).cells (p2.keep s6).cells
         have rB := r2.keep s6
         have u0 := rB.c0
         have u1 := rB.c1
         have u2 := rB.c2
         have uf0 := rB.f 0
         have uf1 := rB.f 1
         have uf2 := rB.f 2))
  all_goals go_wp2
  all_goals
    have S6 : w.Since w.heap.size w6 := S2.trans (sinceMono s6 S2.size)
    have zr := r2.lt
    have rC := ((rB.set0 (.bool NN)).set1 (.slice a1 q1 d1)).set2 (.slice a2 q2 d2)
    refine bodyPost_ret (results_box3 rfl _ _ _ _ _ _ rfl rC) rfl ?_
    have M : Marked w6 _ (w.heap.size + 1 + 1) := (((Marked.refl w6 _).setCell 0 (.bool NN)).setCell 1 (.slice a1 q1 d1)).setCell 2 (.slice a2 q2 d2)
    exact ⟨_, rfl, ⟨_, _, g6, h6, by rw [HNN.out], N6'.marked M (by omega), D6'.marked M (by omega), by omega, by omega, y3⟩, S6.trans (M.since (by omega))⟩

end Go.Proofs.YthaomfabdghfjaaGreat

namespace Go.Proofs.YthaomfabdghfjaaGreat
open Go.RowKit

theorem rat_pos {f : Bool} {X Y : Nat → Nat} {n m : Nat} (ok : ratOkB f X n Y m = true) (e : f = true) (pX : 0 < n → X (n - 1) ≠ 0) : 0 < lv X n := by
  subst e
  unfold ratOkB at ok
  rcases Nat.eq_zero_or_pos (lv X n) with h | h
  · have := (lv_zero pX).2 h
    subst this
    simp at ok
  · exact h

set_option maxHeartbeats 3200000 in
set_option maxRecDepth 100000 in
theorem l1Cmp_any (f f' : Bool) (a b a' b' : Addr) (ba oa n ca bb ob m cb ba' oa' n' ca' bb' ob' m' cb' : Nat) (X Y X' Y' : Nat → Nat) (w : World) (hn : n + n' + m + m' ≤ 16777216)
    (R : RIn w (some a) (some b) ba oa n ca bb ob m cb X Y) (R' : RIn w (some a') (some b') ba' oa' n' ca' bb' ob' m' cb' X' Y') (ok : ratOkB f X n Y m = true) (ok' : ratOkB f' X' n' Y' m' = true) :
    Calls Tryz.prog 47 #[.agg #[.bool f, .slice (some a) n ca, .slice (some b) m cb], .agg #[.bool f', .slice (some a') n' ca', .slice (some b') m' cb']] w fun e w' => e = .returned (.int .i64 (cmpR f f' (lv X n * lv Y' m') (lv X' n' * lv Y m))) ∧ w.Since w.heap.size w' := by
  have sA : w.Since w.heap.size ((w.alloc (.cells #[.bool f, .slice (some a) n ca, .slice (some b) m cb] 70)).alloc (.cells #[.bool f', .slice (some a') n' ca', .slice (some b') m' cb'] 70)) := ((World.Since.refl _ _).alloc (Nat.le_refl _) _).alloc (by simp) _
  have zA : ((w.alloc (.cells #[.bool f, .slice (some a) n ca, .slice (some b) m cb] 70)).alloc (.cells #[.bool f', .slice (some a') n' ca', .slice (some b') m' cb'] 70)).heap.size = w.heap.size + 1 + 1 := by simp
  have oA : Box3 ((w.alloc (.cells #[.bool f, .slice (some a) n ca, .slice (some b) m cb] 70)).alloc (.cells #[.bool f', .slice (some a') n' ca', .slice (some b') m' cb'] 70)) w.heap.size (.bool f) (.slice (some a) n ca) (.slice (some b) m cb) := (Box3.new w _ _ _ _).keep ((World.Since.refl _ _).alloc (Nat.le_refl _) _)
  have pA : Box3 ((w.alloc (.cells #[.bool f, .slice (some a) n ca, .slice (some b) m cb] 70)).alloc (.cells #[.bool f', .slice (some a') n' ca', .slice (some b') m' cb'] 70)) (w.heap.size + 1) (.bool f') (.slice (some a') n' ca') (.slice (some b') m' cb') := by
    have := Box3.new (w.alloc (.cells #[.bool f, .slice (some a) n ca, .slice (some b) m cb] 70)) (.bool f') (.slice (some a') n' ca') (.slice (some b') m' cb') 70
    simpa using this
  have hX0 : f = true → 0 < lv X n * lv Y' m' := fun e => Nat.mul_pos (rat_pos ok e R.pX) R'.den
  have hX1 : f' = true → 0 < lv X' n' * lv Y m := fun e => Nat.mul_pos (rat_pos ok' e R'.pX) R.den
  have hX2 : 0 < n' ↔ 0 < lv X' n' * lv Y m := by
    have h1 := lv_zero R'.pX
    constructor
    · intro h; exact Nat.mul_pos (by omega) R.den
    · intro h
      rcases Nat.eq_zero_or_pos n' with e | e
      · rw [h1.1 e, Nat.zero_mul] at h; omega
      · exact e
  have hDD := Nat.mul_pos R.den R'.den
  obtain ⟨z, hz⟩ : ∃ z, z = cmpR f f' (lv X n * lv Y' m') (lv X' n' * lv Y m) := ⟨_, rfl⟩
  have HZ := hide hz
  clear hz
  have k := And.intro oA.cells pA.cells
  have J1 := l1Sub_any f f' a b a' b' ba oa n ca bb ob m cb ba' oa' n' ca' bb' ob' m' cb' X Y X' Y' ((w.alloc (.cells #[.bool f, .slice (some a) n ca, .slice (some b) m cb] 70)).alloc (.cells #[.bool f', .slice (some a') n' ca', .slice (some b') m' cb'] 70)) hn (R.keep sA) (R'.keep sA) ok ok'
  go_enter Tryz.func47, Tryz.ntmps47
  go_wp2_with fail
  generalize ((w.alloc (.cells #[.bool f, .slice (some a) n ca, .slice (some b) m cb] 70)).alloc (.cells #[.bool f', .slice (some a') n' ca', .slice (some b') m' cb'] 70)) = w1 at *
  refine J1.mono ?_
  rintro e w2 ⟨v, rfl, ⟨x1, x2, g6, h6, rfl, N6, D6, y1, y2, y3⟩, s2⟩
  have S2 : w.Since w.heap.size w2 := sA.trans (sinceMono s2 sA.size)
  obtain ⟨a1, q1, d1, Y1, rfl, -, -, -, -, -, -, tp, ev⟩ := N6
  obtain ⟨a2, q2, d2, Y2, rfl, -⟩ := D6
  have hq : q1 = 0 ↔ sumTop f (!f' && decide (0 < n')) (lv X n * lv Y' m') (lv X' n' * lv Y m) = 0 := (lv_zero tp).trans (by rw [ev]; exact div_gcd_zero hDD)
  have HC := hide (sign_cmp f f' _ _ n' q1 hX0 hX1 hX2 hq)
  have J2 := l1Sign_any (sumNeg f (!f' && decide (0 < n')) (lv X n * lv Y' m') (lv X' n' * lv Y m) && sumTop f (!f' && decide (0 < n')) (lv X n * lv Y' m') (lv X' n' * lv Y m) != 0) a1 a2 q1 d1 q2 d2 w2
  rw [HC.out, ← HZ.out] at J2
  clear J1 HC hq hX0 hX1 hX2 tp ev k
  go_wp2_with fail
  refine J2.mono ?_
  rintro e w3 ⟨rfl, s3⟩
  go_wp2
  go_ret
  exact ⟨ret_int HZ.out, S2.trans (sinceMono s3 S2.size)⟩

end Go.Proofs.YthaomfabdghfjaaGreat

namespace Go.Proofs.YthaomfabdghfjaaGreat
open Go.RowKit

set_option maxHeartbeats 3200000 in
set_option maxRecDepth 100000 in
theorem l1Sub_opt (f f' : Bool) (a b a' b' : Option Addr) (ba oa n ca bb ob m cb ba' oa' n' ca' bb' ob' m' cb' : Nat) (X Y X' Y' : Nat → Nat) (w : World) (hn : n + n' + m + m' ≤ 16777216)
    (R : RIn w a b ba oa n ca bb ob m cb X Y) (R' : RIn w a' b' ba' oa' n' ca' bb' ob' m' cb' X' Y') (ok : ratOkB f X n Y m = true) (ok' : ratOkB f' X' n' Y' m' = true) :
    Calls Tryz.prog 81 #[.agg #[.bool f, .slice a n ca, .slice b m cb], .agg #[.bool f', .slice a' n' ca', .slice b' m' cb']] w fun e w' => ∃ v, e = .returned v ∧
      RatV w' v (sumNeg f (!f' && decide (0 < n')) (lv X n * lv Y' m') (lv X' n' * lv Y m) && sumTop f (!f' && decide (0 < n')) (lv X n * lv Y' m') (lv X' n' * lv Y m) != 0) (sumTop f (!f' && decide (0 < n')) (lv X n * lv Y' m') (lv X' n' * lv Y m) / Nat.gcd (sumTop f (!f' && decide (0 < n')) (lv X n * lv Y' m') (lv X' n' * lv Y m)) (lv Y m * lv Y' m')) ((lv Y m * lv Y' m') / Nat.gcd (sumTop f (!f' && decide (0 < n')) (lv X n * lv Y' m') (lv X' n' * lv Y m)) (lv Y m * lv Y' m')) w.heap.size 67108864 ∧ w.Since w.heap.size w' := by
  have hne2 : w.heap.size + 1 + 1 ≠ w.heap.size := by omega
  have sA : w.Since w.heap.size (((w.alloc (.cells #[.bool f, .slice a n ca, .slice b m cb] 70)).alloc (.cells #[.bool f', .slice a' n' ca', .slice b' m' cb'] 70)).alloc (.cells #[.bool false, .slice none 0 0, .slice none 0 0] 70)) := (((World.Since.refl _ _).alloc (Nat.le_refl _) _).alloc (by simp) _).alloc (by simp; omega) _
  have zA : (((w.alloc (.cells #[.bool f, .slice a n ca, .slice b m cb] 70)).alloc (.cells #[.bool f', .slice a' n' ca', .slice b' m' cb'] 70)).alloc (.cells #[.bool false, .slice none 0 0, .slice none 0 0] 70)).heap.size = w.heap.size + 1 + 1 + 1 := by simp
  have oA : Box3 (((w.alloc (.cells #[.bool f, .slice a n ca, .slice b m cb] 70)).alloc (.cells #[.bool f', .slice a' n' ca', .slice b' m' cb'] 70)).alloc (.cells #[.bool false, .slice none 0 0, .slice none 0 0] 70)) w.heap.size (.bool f) (.slice a n ca) (.slice b m cb) := ((Box3.new w _ _ _ _).keep ((World.Since.refl _ _).alloc (Nat.le_refl _) _)).keep ((World.Since.refl _ _).alloc (Nat.le_refl _) _)
  have pA : Box3 (((w.alloc (.cells #[.bool f, .slice a n ca, .slice b m cb] 70)).alloc (.cells #[.bool f', .slice a' n' ca', .slice b' m' cb'] 70)).alloc (.cells #[.bool false, .slice none 0 0, .slice none 0 0] 70)) (w.heap.size + 1) (.bool f') (.slice a' n' ca') (.slice b' m' cb') := by
    have := (Box3.new (w.alloc (.cells #[.bool f, .slice a n ca, .slice b m cb] 70)) (.bool f') (.slice a' n' ca') (.slice b' m' cb') 70).keep ((World.Since.refl _ _).alloc (Nat.le_refl _) (.cells #[.bool false, .slice none 0 0, .slice none 0 0] 70))
    simpa using this
  have rA : Box3 (((w.alloc (.cells #[.bool f, .slice a n ca, .slice b m cb] 70)).alloc (.cells #[.bool f', .slice a' n' ca', .slice b' m' cb'] 70)).alloc (.cells #[.bool false, .slice none 0 0, .slice none 0 0] 70)) (w.heap.size + 1 + 1) (.bool false) (.slice none 0 0) (.slice none 0 0) := by
    have := Box3.new ((w.alloc (.cells #[.bool f, .slice a n ca, .slice b m cb] 70)).alloc (.cells #[.bool f', .slice a' n' ca', .slice b' m' cb'] 70)) (.bool false) (.slice none 0 0) (.slice none 0 0) 70
    simpa using this
  have m1 := R.m0
  have m1' := R'.m0
  obtain ⟨NN, hNN⟩ : ∃ z, z = (sumNeg f (!f' && decide (0 < n')) (lv X n * lv Y' m') (lv X' n' * lv Y m) && sumTop f (!f' && decide (0 < n')) (lv X n * lv Y' m') (lv X' n' * lv Y m) != 0) := ⟨_, rfl⟩
  have HNN := hide hNN
  clear hNN
  have J1 := l1Neg_opt f' a' b' ba' oa' n' ca' bb' ob' m' cb' X' Y' (((w.alloc (.cells #[.bool f, .slice a n ca, .slice b m cb] 70)).alloc (.cells #[.bool f', .slice a' n' ca', .slice b' m' cb'] 70)).alloc (.cells #[.bool false, .slice none 0 0, .slice none 0 0] 70)).drew (by omega) (by omega) R'.nc R'.mc R'.ac R'.bc (R'.keep (since_drew sA)).LX (R'.keep (since_drew sA)).LY
  go_enter Tryz.func81, Tryz.ntmps81
  have k := And.intro oA.cells pA.cells
  go_wp2_with fail
  generalize (((w.alloc (.cells #[.bool f, .slice a n ca, .slice b m cb] 70)).alloc (.cells #[.bool f', .slice a' n' ca', .slice b' m' cb'] 70)).alloc (.cells #[.bool false, .slice none 0 0, .slice none 0 0] 70)) = w1 at *
  go_region_held3 (fun w' => w'.cell? ⟨w.heap.size, 0, none⟩ = some (.bool f) ∧ w'.cell? ⟨w.heap.size, 1, none⟩ = some (.slice a n ca) ∧ w'.cell? ⟨w.heap.size, 2, none⟩ = some (.slice b m cb) ∧ w'.cell? ⟨w.heap.size + 1, 0, none⟩ = some (.bool f') ∧ w'.cell? ⟨w.heap.size + 1, 1, none⟩ = some (.slice a' n' ca') ∧ w'.cell? ⟨w.heap.size + 1, 2, none⟩ = some (.slice b' m' cb')) (go_keep)
    (first
      | (go_at_call 120
         with_reducible refine J1.mono ?_
         rintro e w2 ⟨g, h, c1, c2, rfl, v1, v2, L1, L2, b1, b2, b3, s2⟩
         have S2 : w.Since w.heap.size w2 := (since_drew sA).trans (sinceMono s2 sA.size)
         have o2 := oA.drew.keep s2
         have p2 := pA.drew.keep s2
         have r2 := rA.drew.keep s2
         have kk := And.intro o2.cells p2.cells
         have R2 : RIn w2 (some ⟨g, 0, none⟩) (some ⟨h, 0, none⟩) g 0 n' c1 h 0 m' c2 X' Y' := ⟨v1, v2, fun h => (by cases h), fun h => (by cases h), L1, L2, R'.lX, R'.lY, R'.pX, R'.pY, R'.m0⟩
         have J2 := l1Add_opt f (!f' && decide (0 < n')) a b (some ⟨g, 0, none⟩) (some ⟨h, 0, none⟩) ba oa n ca bb ob m cb g 0 n' c1 h 0 m' c2 X Y X' Y' w2 hn (R.keep S2) R2 ok (ratOk_neg ok')
         rw [← HNN.out] at J2)
      | (go_at_call 110
         with_reducible refine J2.mono ?_
         rintro e w6 ⟨v, rfl, ⟨x1, x2, g6, h6, rfl, N6, D6, y1, y2, y3⟩, s6⟩
         have N6' := N6
         have D6' := D6
         obtain ⟨a1, q1, d1, Y1, rfl, -⟩ := N6
         obtain ⟨a2, q2, d2, Y2, rfl, -⟩ := D6
         have kk := And.intro (o2.keep s6).cells (p2.keep s6).cells
         have rB := r2.keep s6
         have u0 := rB.c0
         have u1 := rB.c1
         have u2 := rB.c2
         have uf0 := rB.f 0
         have uf1 := rB.f 1
         have uf2 := rB.f 2))
  all_goals go_wp2
  all_goals
    have S6 : w.Since w.heap.size w6 := S2.trans (sinceMono s6 S2.size)
    have zr := r2.lt
    have rC := ((rB.set0 (.bool NN)).set1 (.slice a1 q1 d1)).set2 (.slice a2 q2 d2)
    refine bodyPost_ret (results_box3 rfl _ _ _ _ _ _ rfl rC) rfl ?_
    have M : Marked w6 _ (w.heap.size + 1 + 1) := (((Marked.refl w6 _).setCell 0 (.bool NN)).setCell 1 (.slice a1 q1 d1)).setCell 2 (.slice a2 q2 d2)
    exact ⟨_, rfl, ⟨_, _, g6, h6, by rw [HNN.out], N6'.marked M (by omega), D6'.marked M (by omega), by omega, by omega, y3⟩, S6.trans (M.since (by omega))⟩

set_option maxHeartbeats 3200000 in
set_option maxRecDepth 100000 in
theorem l1Cmp_opt (f f' : Bool) (a b a' b' : Option Addr) (ba oa n ca bb ob m cb ba' oa' n' ca' bb' ob' m' cb' : Nat) (X Y X' Y' : Nat → Nat) (w : World) (hn : n + n' + m + m' ≤ 16777216)
    (R : RIn w a b ba oa n ca bb ob m cb X Y) (R' : RIn w a' b' ba' oa' n' ca' bb' ob' m' cb' X' Y') (ok : ratOkB f X n Y m = true) (ok' : ratOkB f' X' n' Y' m' = true) :
    Calls Tryz.prog 47 #[.agg #[.bool f, .slice a n ca, .slice b m cb], .agg #[.bool f', .slice a' n' ca', .slice b' m' cb']] w fun e w' => e = .returned (.int .i64 (cmpR f f' (lv X n * lv Y' m') (lv X' n' * lv Y m))) ∧ w.Since w.heap.size w' := by
  have sA : w.Since w.heap.size ((w.alloc (.cells #[.bool f, .slice a n ca, .slice b m cb] 70)).alloc (.cells #[.bool f', .slice a' n' ca', .slice b' m' cb'] 70)) := ((World.Since.refl _ _).alloc (Nat.le_refl _) _).alloc (by simp) _
  have zA : ((w.alloc (.cells #[.bool f, .slice a n ca, .slice b m cb] 70)).alloc (.cells #[.bool f', .slice a' n' ca', .slice b' m' cb'] 70)).heap.size = w.heap.size + 1 + 1 := by simp
  have oA : Box3 ((w.alloc (.cells #[.bool f, .slice a n ca, .slice b m cb] 70)).alloc (.cells #[.bool f', .slice a' n' ca', .slice b' m' cb'] 70)) w.heap.size (.bool f) (.slice a n ca) (.slice b m cb) := (Box3.new w _ _ _ _).keep ((World.Since.refl _ _).alloc (Nat.le_refl _) _)
  have pA : Box3 ((w.alloc (.cells #[.bool f, .slice a n ca, .slice b m cb] 70)).alloc (.cells #[.bool f', .slice a' n' ca', .slice b' m' cb'] 70)) (w.heap.size + 1) (.bool f') (.slice a' n' ca') (.slice b' m' cb') := by
    have := Box3.new (w.alloc (.cells #[.bool f, .slice a n ca, .slice b m cb] 70)) (.bool f') (.slice a' n' ca') (.slice b' m' cb') 70
    simpa using this
  have hX0 : f = true → 0 < lv X n * lv Y' m' := fun e => Nat.mul_pos (rat_pos ok e R.pX) R'.den
  have hX1 : f' = true → 0 < lv X' n' * lv Y m := fun e => Nat.mul_pos (rat_pos ok' e R'.pX) R.den
  have hX2 : 0 < n' ↔ 0 < lv X' n' * lv Y m := by
    have h1 := lv_zero R'.pX
    constructor
    · intro h; exact Nat.mul_pos (by omega) R.den
    · intro h
      rcases Nat.eq_zero_or_pos n' with e | e
      · rw [h1.1 e, Nat.zero_mul] at h; omega
      · exact e
  have hDD := Nat.mul_pos R.den R'.den
  obtain ⟨z, hz⟩ : ∃ z, z = cmpR f f' (lv X n * lv Y' m') (lv X' n' * lv Y m) := ⟨_, rfl⟩
  have HZ := hide hz
  clear hz
  have k := And.intro oA.cells pA.cells
  have J1 := l1Sub_opt f f' a b a' b' ba oa n ca bb ob m cb ba' oa' n' ca' bb' ob' m' cb' X Y X' Y' ((w.alloc (.cells #[.bool f, .slice a n ca, .slice b m cb] 70)).alloc (.cells #[.bool f', .slice a' n' ca', .slice b' m' cb'] 70)) hn (R.keep sA) (R'.keep sA) ok ok'
  go_enter Tryz.func47, Tryz.ntmps47
  go_wp2_with fail
  generalize ((w.alloc (.cells #[.bool f, .slice a n ca, .slice b m cb] 70)).alloc (.cells #[.bool f', .slice a' n' ca', .slice b' m' cb'] 70)) = w1 at *
  refine J1.mono ?_
  rintro e w2 ⟨v, rfl, ⟨x1, x2, g6, h6, rfl, N6, D6, y1, y2, y3⟩, s2⟩
  have S2 : w.Since w.heap.size w2 := sA.trans (sinceMono s2 sA.size)
  obtain ⟨a1, q1, d1, Y1, rfl, -, -, -, -, -, -, tp, ev⟩ := N6
  obtain ⟨a2, q2, d2, Y2, rfl, -⟩ := D6
  have hq : q1 = 0 ↔ sumTop f (!f' && decide (0 < n')) (lv X n * lv Y' m') (lv X' n' * lv Y m) = 0 := (lv_zero tp).trans (by rw [ev]; exact div_gcd_zero hDD)
  have HC := hide (sign_cmp f f' _ _ n' q1 hX0 hX1 hX2 hq)
  have J2 := l1Sign_any (sumNeg f (!f' && decide (0 < n')) (lv X n * lv Y' m') (lv X' n' * lv Y m) && sumTop f (!f' && decide (0 < n')) (lv X n * lv Y' m') (lv X' n' * lv Y m) != 0) a1 a2 q1 d1 q2 d2 w2
  rw [HC.out, ← HZ.out] at J2
  clear J1 HC hq hX0 hX1 hX2 tp ev k
  go_wp2_with fail
  refine J2.mono ?_
  rintro e w3 ⟨rfl, s3⟩
  go_wp2
  go_ret
  exact ⟨ret_int HZ.out, S2.trans (sinceMono s3 S2.size)⟩

end Go.Proofs.YthaomfabdghfjaaGreat

namespace Go.Proofs.YthaomfabdghfjaaGreat
open Go.RowKit

/-- The sign of a rational, as the programs hold it. -/
def qn (q : Rat) : Bool := decide (q.num < 0)

theorem q_norm (s : Int) (d : Nat) (hd : d ≠ 0) : qn (Rat.normalize s d hd) = decide (s < 0) ∧ (Rat.normalize s d hd).num.natAbs = s.natAbs / Nat.gcd s.natAbs d ∧ (Rat.normalize s d hd).den = d / Nat.gcd s.natAbs d := by
  have hg : 0 < Nat.gcd s.natAbs d := Nat.gcd_pos_of_pos_right _ (by omega)
  rw [Rat.normalize_eq]
  obtain ⟨k, hk⟩ := Nat.gcd_dvd_left s.natAbs d
  have hs : ∃ t : Int, s = (Nat.gcd s.natAbs d : Int) * t := by
    have : ((Nat.gcd s.natAbs d : Nat) : Int) ∣ s := Int.ofNat_dvd_left.2 (Nat.gcd_dvd_left _ _)
    exact this
  obtain ⟨t, ht⟩ := hs
  have hgi : (0 : Int) < (Nat.gcd s.natAbs d : Int) := by omega
  have hq : s / (Nat.gcd s.natAbs d : Int) = t := by
    have h1 := Int.mul_ediv_cancel_left t (show (Nat.gcd s.natAbs d : Int) ≠ 0 by omega)
    rw [← ht] at h1
    exact h1
  refine ⟨?_, ?_, rfl⟩
  · unfold qn
    show decide (s / (Nat.gcd s.natAbs d : Int) < 0) = _
    rw [hq, decide_eq_decide]
    constructor
    · intro h
      rw [ht]
      exact Int.mul_neg_of_pos_of_neg hgi h
    · intro h
      rcases Int.lt_or_le t 0 with e | e
      · exact e
      · have := Int.mul_nonneg (Int.le_of_lt hgi) e
        omega
  · show (s / (Nat.gcd s.natAbs d : Int)).natAbs = _
    rw [hq]
    have h2 : s.natAbs = Nat.gcd s.natAbs d * t.natAbs := by
      have := congrArg Int.natAbs ht
      rw [Int.natAbs_mul, Int.natAbs_natCast] at this
      exact this
    rw [Nat.div_eq_of_eq_mul_right hg h2]

/-- A numerator out of its sign and size. -/
theorem num_of (q : Rat) : q.num = if qn q then -(q.num.natAbs : Int) else (q.num.natAbs : Int) := by
  unfold qn
  by_cases h : q.num < 0
  · simp [h]; omega
  · simp [h]; omega

theorem qn_pos {q : Rat} (h : qn q = true) : 0 < q.num.natAbs := by
  unfold qn at h
  have := of_decide_eq_true h
  omega

theorem mulInt (f f' : Bool) (x y : Nat) : decide ((if f then -(x : Int) else x) * (if f' then -(y : Int) else y) < 0) = ((f != f') && x * y != 0) ∧ ((if f then -(x : Int) else x) * (if f' then -(y : Int) else y)).natAbs = x * y := by
  constructor
  · rw [Bool.eq_iff_iff, decide_eq_true_iff]
    have hc : (x : Int) * (y : Int) = ((x * y : Nat) : Int) := by simp
    cases f <;> cases f' <;> simp only [if_true, if_false, Bool.false_eq_true, Int.neg_mul, Int.mul_neg, Int.neg_neg, hc] <;> generalize x * y = z <;> simp <;> omega
  · rw [Int.natAbs_mul]
    cases f <;> cases f' <;> simp

theorem sumInt (f f' : Bool) (x y : Nat) (hf : f = true → 0 < x) (hf' : f' = true → 0 < y) : decide ((if f then -(x : Int) else x) + (if f' then -(y : Int) else y) < 0) = (sumNeg f f' x y && sumTop f f' x y != 0) ∧ ((if f then -(x : Int) else x) + (if f' then -(y : Int) else y)).natAbs = sumTop f f' x y := by
  unfold sumNeg sumTop
  constructor
  · rw [Bool.eq_iff_iff, decide_eq_true_iff]
    cases f <;> cases f' <;> simp
    · omega
    · by_cases h : x < y <;> simp [h] <;> omega
    · by_cases h : x < y <;> simp [h] <;> omega
    · have := hf rfl; omega
  · cases f <;> cases f' <;> simp
    · omega
    · by_cases h : x < y <;> simp [h] <;> omega
    · by_cases h : x < y <;> simp [h] <;> omega
    · omega

theorem q_mul (p q : Rat) : qn (p * q) = ((qn p != qn q) && p.num.natAbs * q.num.natAbs != 0) ∧ (p * q).num.natAbs = p.num.natAbs * q.num.natAbs / Nat.gcd (p.num.natAbs * q.num.natAbs) (p.den * q.den) ∧ (p * q).den = p.den * q.den / Nat.gcd (p.num.natAbs * q.num.natAbs) (p.den * q.den) := by
  rw [Rat.mul_def]
  have h := q_norm (p.num * q.num) (p.den * q.den) (Nat.mul_ne_zero p.den_nz q.den_nz)
  have hm := mulInt (qn p) (qn q) p.num.natAbs q.num.natAbs
  rw [← num_of, ← num_of] at hm
  rw [hm.1, hm.2] at h
  exact h

theorem q_add (p q : Rat) : qn (p + q) = (sumNeg (qn p) (qn q) (p.num.natAbs * q.den) (q.num.natAbs * p.den) && sumTop (qn p) (qn q) (p.num.natAbs * q.den) (q.num.natAbs * p.den) != 0) ∧
    (p + q).num.natAbs = sumTop (qn p) (qn q) (p.num.natAbs * q.den) (q.num.natAbs * p.den) / Nat.gcd (sumTop (qn p) (qn q) (p.num.natAbs * q.den) (q.num.natAbs * p.den)) (p.den * q.den) ∧
    (p + q).den = p.den * q.den / Nat.gcd (sumTop (qn p) (qn q) (p.num.natAbs * q.den) (q.num.natAbs * p.den)) (p.den * q.den) := by
  rw [Rat.add_def]
  have h := q_norm (p.num * q.den + q.num * p.den) (p.den * q.den) (Nat.mul_ne_zero p.den_nz q.den_nz)
  have hm := sumInt (qn p) (qn q) (p.num.natAbs * q.den) (q.num.natAbs * p.den) (fun e => Nat.mul_pos (qn_pos e) (Nat.pos_of_ne_zero q.den_nz)) (fun e => Nat.mul_pos (qn_pos e) (Nat.pos_of_ne_zero p.den_nz))
  have e1 : p.num * (q.den : Int) = if qn p then -((p.num.natAbs * q.den : Nat) : Int) else ((p.num.natAbs * q.den : Nat) : Int) := by
    conv => lhs; rw [num_of p]
    cases qn p <;> simp [Int.neg_mul]
  have e2 : q.num * (p.den : Int) = if qn q then -((q.num.natAbs * p.den : Nat) : Int) else ((q.num.natAbs * p.den : Nat) : Int) := by
    conv => lhs; rw [num_of q]
    cases qn q <;> simp [Int.neg_mul]
  rw [← e1, ← e2] at hm
  rw [hm.1, hm.2] at h
  exact h

theorem q_inv (q : Rat) (h : q.num.natAbs ≠ 0) : qn q⁻¹ = qn q ∧ q⁻¹.num.natAbs = q.den ∧ q⁻¹.den = q.num.natAbs := by
  have h0 : q.num ≠ 0 := by omega
  refine ⟨?_, ?_, ?_⟩
  · unfold qn
    rw [Rat.num_inv, decide_eq_decide]
    have hd : (0 : Int) < q.den := by have := q.den_nz; omega
    rcases Int.lt_or_lt_of_ne h0 with e | e
    · rw [Int.sign_eq_neg_one_of_neg e]; omega
    · rw [Int.sign_eq_one_of_pos e]; omega
  · rw [Rat.num_inv, Int.natAbs_mul, Int.natAbs_natCast]
    rcases Int.lt_or_lt_of_ne h0 with e | e
    · rw [Int.sign_eq_neg_one_of_neg e]; simp
    · rw [Int.sign_eq_one_of_pos e]; simp
  · rw [Rat.den_inv, if_neg h0]

theorem q_div (p q : Rat) (h : q.num.natAbs ≠ 0) : qn (p / q) = ((qn p != qn q) && p.num.natAbs * q.den != 0) ∧ (p / q).num.natAbs = p.num.natAbs * q.den / Nat.gcd (p.num.natAbs * q.den) (p.den * q.num.natAbs) ∧ (p / q).den = p.den * q.num.natAbs / Nat.gcd (p.num.natAbs * q.den) (p.den * q.num.natAbs) := by
  rw [Rat.div_def]
  have h1 := q_mul p q⁻¹
  obtain ⟨i1, i2, i3⟩ := q_inv q h
  rw [i1, i2, i3] at h1
  exact h1

/-- The order of two rationals. -/
def qcmp (p q : Rat) : Int := if p < q then -1 else if q < p then 1 else 0

theorem q_cmp (p q : Rat) : cmpR (qn p) (qn q) (p.num.natAbs * q.den) (q.num.natAbs * p.den) = qcmp p q := by
  have e1 : p.num * (q.den : Int) = if qn p then -((p.num.natAbs * q.den : Nat) : Int) else ((p.num.natAbs * q.den : Nat) : Int) := by
    conv => lhs; rw [num_of p]
    cases qn p <;> simp [Int.neg_mul]
  have e2 : q.num * (p.den : Int) = if qn q then -((q.num.natAbs * p.den : Nat) : Int) else ((q.num.natAbs * p.den : Nat) : Int) := by
    conv => lhs; rw [num_of q]
    cases qn q <;> simp [Int.neg_mul]
  have h1 : qn p = true → 0 < p.num.natAbs * q.den := fun e => Nat.mul_pos (qn_pos e) (Nat.pos_of_ne_zero q.den_nz)
  have h2 : qn q = true → 0 < q.num.natAbs * p.den := fun e => Nat.mul_pos (qn_pos e) (Nat.pos_of_ne_zero p.den_nz)
  unfold qcmp cmpR
  simp only [Rat.lt_iff, e1, e2]
  generalize p.num.natAbs * q.den = x at *
  generalize q.num.natAbs * p.den = y at *
  clear e1 e2
  unfold cmpN
  cases hp : qn p <;> cases hq : qn q <;> simp [hp, hq] at h1 h2 ⊢ <;> (repeat' split) <;> omega

end Go.Proofs.YthaomfabdghfjaaGreat

namespace Go.Proofs.YthaomfabdghfjaaGreat
open Go.RowKit

/-- A value holds the rational q, to be read. -/
def RatR (w : World) (v : Value) (q : Rat) : Prop :=
  ∃ a n ca b m cb ba oa bb ob X Y, v = .agg #[.bool (qn q), .slice a n ca, .slice b m cb] ∧ RIn w a b ba oa n ca bb ob m cb X Y ∧ lv X n = q.num.natAbs ∧ lv Y m = q.den

theorem RatR.keep {w w' : World} {v : Value} {q : Rat} (h : RatR w v q) (s : w.Since w.heap.size w') : RatR w' v q := by
  obtain ⟨a, n, ca, b, m, cb, ba, oa, bb, ob, X, Y, h1, h2, h3⟩ := h
  exact ⟨a, n, ca, b, m, cb, ba, oa, bb, ob, X, Y, h1, h2.keep s, h3⟩

/-- The size of a rational: its parts are shorter than k limbs. -/
def Qb (q : Rat) (k : Nat) : Prop := q.num.natAbs < 4294967296 ^ k ∧ q.den < 4294967296 ^ k

theorem Qb.more {q : Rat} {k l : Nat} (h : Qb q k) (hk : k ≤ l) : Qb q l :=
  ⟨Nat.lt_of_lt_of_le h.1 (Nat.pow_le_pow_right (by decide) hk), Nat.lt_of_lt_of_le h.2 (Nat.pow_le_pow_right (by decide) hk)⟩

theorem lv_lim {X : Nat → Nat} {n k : Nat} (h0 : 0 < n → X (n - 1) ≠ 0) (h : lv X n < 4294967296 ^ k) : n ≤ k := by
  rcases Nat.lt_or_ge k n with e | e
  · exfalso
    have h1 : 0 < n := by omega
    have h2 := lv_ge X n h1 (h0 h1)
    rw [Nat.pow_mul, show (2 : Nat) ^ 32 = 4294967296 by decide] at h2
    have h3 : (4294967296 : Nat) ^ k ≤ 4294967296 ^ (n - 1) := Nat.pow_le_pow_right (by decide) (by omega)
    omega
  · exact e

theorem div_le_of (a b : Nat) : a / b ≤ a := Nat.div_le_self a b

theorem Qb.mul {p q : Rat} {k l : Nat} (h : Qb p k) (h' : Qb q l) : Qb (p * q) (k + l) := by
  obtain ⟨-, e2, e3⟩ := q_mul p q
  unfold Qb
  rw [e2, e3, Nat.pow_add]
  exact ⟨Nat.lt_of_le_of_lt (Nat.div_le_self _ _) (Nat.mul_lt_mul'' h.1 h'.1), Nat.lt_of_le_of_lt (Nat.div_le_self _ _) (Nat.mul_lt_mul'' h.2 h'.2)⟩

theorem sumTop_le (f f' : Bool) (x y : Nat) : sumTop f f' x y ≤ x + y := by
  unfold sumTop
  split
  · omega
  · split <;> omega

theorem Qb.add {p q : Rat} {k l : Nat} (h : Qb p k) (h' : Qb q l) : Qb (p + q) (k + l + 1) := by
  obtain ⟨-, e2, e3⟩ := q_add p q
  unfold Qb
  rw [e2, e3, Nat.pow_succ, Nat.pow_add]
  have h1 := Nat.mul_lt_mul'' h.1 h'.2
  have h2 := Nat.mul_lt_mul'' h'.1 h.2
  have h3 := Nat.mul_lt_mul'' h.2 h'.2
  rw [Nat.mul_comm (4294967296 ^ l)] at h2
  generalize 4294967296 ^ k * 4294967296 ^ l = B at *
  have h4 := sumTop_le (qn p) (qn q) (p.num.natAbs * q.den) (q.num.natAbs * p.den)
  refine ⟨Nat.lt_of_le_of_lt (Nat.div_le_self _ _) (by omega), Nat.lt_of_le_of_lt (Nat.div_le_self _ _) (by omega)⟩

theorem Qb.div {p q : Rat} {k l : Nat} (h : Qb p k) (h' : Qb q l) (h0 : q.num.natAbs ≠ 0) : Qb (p / q) (k + l) := by
  obtain ⟨-, e2, e3⟩ := q_div p q h0
  unfold Qb
  rw [e2, e3, Nat.pow_add]
  exact ⟨Nat.lt_of_le_of_lt (Nat.div_le_self _ _) (Nat.mul_lt_mul'' h.1 h'.2), Nat.lt_of_le_of_lt (Nat.div_le_self _ _) (Nat.mul_lt_mul'' h.2 h'.1)⟩

theorem RIn.ok {w : World} {a b : Option Addr} {ba oa n ca bb ob m cb : Nat} {X Y : Nat → Nat} {q : Rat} (R : RIn w a b ba oa n ca bb ob m cb X Y) (h1 : lv X n = q.num.natAbs) (h2 : lv Y m = q.den) : ratOkB (qn q) X n Y m = true := by
  have p1 := plainB_iff.2 R.pX
  have p2 := plainB_iff.2 R.pY
  have m0 := R.m0
  have g : Nat.gcd (lv X n) (lv Y m) = 1 := by rw [h1, h2]; exact q.reduced
  have hz : (qn q && n == 0) = false := by
    cases hq : qn q
    · rfl
    · have := qn_pos hq
      rw [← h1] at this
      have h3 := lv_zero R.pX
      have : n ≠ 0 := by intro e; have := h3.1 e; omega
      simp [this]
  unfold ratOkB
  rw [p1, p2, g, hz]
  simp
  omega

/-- A valid Rat holds a rational. -/
theorem rat_of_ok {w : World} {f : Bool} {a b : Option Addr} {ba oa n ca bb ob m cb : Nat} {X Y : Nat → Nat} (R : RIn w a b ba oa n ca bb ob m cb X Y) (ok : ratOkB f X n Y m = true) : ∃ q : Rat, RatR w (.agg #[.bool f, .slice a n ca, .slice b m cb]) q ∧ q.num.natAbs = lv X n ∧ q.den = lv Y m := by
  have hd := R.den
  have hg : Nat.gcd (lv X n) (lv Y m) = 1 := by unfold ratOkB at ok; simp at ok; exact ok.2
  have hf : f = true → 0 < lv X n := fun e => by
    rcases Nat.eq_zero_or_pos (lv X n) with h | h
    · have := (lv_zero R.pX).2 h
      subst e this
      simp [ratOkB] at ok
    · exact h
  have hq : qn (⟨if f then -(lv X n : Int) else (lv X n : Int), lv Y m, by omega, by cases f <;> simpa [Nat.Coprime] using hg⟩ : Rat) = f := by
    unfold qn
    cases f
    · simp
    · have := hf rfl
      simp
      omega
  refine ⟨⟨if f then -(lv X n : Int) else (lv X n : Int), lv Y m, by omega, by cases f <;> simpa [Nat.Coprime] using hg⟩, ⟨a, n, ca, b, m, cb, ba, oa, bb, ob, X, Y, ?_, R, ?_, rfl⟩, ?_, rfl⟩
  · rw [hq]
  · cases f <;> simp
  · cases f <;> simp

/-- What a function gives back can be read. -/
theorem RatV.read {w : World} {v : Value} {q : Rat} {B M : Nat} (h : RatV w v (qn q) q.num.natAbs q.den B M) : RatR w v q := by
  obtain ⟨v1, v2, g, k, rfl, ⟨a, n, ca, X, rfl, n1, -, n3, n4, -, n6, n7, n8⟩, ⟨b, m, cb, Y, rfl, m1, -, m3, m4, -, m6, m7, m8⟩, -⟩ := h
  refine ⟨a, n, ca, b, m, cb, g, 0, k, 0, X, Y, rfl, ⟨n1, m1, n3, m3, n4, m4, n6, m6, n7, m7, ?_⟩, n8, m8⟩
  rcases Nat.eq_zero_or_pos m with e | e
  · subst e
    have := q.den_nz
    rw [← m8] at this
    exact absurd rfl this
  · exact e

theorem l1Add_q {v v' : Value} {p q : Rat} {k l : Nat} {w : World} (hp : Qb p k) (hq : Qb q l) (hk : 2 * k + 2 * l ≤ 16777216) (R : RatR w v p) (R' : RatR w v' q) :
    Calls Tryz.prog 110 #[v, v'] w fun e w' => ∃ u, e = .returned u ∧ RatV w' u (qn (p + q)) (p + q).num.natAbs (p + q).den w.heap.size 67108864 ∧ w.Since w.heap.size w' := by
  obtain ⟨a, n, ca, b, m, cb, ba, oa, bb, ob, X, Y, rfl, R, x1, x2⟩ := R
  obtain ⟨a', n', ca', b', m', cb', ba', oa', bb', ob', X', Y', rfl, R', y1, y2⟩ := R'
  have n1 := lv_lim R.pX (by rw [x1]; exact hp.1)
  have n2 := lv_lim R.pY (by rw [x2]; exact hp.2)
  have n3 := lv_lim R'.pX (by rw [y1]; exact hq.1)
  have n4 := lv_lim R'.pY (by rw [y2]; exact hq.2)
  have J := l1Add_opt (qn p) (qn q) a b a' b' ba oa n ca bb ob m cb ba' oa' n' ca' bb' ob' m' cb' X Y X' Y' w (by omega) R R' (R.ok x1 x2) (R'.ok y1 y2)
  obtain ⟨e1, e2, e3⟩ := q_add p q
  rw [x1, x2, y1, y2, ← e1, ← e2, ← e3] at J
  exact J

theorem implRatOk_q {v : Value} {p : Rat} {k : Nat} {w : World} (hw : 0 ≤ w.heap.size) (hT : Tab w) (hp : Qb p k) (hk : k ≤ 16777216) (R : RatR w v p) :
    Calls Tryz.prog 71 #[v] w fun e w' => e = .returned (.bool true) ∧ w.Since w.heap.size w' := by
  obtain ⟨a, n, ca, b, m, cb, ba, oa, bb, ob, X, Y, rfl, R, x1, x2⟩ := R
  have n1 := lv_lim R.pX (by rw [x1]; exact hp.1)
  have n2 := lv_lim R.pY (by rw [x2]; exact hp.2)
  have J := implRatOk_any (qn p) a b ba oa n ca bb ob m cb X Y w hw (by omega) (by omega) R.nc R.mc R.ac R.bc R.LX R.LY R.lX R.lY hT
  rw [R.ok x1 x2] at J
  exact J

theorem specRatOk_q {v : Value} {p : Rat} {k : Nat} {w : World} (hp : Qb p k) (hk : k ≤ 16777216) (R : RatR w v p) :
    Calls Tryz.prog 65 #[v] w fun e w' => e = .returned (.bool true) ∧ w.Since w.heap.size w' := by
  obtain ⟨a, n, ca, b, m, cb, ba, oa, bb, ob, X, Y, rfl, R, x1, x2⟩ := R
  have n1 := lv_lim R.pX (by rw [x1]; exact hp.1)
  have n2 := lv_lim R.pY (by rw [x2]; exact hp.2)
  have J := specRatOk_any (qn p) a b ba oa n ca bb ob m cb X Y w (by omega) (by omega) R.LX R.LY R.lX R.lY
  rw [R.ok x1 x2] at J
  exact J

end Go.Proofs.YthaomfabdghfjaaGreat

namespace Go.Proofs.YthaomfabdghfjaaGreat

theorem den_cast_ne (q : Rat) : (q.den : Rat) ≠ 0 := fun h => q.den_nz (by
  have h2 : ((q.den : Int) : Rat) = ((0 : Int) : Rat) := h
  exact Int.ofNat_inj.1 (Rat.intCast_inj.1 h2))

theorem rat_mul_den (q : Rat) : q * (q.den : Rat) = (q.num : Rat) := by
  have h : q = (q.num : Rat) / (q.den : Rat) := by rw [← Rat.mkRat_eq_div, Rat.mkRat_self]
  have h2 : (q.num : Rat) / (q.den : Rat) * (q.den : Rat) = (q.num : Rat) := Rat.div_mul_cancel (den_cast_ne q)
  rwa [← h] at h2

/-- q is an integer of size at most T over D. -/
def Rep (q : Rat) (T D : Nat) : Prop := ∃ t : Int, q * (D : Rat) = (t : Rat) ∧ t.natAbs ≤ T

theorem Rep.base (q : Rat) : Rep q q.num.natAbs q.den := by
  refine ⟨q.num, ?_, Nat.le_refl _⟩
  exact rat_mul_den q

theorem Rep.more {q : Rat} {T T' D : Nat} (h : Rep q T D) (hT : T ≤ T') : Rep q T' D := by
  obtain ⟨t, h1, h2⟩ := h
  exact ⟨t, h1, Nat.le_trans h2 hT⟩

theorem Rep.add {p q : Rat} {T T' D : Nat} (h : Rep p T D) (h' : Rep q T' D) : Rep (p + q) (T + T') D := by
  obtain ⟨t, h1, h2⟩ := h
  obtain ⟨u, h3, h4⟩ := h'
  refine ⟨t + u, by rw [Rat.add_mul, h1, h3, Rat.intCast_add], ?_⟩
  exact Nat.le_trans (Int.natAbs_add_le t u) (Nat.add_le_add h2 h4)

theorem Rep.mul {p q : Rat} {T T' D D' : Nat} (h : Rep p T D) (h' : Rep q T' D') : Rep (p * q) (T * T') (D * D') := by
  obtain ⟨t, h1, h2⟩ := h
  obtain ⟨u, h3, h4⟩ := h'
  refine ⟨t * u, ?_, by rw [Int.natAbs_mul]; exact Nat.mul_le_mul h2 h4⟩
  rw [Rat.natCast_mul, Rat.intCast_mul, ← h1, ← h3]
  rw [Rat.mul_assoc, Rat.mul_assoc, ← Rat.mul_assoc q, ← Rat.mul_assoc (D : Rat), Rat.mul_comm q (D : Rat)]

theorem Rep.up {q : Rat} {T D : Nat} (h : Rep q T D) (E : Nat) : Rep q (T * E) (D * E) := by
  obtain ⟨t, h1, h2⟩ := h
  refine ⟨t * E, ?_, by rw [Int.natAbs_mul]; exact Nat.mul_le_mul h2 (by simp)⟩
  rw [Rat.natCast_mul, Rat.intCast_mul, ← Rat.mul_assoc, h1]
  rfl

theorem Rep.bound {q : Rat} {T D : Nat} (h : Rep q T D) (hD : 0 < D) : q.num.natAbs ≤ T ∧ q.den ≤ D := by
  obtain ⟨t, h1, h2⟩ := h
  have e : q.num * (D : Int) = t * (q.den : Int) := by
    have h3 : q * (D : Rat) * (q.den : Rat) = (t : Rat) * (q.den : Rat) := by rw [h1]
    rw [Rat.mul_assoc, Rat.mul_comm (D : Rat), ← Rat.mul_assoc, rat_mul_den] at h3
    have h4 : ((q.num * (D : Int) : Int) : Rat) = ((t * (q.den : Int) : Int) : Rat) := by
      rw [Rat.intCast_mul, Rat.intCast_mul]; exact h3
    exact Rat.intCast_inj.1 h4
  have e2 : q.num.natAbs * D = t.natAbs * q.den := by
    have := congrArg Int.natAbs e
    rwa [Int.natAbs_mul, Int.natAbs_mul, Int.natAbs_natCast, Int.natAbs_natCast] at this
  have hd : q.den ∣ D := by
    have h5 : q.den ∣ q.num.natAbs * D := ⟨t.natAbs, by rw [e2, Nat.mul_comm]⟩
    exact Nat.Coprime.dvd_of_dvd_mul_left (Nat.Coprime.symm q.reduced) h5
  refine ⟨?_, Nat.le_of_dvd hD hd⟩
  obtain ⟨c, rfl⟩ := hd
  have hc : 0 < c := by
    rcases Nat.eq_zero_or_pos c with h | h
    · subst h; simp at hD
    · exact h
  have hq : 0 < q.den := q.den_pos
  have e3 : t.natAbs = q.num.natAbs * c := by
    have : q.den * (q.num.natAbs * c) = q.den * t.natAbs := by rw [Nat.mul_comm q.den t.natAbs, ← e2, Nat.mul_left_comm]
    exact (Nat.eq_of_mul_eq_mul_left hq this).symm
  have : q.num.natAbs ≤ q.num.natAbs * c := Nat.le_mul_of_pos_right _ hc
  omega

theorem Rep.qb {q : Rat} {T D k : Nat} (h : Rep q T D) (hD : 0 < D) (h1 : T < 4294967296 ^ k) (h2 : D < 4294967296 ^ k) : Qb q k :=
  ⟨Nat.lt_of_le_of_lt (h.bound hD).1 h1, Nat.lt_of_le_of_lt (h.bound hD).2 h2⟩

/-- The product of the denominators, and of the numerators (each plus one), of the first n rationals. -/
def dens (q : Nat → Rat) : Nat → Nat
  | 0 => 1
  | n + 1 => dens q n * (q n).den

def nums (q : Nat → Rat) : Nat → Nat
  | 0 => 1
  | n + 1 => nums q n * ((q n).num.natAbs + 1)

theorem dens_pos (q : Nat → Rat) (n : Nat) : 0 < dens q n := by
  induction n with
  | zero => exact Nat.one_pos
  | succ n ih => exact Nat.mul_pos ih (q n).den_pos

theorem nums_pos (q : Nat → Rat) (n : Nat) : 0 < nums q n := by
  induction n with
  | zero => exact Nat.one_pos
  | succ n ih => exact Nat.mul_pos ih (Nat.succ_pos _)

theorem dens_dvd (q : Nat → Rat) {k n : Nat} (h : k < n) : (q k).den ∣ dens q n := by
  induction n with
  | zero => omega
  | succ n ih =>
    rcases Nat.lt_succ_iff_lt_or_eq.1 h with h | h
    · exact Nat.dvd_trans (ih h) ⟨_, rfl⟩
    · subst h; exact ⟨dens q k, Nat.mul_comm _ _⟩

theorem nums_le (q : Nat → Rat) {k n : Nat} (h : k < n) : (q k).num.natAbs + 1 ≤ nums q n := by
  induction n with
  | zero => omega
  | succ n ih =>
    rcases Nat.lt_succ_iff_lt_or_eq.1 h with h | h
    · exact Nat.le_trans (ih h) (Nat.le_mul_of_pos_right _ (Nat.succ_pos _))
    · subst h; exact Nat.le_mul_of_pos_left _ (nums_pos q k)

/-- The sum of the numerators of j rationals from a on. -/
def sumN (q : Nat → Rat) (a : Nat) : Nat → Nat
  | 0 => 0
  | j + 1 => sumN q a j + (q (a + j)).num.natAbs

theorem sumN_front (q : Nat → Rat) (a b j : Nat) : sumN q a (b + j) = sumN q a b + sumN q (a + b) j := by
  induction j with
  | zero => simp [sumN]
  | succ j ih => rw [← Nat.add_assoc, sumN, sumN, ih, Nat.add_assoc a b j, Nat.add_assoc]

theorem sumN_part (q : Nat → Rat) {a j n : Nat} (h : a + j ≤ n) : sumN q a j ≤ sumN q 0 n := by
  have h1 := sumN_front q 0 a j
  have h2 := sumN_front q 0 (a + j) (n - (a + j))
  rw [show a + j + (n - (a + j)) = n by omega] at h2
  rw [Nat.zero_add] at h1
  omega

theorem sumN_nums (q : Nat → Rat) (n : Nat) : sumN q 0 n + 1 ≤ nums q n := by
  induction n with
  | zero => exact Nat.le_refl _
  | succ n ih =>
    unfold sumN nums
    rw [Nat.zero_add, Nat.mul_add, Nat.mul_one]
    have := Nat.le_mul_of_pos_left (q n).num.natAbs (nums_pos q n)
    omega

/-- b and then w 0 * v 0, w 1 * v 1 .. -/
def psum (b : Rat) (w v : Nat → Rat) : Nat → Rat
  | 0 => b
  | j + 1 => psum b w v j + w j * v j

theorem Rep.term {p q : Rat} {T D E : Nat} (h : Rep q T D) (hp : p.den ∣ E) : Rep (p * q) (p.num.natAbs * T * E) (D * E) := by
  obtain ⟨Y, rfl⟩ := hp
  have h1 := ((Rep.base p).mul h).up Y
  rw [show p.den * D * Y = D * (p.den * Y) by rw [Nat.mul_comm p.den D, Nat.mul_assoc]] at h1
  exact h1.more (Nat.mul_le_mul_left _ (Nat.le_mul_of_pos_left _ p.den_pos))

/-- A row of an affine map keeps within its bounds. -/
theorem Rep.row {b : Rat} {w v : Nat → Rat} {T D E S : Nat} (hDT : D ≤ T) (hb : b.den ∣ E) (j : Nat) (hw : ∀ c, c < j → (w c).den ∣ E) (hv : ∀ c, c < j → Rep (v c) T D)
    (hS : b.num.natAbs + sumN w 0 j ≤ S) : Rep (psum b w v j) (S * T * E) (D * E) := by
  have key : ∀ i, i ≤ j → Rep (psum b w v i) ((b.num.natAbs + sumN w 0 i) * T * E) (D * E) := by
    intro i
    induction i with
    | zero =>
      intro _
      obtain ⟨Y, rfl⟩ := hb
      have h1 := (Rep.base b).up (D * Y)
      rw [show b.den * (D * Y) = D * (b.den * Y) by rw [Nat.mul_left_comm]] at h1
      refine h1.more ?_
      simp only [sumN, Nat.add_zero]
      rw [Nat.mul_assoc]
      refine Nat.mul_le_mul_left _ ?_
      exact Nat.mul_le_mul hDT (Nat.le_mul_of_pos_left _ b.den_pos)
    | succ i ih =>
      intro hi
      have h1 := (ih (by omega)).add ((hv i (by omega)).term (hw i (by omega)))
      refine h1.more ?_
      rw [sumN, Nat.zero_add, ← Nat.add_mul, ← Nat.add_mul, Nat.add_assoc]
      exact Nat.le_refl _
  exact (key j (Nat.le_refl _)).more (Nat.mul_le_mul_right _ (Nat.mul_le_mul_right _ hS))

end Go.Proofs.YthaomfabdghfjaaGreat

namespace Go.Proofs.YthaomfabdghfjaaGreat
open Go.RowKit

/-- The rational that a Rat holds. -/
def RatD.q (r : RatD) : Rat := mkRat (if r.neg then -(lv r.X r.n : Int) else lv r.X r.n) (lv r.Y r.m)

/-- A fraction, normalised. -/
theorem norm_q (f : Bool) (N D : Nat) (hD : D ≠ 0) : qn (mkRat (if f then -(N : Int) else N) D) = (f && N != 0) ∧ (mkRat (if f then -(N : Int) else N) D).num.natAbs = N / Nat.gcd N D ∧ (mkRat (if f then -(N : Int) else N) D).den = D / Nat.gcd N D := by
  rw [← Rat.normalize_eq_mkRat hD]
  obtain ⟨e1, e2, e3⟩ := q_norm (if f then -(N : Int) else N) D hD
  have ea : (if f then -(N : Int) else (N : Int)).natAbs = N := by split <;> simp
  rw [ea] at e2 e3
  refine ⟨?_, e2, e3⟩
  rw [e1]
  cases f
  · simp
  · show decide (-(N : Int) < 0) = (true && N != 0)
    rw [Bool.eq_iff_iff]
    simp only [decide_eq_true_eq, Bool.true_and, bne_iff_ne]
    omega

theorem mk_of (q : Rat) : mkRat (if qn q then -(q.num.natAbs : Int) else q.num.natAbs) q.den = q := by
  rw [← num_of, Rat.mkRat_self]

theorem mk_mul (f f' : Bool) (x y : Nat) (d e : Nat) : mkRat (if f then -(x : Int) else x) d * mkRat (if f' then -(y : Int) else y) e = mkRat (if (f != f') then -((x * y : Nat) : Int) else ((x * y : Nat) : Int)) (d * e) := by
  rw [Rat.mkRat_mul_mkRat]
  congr 1
  cases f <;> cases f' <;> simp [Int.neg_mul, Int.mul_neg]

theorem sgn_sum (f f' : Bool) (x y : Nat) : (if f then -(x : Int) else x) + (if f' then -(y : Int) else y) = if sumNeg f f' x y then -(sumTop f f' x y : Int) else (sumTop f f' x y : Int) := by
  unfold sumNeg sumTop
  cases f <;> cases f' <;> simp
  · by_cases h : x < y
    · simp [h]; omega
    · simp [h]; omega
  · by_cases h : x < y
    · simp [h]; omega
    · simp [h]; omega
  · omega

theorem mk_add (f f' : Bool) (x y : Nat) (d e : Nat) (hd : d ≠ 0) (he : e ≠ 0) : mkRat (if f then -(x : Int) else x) d + mkRat (if f' then -(y : Int) else y) e = mkRat (if sumNeg f f' (x * e) (y * d) then -(sumTop f f' (x * e) (y * d) : Int) else (sumTop f f' (x * e) (y * d) : Int)) (d * e) := by
  rw [Rat.mkRat_add_mkRat _ _ hd he, ← sgn_sum]
  congr 1
  cases f <;> cases f' <;> simp [Int.neg_mul]

/-- s + p * r, out of the parts, normalised once. -/
theorem q_fma (s p r : Rat) : qn (s + p * r) = (sumNeg (qn s) (qn p != qn r) (s.num.natAbs * (p.den * r.den)) (p.num.natAbs * r.num.natAbs * s.den) && sumTop (qn s) (qn p != qn r) (s.num.natAbs * (p.den * r.den)) (p.num.natAbs * r.num.natAbs * s.den) != 0) ∧
    (s + p * r).num.natAbs = sumTop (qn s) (qn p != qn r) (s.num.natAbs * (p.den * r.den)) (p.num.natAbs * r.num.natAbs * s.den) / Nat.gcd (sumTop (qn s) (qn p != qn r) (s.num.natAbs * (p.den * r.den)) (p.num.natAbs * r.num.natAbs * s.den)) (s.den * (p.den * r.den)) ∧
    (s + p * r).den = s.den * (p.den * r.den) / Nat.gcd (sumTop (qn s) (qn p != qn r) (s.num.natAbs * (p.den * r.den)) (p.num.natAbs * r.num.natAbs * s.den)) (s.den * (p.den * r.den)) := by
  have hd : p.den * r.den ≠ 0 := Nat.mul_ne_zero p.den_nz r.den_nz
  have e := mk_add (qn s) (qn p != qn r) s.num.natAbs (p.num.natAbs * r.num.natAbs) s.den (p.den * r.den) s.den_nz hd
  rw [mk_of s, ← mk_mul, mk_of p, mk_of r] at e
  rw [e]
  exact norm_q _ _ _ (Nat.mul_ne_zero s.den_nz hd)

theorem RatD.q_ok {r : RatD} (h : r.ok = true) : qn r.q = r.neg ∧ r.q.num.natAbs = lv r.X r.n ∧ r.q.den = lv r.Y r.m ∧ (0 < r.n → r.X (r.n - 1) ≠ 0) ∧ (0 < r.m → r.Y (r.m - 1) ≠ 0) ∧ 0 < r.m := by
  unfold RatD.ok ratOkB at h
  simp only [Bool.and_eq_true, bne_iff_ne, beq_iff_eq, Bool.not_eq_true', Bool.and_eq_false_iff] at h
  obtain ⟨⟨⟨⟨h1, h2⟩, h3⟩, h4⟩, h5⟩ := h
  have pX := plainB_iff.1 h1
  have pY := plainB_iff.1 h2
  have hm : 0 < r.m := by omega
  have hd : lv r.Y r.m ≠ 0 := fun e => by have := (lv_zero pY).2 e; omega
  obtain ⟨e1, e2, e3⟩ := norm_q r.neg (lv r.X r.n) (lv r.Y r.m) hd
  rw [h5, Nat.div_one] at e2 e3
  refine ⟨?_, e2, e3, pX, pY, hm⟩
  unfold RatD.q
  rw [e1]
  cases hn : r.neg
  · rfl
  · have hx : r.n ≠ 0 := by
      rcases h4 with h | h
      · rw [hn] at h; cases h
      · simpa using h
    have : lv r.X r.n ≠ 0 := fun e => hx ((lv_zero pX).2 e)
    simp [this]

/-- A value holds the rational q; its limbs lie in blocks of which p holds. -/
def RatRP (w : World) (p : Nat → Prop) (v : Value) (q : Rat) : Prop :=
  ∃ a n ca b m cb ba oa bb ob X Y, v = .agg #[.bool (qn q), .slice a n ca, .slice b m cb] ∧ RIn w a b ba oa n ca bb ob m cb X Y ∧ lv X n = q.num.natAbs ∧ lv Y m = q.den ∧ (0 < n → p ba) ∧ (0 < m → p bb)

section
variable {w w' : World} {p p' : Nat → Prop} {v : Value} {q : Rat} {a : Option Addr} {b off n c : Nat} {Q : Nat → Rat}
theorem RatRP.keep (h : RatRP w p v q) (s : w.Since w.heap.size w') : RatRP w' p v q := by
  obtain ⟨a, n, ca, b, m, cb, ba, oa, bb, ob, X, Y, h1, h2, h3⟩ := h
  exact ⟨a, n, ca, b, m, cb, ba, oa, bb, ob, X, Y, h1, h2.keep s, h3⟩
theorem RatRP.read (h : RatRP w p v q) : RatR w v q := by
  obtain ⟨a, n, ca, b, m, cb, ba, oa, bb, ob, X, Y, h1, h2, h3, h4, -⟩ := h
  exact ⟨a, n, ca, b, m, cb, ba, oa, bb, ob, X, Y, h1, h2, h3, h4⟩
theorem RatRP.imp (h : RatRP w p v q) (hp : ∀ g, g < w.heap.size → p g → p' g) : RatRP w p' v q := by
  obtain ⟨a, n, ca, b, m, cb, ba, oa, bb, ob, X, Y, h1, h2, h3, h4, h5, h6⟩ := h
  exact ⟨a, n, ca, b, m, cb, ba, oa, bb, ob, X, Y, h1, h2, h3, h4, fun h => hp _ (h2.LX.lt h) (h5 h), fun h => hp _ (h2.LY.lt h) (h6 h)⟩
theorem RatR.rp (h : RatR w v q) : RatRP w (fun _ => True) v q := by
  obtain ⟨a, n, ca, b, m, cb, ba, oa, bb, ob, X, Y, h1, h2, h3, h4⟩ := h
  exact ⟨a, n, ca, b, m, cb, ba, oa, bb, ob, X, Y, h1, h2, h3, h4, fun _ => trivial, fun _ => trivial⟩
theorem RatRP.marked (h : RatRP w p v q) (s : Marked w w' c) (hc : ¬ p c) : RatRP w' p v q := by
  obtain ⟨a, n, ca, b, m, cb, ba, oa, bb, ob, X, Y, h1, R, h3, h4, h5, h6⟩ := h
  exact ⟨a, n, ca, b, m, cb, ba, oa, bb, ob, X, Y, h1, ⟨R.nc, R.mc, R.ac, R.bc, R.LX.marked s (fun h e => hc (e ▸ h5 h)), R.LY.marked s (fun h e => hc (e ▸ h6 h)), R.lX, R.lY, R.pX, R.pY, R.m0⟩, h3, h4, h5, h6⟩
theorem RatV.rp {B M : Nat} (h : RatV w v (qn q) q.num.natAbs q.den B M) : RatRP w (fun g => B ≤ g) v q := by
  obtain ⟨v1, v2, g, k, rfl, ⟨a, n, ca, X, rfl, n1, -, n3, n4, -, n6, n7, n8⟩, ⟨b, m, cb, Y, rfl, m1, -, m3, m4, -, m6, m7, m8⟩, x1, x2, -⟩ := h
  refine ⟨a, n, ca, b, m, cb, g, 0, k, 0, X, Y, rfl, ⟨n1, m1, n3, m3, n4, m4, n6, m6, n7, m7, ?_⟩, n8, m8, fun _ => x1, fun _ => x2⟩
  rcases Nat.eq_zero_or_pos m with e | e
  · subst e
    have := q.den_nz
    rw [← m8] at this
    exact absurd rfl this
  · exact e

/-- A rational that lies in memory. -/
structure RatC (w : World) (p : Nat → Prop) (b off : Nat) (q : Rat) (x y : Value) : Prop where
  c0 : w.cell? ⟨b, off, none⟩ = some (.bool (qn q))
  c1 : w.cell? ⟨b, off + 1, none⟩ = some x
  c2 : w.cell? ⟨b, off + 2, none⟩ = some y
  R : RatRP w p (.agg #[.bool (qn q), x, y]) q

theorem RatC.lt {x y : Value} (h : RatC w p b off q x y) : b < w.heap.size := World.block_lt_of_cell? _ _ h.c0
theorem RatC.keep {x y : Value} (h : RatC w p b off q x y) (s : w.Since w.heap.size w') : RatC w' p b off q x y :=
  ⟨(s.cell (a := ⟨b, off, none⟩) h.lt).trans h.c0, (s.cell (a := ⟨b, off + 1, none⟩) h.lt).trans h.c1, (s.cell (a := ⟨b, off + 2, none⟩) h.lt).trans h.c2, h.R.keep s⟩

/-- A slice of rationals. -/
def RatQs (w : World) (p : Nat → Prop) (a : Option Addr) (b off n : Nat) (Q : Nat → Rat) : Prop :=
  ∀ i, i < n → a = some ⟨b, off, none⟩ ∧ ∃ x y, RatC w p b (off + i * 3) (Q i) x y

theorem RatQs.keep (h : RatQs w p a b off n Q) (s : w.Since w.heap.size w') : RatQs w' p a b off n Q := fun i hi => by
  obtain ⟨h1, x, y, h2⟩ := h i hi
  exact ⟨h1, x, y, h2.keep s⟩
theorem RatQs.imp (h : RatQs w p a b off n Q) (hp : ∀ g, g < w.heap.size → p g → p' g) : RatQs w p' a b off n Q := fun i hi => by
  obtain ⟨h1, x, y, h2⟩ := h i hi
  exact ⟨h1, x, y, h2.c0, h2.c1, h2.c2, h2.R.imp hp⟩

/-- A list of rationals grows by one in its room. -/
theorem RatQs.put {k : Nat} {x y : Value} (h : RatQs w (fun g => g ≠ c) (some ⟨c, 0, none⟩) c 0 k Q) (M : Marked w w' c) (hc : ∀ o, o < k * 3 → w'.cell? ⟨c, o, none⟩ = w.cell? ⟨c, o, none⟩)
    (L : RatRP w (fun g => g ≠ c) (.agg #[.bool (qn (Q k)), x, y]) (Q k)) (c0 : w'.cell? ⟨c, k * 3, none⟩ = some (.bool (qn (Q k)))) (c1 : w'.cell? ⟨c, k * 3 + 1, none⟩ = some x) (c2 : w'.cell? ⟨c, k * 3 + 2, none⟩ = some y) :
    RatQs w' (fun g => g ≠ c) (some ⟨c, 0, none⟩) c 0 (k + 1) Q := fun i hi => by
  refine ⟨rfl, ?_⟩
  by_cases e : i = k
  · subst e
    exact ⟨x, y, by rw [Nat.zero_add]; exact c0, by rw [Nat.zero_add]; exact c1, by rw [Nat.zero_add]; exact c2, L.marked M (fun h => h rfl)⟩
  · obtain ⟨-, x', y', m⟩ := h i (by omega)
    exact ⟨x', y', (hc _ (by omega)).trans m.c0, (hc _ (by omega)).trans m.c1, (hc _ (by omega)).trans m.c2, m.R.marked M (fun h => h rfl)⟩
end

/-- A list of valid Rats is a list of rationals. -/
theorem Rats.qs {w : World} {lo b off n : Nat} {a : Option Addr} {R : Nat → RatD} (h : Rats w lo a b off n R) (ok : RatsOk R n) : RatQs w (fun g => lo ≤ g) a b off n (fun i => (R i).q) := fun i hi => by
  obtain ⟨h1, a1, a2, k1, k2, m⟩ := h i hi
  obtain ⟨e1, e2, e3, pX, pY, hm⟩ := RatD.q_ok (ok i hi)
  obtain ⟨ba, oa, l1, LX⟩ := m.L.LX
  obtain ⟨bb, ob, l2, LY⟩ := m.L.LY
  exact ⟨h1, .slice a1 (R i).n k1, .slice a2 (R i).m k2, by rw [e1]; exact m.c0, m.c1, m.c2, a1, (R i).n, k1, a2, (R i).m, k2, ba, oa, bb, ob, (R i).X, (R i).Y, rfl, ⟨m.L.nc, m.L.mc, m.L.ac, m.L.bc, LX, LY, m.L.lX, m.L.lY, pX, pY, hm⟩, e2.symm, e3.symm, l1, l2⟩

theorem l1Cmp_q {v v' : Value} {p q : Rat} {k l : Nat} {w : World} (hp : Qb p k) (hq : Qb q l) (hk : 2 * k + 2 * l ≤ 16777216) (R : RatR w v p) (R' : RatR w v' q) :
    Calls Tryz.prog 47 #[v, v'] w fun e w' => e = .returned (.int .i64 (qcmp p q)) ∧ w.Since w.heap.size w' := by
  obtain ⟨a, n, ca, b, m, cb, ba, oa, bb, ob, X, Y, rfl, R, x1, x2⟩ := R
  obtain ⟨a', n', ca', b', m', cb', ba', oa', bb', ob', X', Y', rfl, R', y1, y2⟩ := R'
  have n1 := lv_lim R.pX (by rw [x1]; exact hp.1)
  have n2 := lv_lim R.pY (by rw [x2]; exact hp.2)
  have n3 := lv_lim R'.pX (by rw [y1]; exact hq.1)
  have n4 := lv_lim R'.pY (by rw [y2]; exact hq.2)
  have J := l1Cmp_opt (qn p) (qn q) a b a' b' ba oa n ca bb ob m cb ba' oa' n' ca' bb' ob' m' cb' X Y X' Y' w (by omega) R R' (R.ok x1 x2) (R'.ok y1 y2)
  rw [x1, x2, y1, y2, q_cmp] at J
  exact J

end Go.Proofs.YthaomfabdghfjaaGreat

namespace Go.Proofs.YthaomfabdghfjaaGreat
open Go.RowKit

def usesK (op : Int) : Bool := op == 1 || op == 5 || op == 6
def usesS (op : Int) : Bool := op == 6
def usesV (op : Int) : Bool := op == 1 || op == 3 || op == 6 || op == 7
def usesB (op : Int) : Bool := op == 4

/-- A size that is used lies from 1 to 1000; one that is not is 0. -/
def SzOk (z : Int) (u : Bool) : Prop := if u then 1 ≤ z ∧ z ≤ 1000 else z = 0

/-- What a kind's form asks of a node. -/
def FitsP (d : NodeD) (ub uk us : Bool) (nums : Int) : Prop :=
  (ub = false → d.b = 0) ∧ SzOk d.k uk ∧ SzOk d.s us ∧ (nums ≠ -1 → (d.nv : Int) = nums) ∧ RatsOk d.V d.nv

/-- The form of a node. -/
structure NodeD.Form (d : NodeD) : Prop where
  o1 : 1 ≤ d.op
  o7 : d.op ≤ 7
  k : SzOk d.k (usesK d.op)
  s : SzOk d.s (usesS d.op)
  b : usesB d.op = false → d.b = 0
  v : usesV d.op = false → d.nv = 0
  v3 : d.op = 3 → d.nv = 1
  v7 : d.op = 7 → d.nv = 4
  ok : RatsOk d.V d.nv

theorem form_iff {d : NodeD} {z : Int} {ub uk us : Bool} {nums : Int} (h : d.op = z) (h1 : 1 ≤ z) (h7 : z ≤ 7) (eb : usesB z = ub) (ek : usesK z = uk) (es : usesS z = us)
    (en : (nums = -1 ∧ usesV z = true ∧ z ≠ 3 ∧ z ≠ 7) ∨ (nums = 0 ∧ usesV z = false) ∨ (nums = 1 ∧ z = 3) ∨ (nums = 4 ∧ z = 7)) : d.Form ↔ FitsP d ub uk us nums := by
  subst h eb ek es
  constructor
  · intro f
    refine ⟨f.b, f.k, f.s, fun hn => ?_, f.ok⟩
    rcases en with ⟨rfl, -⟩ | ⟨rfl, e⟩ | ⟨rfl, e⟩ | ⟨rfl, e⟩
    · exact absurd rfl hn
    · have := f.v e; omega
    · have := f.v3 e; omega
    · have := f.v7 e; omega
  · rintro ⟨a1, a2, a3, a4, a5⟩
    refine ⟨h1, h7, a2, a3, a1, fun e => ?_, fun e => ?_, fun e => ?_, a5⟩
    · rcases en with ⟨rfl, e2, -⟩ | ⟨rfl, -⟩ | ⟨rfl, e2⟩ | ⟨rfl, e2⟩
      · rw [e] at e2; cases e2
      · have := a4 (by decide); omega
      · rw [e2] at e; cases e
      · rw [e2] at e; cases e
    · rcases en with ⟨-, -, e2, -⟩ | ⟨-, e2⟩ | ⟨rfl, -⟩ | ⟨-, e2⟩
      · exact absurd e e2
      · rw [e] at e2; cases e2
      · have := a4 (by decide); omega
      · omega
    · rcases en with ⟨-, -, -, e2⟩ | ⟨-, e2⟩ | ⟨-, e2⟩ | ⟨rfl, -⟩
      · exact absurd e e2
      · rw [e] at e2; cases e2
      · omega
      · have := a4 (by decide); omega

/-- The sources of node i are known. -/
def SrcOk (d : NodeD) (i : Nat) : Prop := 0 ≤ d.a ∧ d.a < i ∧ (usesB d.op = true → 0 ≤ d.b ∧ d.b < i)

/-- The code of a node's shape over its source's dimension. -/
def shapeCode (D : Nat → Int) (d : NodeD) : Int :=
  if d.op = 1 ∧ (d.nv : Int) ≠ d.k * (D d.a.toNat + 1) then 14
  else if d.op = 4 ∧ D d.b.toNat ≠ D d.a.toNat then 14
  else if d.op = 5 ∧ D d.a.toNat % d.k ≠ 0 then 14
  else if d.op = 6 ∧ (d.k > D d.a.toNat ∨ (d.nv : Int) ≠ d.k + 1) then 14
  else if d.op = 7 ∧ (d.V 2).n = 0 then 15
  else 0

/-- Whether a node has its form is decided. -/
def formD (d : NodeD) : Decidable d.Form := @decidable_of_iff _ (1 ≤ d.op ∧ d.op ≤ 7 ∧ (if usesK d.op then 1 ≤ d.k ∧ d.k ≤ 1000 else d.k = 0) ∧ (if usesS d.op then 1 ≤ d.s ∧ d.s ≤ 1000 else d.s = 0) ∧ (usesB d.op = false → d.b = 0) ∧ (usesV d.op = false → d.nv = 0) ∧ (d.op = 3 → d.nv = 1) ∧ (d.op = 7 → d.nv = 4) ∧ ∀ i, i < d.nv → (d.V i).ok = true) ⟨fun ⟨a, b, c, e, f, g, h, i, j⟩ => ⟨a, b, c, e, f, g, h, i, j⟩, fun f => ⟨f.o1, f.o7, f.k, f.s, f.b, f.v, f.v3, f.v7, f.ok⟩⟩ inferInstance
def srcD (d : NodeD) (i : Nat) : Decidable (SrcOk d i) := inferInstanceAs (Decidable (0 ≤ d.a ∧ d.a < i ∧ (usesB d.op = true → 0 ≤ d.b ∧ d.b < i)))
/-- The code of node i behind the dimensions D. -/
def nodeCode (D : Nat → Int) (i : Nat) (d : NodeD) : Int :=
  haveI := formD d; haveI := srcD d i; if ¬ d.Form then 12 else if ¬ SrcOk d i then 13 else shapeCode D d

/-- The dimension of a node. -/
def nodeDim (D : Nat → Int) (d : NodeD) : Int :=
  if d.op = 1 then d.k else if d.op = 5 then D d.a.toNat / d.k else if d.op = 6 then (D d.a.toNat - d.k) / d.s + 1 else D d.a.toNat

/-- The dimensions of the first nodes: of node 0 .. k. -/
def dimA (g : GraphD) : Nat → Nat → Int
  | 0 => fun _ => g.inn
  | i + 1 => fun j => if j ≤ i then dimA g i j else nodeDim (dimA g i) (g.N i)

theorem dimA_old (g : GraphD) {i j : Nat} (h : j ≤ i) : dimA g (i + 1) j = dimA g i j := by
  show (if j ≤ i then _ else _) = _
  rw [if_pos h]
theorem dimA_new (g : GraphD) (i : Nat) : dimA g (i + 1) (i + 1) = nodeDim (dimA g i) (g.N i) := by
  show (if i + 1 ≤ i then _ else _) = _
  rw [if_neg (by omega)]

/-- Node k + 1's code. -/
def nc (g : GraphD) (k : Nat) : Int := nodeCode (dimA g k) (k + 1) (g.N k)

/-- Dimensions lie from 1 to 1000. -/
def Dok (D : Nat → Int) (n : Nat) : Prop := ∀ j, j < n → 1 ≤ D j ∧ D j ≤ 1000

theorem code_zero {D : Nat → Int} {i : Nat} {d : NodeD} (h : nodeCode D i d = 0) : d.Form ∧ SrcOk d i ∧ shapeCode D d = 0 := by
  unfold nodeCode at h
  by_cases h1 : d.Form
  · by_cases h2 : SrcOk d i
    · simp only [h1, h2, not_true_eq_false, if_false] at h
      exact ⟨h1, h2, h⟩
    · simp [h1, h2] at h
  · simp [h1] at h
theorem code_form {D : Nat → Int} {i : Nat} {d : NodeD} (h : ¬ d.Form) : nodeCode D i d = 12 := by unfold nodeCode; simp [h]
theorem code_src {D : Nat → Int} {i : Nat} {d : NodeD} (h : d.Form) (h2 : ¬ SrcOk d i) : nodeCode D i d = 13 := by unfold nodeCode; simp [h, h2]
theorem code_shape {D : Nat → Int} {i : Nat} {d : NodeD} (h : d.Form) (h2 : SrcOk d i) : nodeCode D i d = shapeCode D d := by unfold nodeCode; simp [h, h2]

theorem dim_ok {D : Nat → Int} {i : Nat} {d : NodeD} (hD : Dok D i) (h : nodeCode D i d = 0) : 1 ≤ nodeDim D d ∧ nodeDim D d ≤ 1000 := by
  obtain ⟨f, ⟨s1, s2, -⟩, c⟩ := code_zero h
  have hd := hD d.a.toNat (by omega)
  generalize hx : D d.a.toNat = x at hd
  unfold shapeCode at c
  unfold nodeDim
  rw [hx] at c ⊢
  by_cases o1 : d.op = 1
  · have := f.k
    rw [o1] at this
    rw [if_pos o1]
    exact this
  by_cases o5 : d.op = 5
  · have hk := f.k
    rw [o5] at hk
    have hk : 1 ≤ d.k ∧ d.k ≤ 1000 := hk
    rw [if_neg o1, if_pos o5]
    by_cases hm : x % d.k = 0
    · have e := Int.mul_ediv_add_emod x d.k
      rw [hm] at e
      generalize hy : x / d.k = y at *
      constructor
      · by_cases hy0 : y ≤ 0
        · have : d.k * y ≤ 0 := Int.mul_nonpos_of_nonneg_of_nonpos (by omega) hy0
          omega
        · omega
      · have : x / d.k ≤ x := Int.ediv_le_self _ (by omega)
        omega
    · exfalso
      simp [o5, hm] at c
  by_cases o6 : d.op = 6
  · have hk := f.k
    have hs := f.s
    rw [o6] at hk hs
    have hk : 1 ≤ d.k ∧ d.k ≤ 1000 := hk
    have hs : 1 ≤ d.s ∧ d.s ≤ 1000 := hs
    rw [if_neg o1, if_neg o5, if_pos o6]
    by_cases hm : d.k > x
    · exfalso
      simp [o6, hm] at c
    · have h0 : 0 ≤ (x - d.k) / d.s := Int.ediv_nonneg (by omega) (by omega)
      have h1 : (x - d.k) / d.s ≤ x - d.k := Int.ediv_le_self _ (by omega)
      omega
  rw [if_neg o1, if_neg o5, if_neg o6]
  exact hd

/-- All that a graph says beside its nodes and its result, but for the order in the box. -/
structure HeadP (g : GraphD) : Prop where
  i1 : 1 ≤ g.inn
  i2 : g.inn ≤ 1000
  r0 : 0 ≤ g.rounds
  r1 : g.rounds ≤ 1000
  l : (g.nl : Int) = g.inn
  h : (g.nh : Int) = g.inn
  n : g.nn ≤ 1000
  okL : RatsOk g.Lo g.nl
  okH : RatsOk g.Hi g.nh

/-- Side j of the box is the wrong way round. -/
def boxBad (g : GraphD) (j : Nat) : Prop := 0 < qcmp (g.Lo j).q (g.Hi j).q

/-- What CheckGraph answers. -/
def Outc (g : GraphD) (n : Nat) (X : Nat → Int) (c a : Int) : Prop :=
  (¬ HeadP g ∧ n = 0 ∧ c = 10 ∧ a = 0) ∨
  (HeadP g ∧ ∃ j : Nat, (j : Int) < g.inn ∧ (∀ i, i < j → ¬ boxBad g i) ∧ boxBad g j ∧ n = 0 ∧ c = 11 ∧ a = j) ∨
  (HeadP g ∧ (∀ j : Nat, (j : Int) < g.inn → ¬ boxBad g j) ∧ ∃ i, i < g.nn ∧ (∀ k, k < i → nc g k = 0) ∧ nc g i ≠ 0 ∧ n = 0 ∧ c = nc g i ∧ a = ((i + 1 : Nat) : Int)) ∨
  (HeadP g ∧ (∀ j : Nat, (j : Int) < g.inn → ¬ boxBad g j) ∧ (∀ k, k < g.nn → nc g k = 0) ∧ ¬ (0 ≤ g.out ∧ g.out ≤ g.nn) ∧ n = 0 ∧ c = 16 ∧ a = 0) ∨
  (HeadP g ∧ (∀ j : Nat, (j : Int) < g.inn → ¬ boxBad g j) ∧ (∀ k, k < g.nn → nc g k = 0) ∧ (0 ≤ g.out ∧ g.out ≤ g.nn) ∧ n = g.nn + 1 ∧ (∀ j, j < n → X j = dimA g g.nn j) ∧ c = 0 ∧ a = 0)

theorem Outc.only {g : GraphD} {n n' : Nat} {X X' : Nat → Int} {c c' a a' : Int} (h : Outc g n X c a) (h' : Outc g n' X' c' a') : n' = n ∧ c' = c ∧ a' = a ∧ ∀ j, j < n → X' j = X j := by
  rcases h with ⟨p0, rfl, rfl, rfl⟩ | ⟨p0, j, j1, j2, j3, rfl, rfl, rfl⟩ | ⟨p0, p1, i, i1, i2, i3, rfl, rfl, rfl⟩ | ⟨p0, p1, p2, p3, rfl, rfl, rfl⟩ | ⟨p0, p1, p2, p3, rfl, e, rfl, rfl⟩ <;>
  rcases h' with ⟨q0, rfl, rfl, rfl⟩ | ⟨q0, j', j1', j2', j3', rfl, rfl, rfl⟩ | ⟨q0, q1, i', i1', i2', i3', rfl, rfl, rfl⟩ | ⟨q0, q1, q2, q3, rfl, rfl, rfl⟩ | ⟨q0, q1, q2, q3, rfl, e', rfl, rfl⟩
  all_goals first
    | exact absurd q0 p0
    | exact absurd p0 q0
    | exact absurd j3 (q1 _ j1)
    | exact absurd j3' (p1 _ j1')
    | exact absurd (q2 _ i1) i3
    | exact absurd (p2 _ i1') i3'
    | exact absurd q3 p3
    | exact absurd p3 q3
    | exact ⟨rfl, rfl, rfl, fun j hj => absurd hj (by omega)⟩
    | exact ⟨rfl, rfl, rfl, fun j hj => by rw [e j hj, e' j hj]⟩
    | (have : j' = j := by
        rcases Nat.lt_trichotomy j' j with h | h | h
        · exact absurd j3' (j2 _ h)
        · exact h
        · exact absurd j3 (j2' _ h)
       subst this
       exact ⟨rfl, rfl, rfl, fun j hj => absurd hj (by omega)⟩)
    | (have : i' = i := by
        rcases Nat.lt_trichotomy i' i with h | h | h
        · exact absurd (i2 _ h) i3'
        · exact h
        · exact absurd (i2' _ h) i3
       subst this
       exact ⟨rfl, rfl, rfl, fun j hj => absurd hj (by omega)⟩)

end Go.Proofs.YthaomfabdghfjaaGreat

namespace Go.Proofs.YthaomfabdghfjaaGreat
open Go.RowKit

/-- The entries of the map of kinds. -/
def kindsE : Array MapEntry := #[⟨.string ⟨#[100, 101, 110, 115, 101]⟩, .func (.func 87) #[] #[], 0⟩, ⟨.string ⟨#[114, 101, 108, 117]⟩, .func (.func 88) #[] #[], 1⟩,
  ⟨.string ⟨#[108, 101, 97, 107, 121]⟩, .func (.func 89) #[] #[], 2⟩, ⟨.string ⟨#[97, 100, 100]⟩, .func (.func 90) #[] #[], 3⟩, ⟨.string ⟨#[109, 97, 120, 112, 111, 111, 108]⟩, .func (.func 91) #[] #[], 4⟩,
  ⟨.string ⟨#[99, 111, 110, 118]⟩, .func (.func 92) #[] #[], 5⟩, ⟨.string ⟨#[110, 111, 114, 109]⟩, .func (.func 93) #[] #[], 6⟩]

/-- Block m is the map of kinds. -/
def Kinds (w : World) (m : Nat) : Prop := w.heap[m]? = some (.map kindsE 7)

theorem Kinds.lt {w : World} {m : Nat} (h : Kinds w m) : m < w.heap.size := (Array.getElem?_eq_some_iff.1 h).1
theorem Kinds.keep {w w' : World} {m : Nat} (h : Kinds w m) (s : w.Since w.heap.size w') : Kinds w' m := by
  unfold Kinds
  rw [s.block m h.lt]
  exact h

/-- A new entry of a map that is keyed by strings. -/
theorem run_insert_new {P : Program} {w : World} {mty kt et : TypeId} {r clock : Nat} {es : Array MapEntry} {s : ByteArray} {val : Value} (hm : P.underlying mty = some (.map kt et)) (hk : P.underlying kt = some .string) (hb : w.heap[r]? = some (.map es clock)) (hf : Instr.findNow .string (.string s) es.toList 0 = some none) :
    ∃ w', (Instr.mapUpdate mty (.map (some r)) (.string s) val).run P w = .ok () w' ∧ w'.heap[r]? = some (.map (es.push { key := .string s, val := val, born := clock }) (clock + 1)) ∧ w'.heap.size = w.heap.size ∧ w'.os = w.os ∧ w'.tape = w.tape ∧ w'.output = w.output ∧ ∀ k, k ≠ r → w'.heap[k]? = w.heap[k]? := by
  refine ⟨{ w with heap := w.heap.setIfInBounds r (.map (es.push { key := .string s, val := val, born := clock }) (clock + 1)) }, ?_, (MapKept.heap_set hb).1, by simp, rfl, rfl, rfl, fun k hk => (MapKept.heap_set hb).2 k hk⟩
  have hc : (Instr.checkKey false 10000 kt (.string s)).run P w = .ok () w := MapKept.run_checkKey (k := .string s) hk (by simp [MapKept.IsKey]) false 9999
  simp [Instr.mapUpdate, run_underlying hm, MapKept.run_getObj_map hb, hc, MapKept.run_findKey hk hf, MapKept.run_setObj_map _ hb, Result.andThen]

/-- A look-up in a map that is keyed by strings. -/
theorem run_look_has {P : Program} {w : World} {mty kt et : TypeId} {r clock i : Nat} {es : Array MapEntry} {s : ByteArray} {val : Value} (hm : P.underlying mty = some (.map kt et)) (hk : P.underlying kt = some .string) (hb : w.heap[r]? = some (.map es clock)) (hf : Instr.findNow .string (.string s) es.toList 0 = some (some (i, val))) :
    (Instr.lookup mty (.map (some r)) (.string s) true).run P w = .ok (.tuple #[val, .bool true]) w := by
  have hc : (Instr.checkKey es.isEmpty 10000 kt (.string s)).run P w = .ok () w := MapKept.run_checkKey (k := .string s) hk (by simp [MapKept.IsKey]) _ 9999
  simp [Instr.lookup, run_underlying hm, MapKept.run_getObj_map hb, hc, MapKept.run_findKey hk hf, Result.andThen]
theorem run_look_no {P : Program} {w : World} {mty kt et : TypeId} {r clock : Nat} {es : Array MapEntry} {s : ByteArray} {z : Value} (hm : P.underlying mty = some (.map kt et)) (hk : P.underlying kt = some .string) (hb : w.heap[r]? = some (.map es clock)) (hf : Instr.findNow .string (.string s) es.toList 0 = some none) (hz : (zeroValue et).run P w = .ok z w) :
    (Instr.lookup mty (.map (some r)) (.string s) true).run P w = .ok (.tuple #[z, .bool false]) w := by
  have hc : (Instr.checkKey es.isEmpty 10000 kt (.string s)).run P w = .ok () w := MapKept.run_checkKey (k := .string s) hk (by simp [MapKept.IsKey]) _ 9999
  simp [Instr.lookup, run_underlying hm, MapKept.run_getObj_map hb, hc, MapKept.run_findKey hk hf, hz, Result.andThen]

set_option maxHeartbeats 1600000 in
set_option maxRecDepth 100000 in
/-- impl.allKinds lays the map of kinds. -/
theorem allKinds_any (w : World) : Calls Tryz.prog 53 #[] w fun e w' => e = .returned (.map (some w.heap.size)) ∧ Kinds w' w.heap.size ∧ w.Since w.heap.size w' := by
  have hmm := @run_makeMap Tryz.prog
  have hm : Tryz.prog.underlying 88 = some (.map 9 134) := by kernel_rfl
  have hk : Tryz.prog.underlying 9 = some .string := by kernel_rfl
  have b0 : (w.alloc (.map #[] 0)).heap[w.heap.size]? = some (.map #[] 0) := (MapKept.heap_alloc w _).1
  have s0 := (World.Since.refl w.heap.size w).alloc (Nat.le_refl _) (.map #[] 0)
  obtain ⟨w1, e1, b1, z1, o1, t1, p1, h1⟩ := run_insert_new (w := (w.alloc (.map #[] 0))) (s := ⟨#[100, 101, 110, 115, 101]⟩) (val := .func (.func 87) #[] #[]) hm hk b0 (by kernel_rfl)
  obtain ⟨w2, e2, b2, z2, o2, t2, p2, h2⟩ := run_insert_new (w := w1) (s := ⟨#[114, 101, 108, 117]⟩) (val := .func (.func 88) #[] #[]) hm hk b1 (by kernel_rfl)
  obtain ⟨w3, e3, b3, z3, o3, t3, p3, h3⟩ := run_insert_new (w := w2) (s := ⟨#[108, 101, 97, 107, 121]⟩) (val := .func (.func 89) #[] #[]) hm hk b2 (by kernel_rfl)
  obtain ⟨w4, e4, b4, z4, o4, t4, p4, h4⟩ := run_insert_new (w := w3) (s := ⟨#[97, 100, 100]⟩) (val := .func (.func 90) #[] #[]) hm hk b3 (by kernel_rfl)
  obtain ⟨w5, e5, b5, z5, o5, t5, p5, h5⟩ := run_insert_new (w := w4) (s := ⟨#[109, 97, 120, 112, 111, 111, 108]⟩) (val := .func (.func 91) #[] #[]) hm hk b4 (by kernel_rfl)
  obtain ⟨w6, e6, b6, z6, o6, t6, p6, h6⟩ := run_insert_new (w := w5) (s := ⟨#[99, 111, 110, 118]⟩) (val := .func (.func 92) #[] #[]) hm hk b5 (by kernel_rfl)
  obtain ⟨w7, e7, b7, z7, o7, t7, p7, h7⟩ := run_insert_new (w := w6) (s := ⟨#[110, 111, 114, 109]⟩) (val := .func (.func 93) #[] #[]) hm hk b6 (by kernel_rfl)
  have S : w.Since w.heap.size w7 := ⟨by rw [o7, o6, o5, o4, o3, o2, o1]; exact s0.os, by rw [t7, t6, t5, t4, t3, t2, t1]; exact s0.tape, by rw [p7, p6, p5, p4, p3, p2, p1]; exact s0.output, by rw [z7, z6, z5, z4, z3, z2, z1]; exact s0.size, fun k hk => by
    rw [h7 k (by omega), h6 k (by omega), h5 k (by omega), h4 k (by omega), h3 k (by omega), h2 k (by omega), h1 k (by omega)]; exact s0.block k hk⟩
  have K : Kinds w7 w.heap.size := b7
  clear h1 h2 h3 h4 h5 h6 h7 p1 p2 p3 p4 p5 p6 p7 t1 t2 t3 t4 t5 t6 t7 o1 o2 o3 o4 o5 o6 o7 z1 z2 z3 z4 z5 z6 z7 b0 b1 b2 b3 b4 b5 b6 b7 s0
  go_enter Tryz.func53, Tryz.ntmps53
  go_wp2
  go_ret
  exact ⟨rfl, K, S⟩

set_option maxHeartbeats 1600000 in
set_option maxRecDepth 100000 in
theorem become1 (v0 v1 v2 v3 v4 : Int) (a1 : Option Addr) (nv k1 : Nat) (w : World) : Calls Tryz.prog 87 #[.agg #[.int .i64 v0, .int .i64 v1, .int .i64 v2, .int .i64 v3, .int .i64 v4, .slice a1 nv k1]] w fun e w' => e = .returned (.iface 133 (.agg #[.int .i64 v0, .int .i64 v1, .int .i64 v2, .int .i64 v3, .int .i64 v4, .slice a1 nv k1])) ∧ w.Since w.heap.size w' := by
  have sA : w.Since w.heap.size (w.alloc (.cells #[.int .i64 v0, .int .i64 v1, .int .i64 v2, .int .i64 v3, .int .i64 v4, .slice a1 nv k1] 84)) := (World.Since.refl _ _).alloc (Nat.le_refl _) _
  go_enter Tryz.func87, Tryz.ntmps87
  go_wp2
  go_ret
  exact ⟨rfl, sA⟩

set_option maxHeartbeats 1600000 in
set_option maxRecDepth 100000 in
theorem become2 (v0 v1 v2 v3 v4 : Int) (a1 : Option Addr) (nv k1 : Nat) (w : World) : Calls Tryz.prog 88 #[.agg #[.int .i64 v0, .int .i64 v1, .int .i64 v2, .int .i64 v3, .int .i64 v4, .slice a1 nv k1]] w fun e w' => e = .returned (.iface 135 (.agg #[.int .i64 v0, .int .i64 v1, .int .i64 v2, .int .i64 v3, .int .i64 v4, .slice a1 nv k1])) ∧ w.Since w.heap.size w' := by
  have sA : w.Since w.heap.size (w.alloc (.cells #[.int .i64 v0, .int .i64 v1, .int .i64 v2, .int .i64 v3, .int .i64 v4, .slice a1 nv k1] 84)) := (World.Since.refl _ _).alloc (Nat.le_refl _) _
  go_enter Tryz.func88, Tryz.ntmps88
  go_wp2
  go_ret
  exact ⟨rfl, sA⟩

set_option maxHeartbeats 1600000 in
set_option maxRecDepth 100000 in
theorem become3 (v0 v1 v2 v3 v4 : Int) (a1 : Option Addr) (nv k1 : Nat) (w : World) : Calls Tryz.prog 89 #[.agg #[.int .i64 v0, .int .i64 v1, .int .i64 v2, .int .i64 v3, .int .i64 v4, .slice a1 nv k1]] w fun e w' => e = .returned (.iface 136 (.agg #[.int .i64 v0, .int .i64 v1, .int .i64 v2, .int .i64 v3, .int .i64 v4, .slice a1 nv k1])) ∧ w.Since w.heap.size w' := by
  have sA : w.Since w.heap.size (w.alloc (.cells #[.int .i64 v0, .int .i64 v1, .int .i64 v2, .int .i64 v3, .int .i64 v4, .slice a1 nv k1] 84)) := (World.Since.refl _ _).alloc (Nat.le_refl _) _
  go_enter Tryz.func89, Tryz.ntmps89
  go_wp2
  go_ret
  exact ⟨rfl, sA⟩

set_option maxHeartbeats 1600000 in
set_option maxRecDepth 100000 in
theorem become4 (v0 v1 v2 v3 v4 : Int) (a1 : Option Addr) (nv k1 : Nat) (w : World) : Calls Tryz.prog 90 #[.agg #[.int .i64 v0, .int .i64 v1, .int .i64 v2, .int .i64 v3, .int .i64 v4, .slice a1 nv k1]] w fun e w' => e = .returned (.iface 137 (.agg #[.int .i64 v0, .int .i64 v1, .int .i64 v2, .int .i64 v3, .int .i64 v4, .slice a1 nv k1])) ∧ w.Since w.heap.size w' := by
  have sA : w.Since w.heap.size (w.alloc (.cells #[.int .i64 v0, .int .i64 v1, .int .i64 v2, .int .i64 v3, .int .i64 v4, .slice a1 nv k1] 84)) := (World.Since.refl _ _).alloc (Nat.le_refl _) _
  go_enter Tryz.func90, Tryz.ntmps90
  go_wp2
  go_ret
  exact ⟨rfl, sA⟩

set_option maxHeartbeats 1600000 in
set_option maxRecDepth 100000 in
theorem become5 (v0 v1 v2 v3 v4 : Int) (a1 : Option Addr) (nv k1 : Nat) (w : World) : Calls Tryz.prog 91 #[.agg #[.int .i64 v0, .int .i64 v1, .int .i64 v2, .int .i64 v3, .int .i64 v4, .slice a1 nv k1]] w fun e w' => e = .returned (.iface 138 (.agg #[.int .i64 v0, .int .i64 v1, .int .i64 v2, .int .i64 v3, .int .i64 v4, .slice a1 nv k1])) ∧ w.Since w.heap.size w' := by
  have sA : w.Since w.heap.size (w.alloc (.cells #[.int .i64 v0, .int .i64 v1, .int .i64 v2, .int .i64 v3, .int .i64 v4, .slice a1 nv k1] 84)) := (World.Since.refl _ _).alloc (Nat.le_refl _) _
  go_enter Tryz.func91, Tryz.ntmps91
  go_wp2
  go_ret
  exact ⟨rfl, sA⟩

set_option maxHeartbeats 1600000 in
set_option maxRecDepth 100000 in
theorem become6 (v0 v1 v2 v3 v4 : Int) (a1 : Option Addr) (nv k1 : Nat) (w : World) : Calls Tryz.prog 92 #[.agg #[.int .i64 v0, .int .i64 v1, .int .i64 v2, .int .i64 v3, .int .i64 v4, .slice a1 nv k1]] w fun e w' => e = .returned (.iface 139 (.agg #[.int .i64 v0, .int .i64 v1, .int .i64 v2, .int .i64 v3, .int .i64 v4, .slice a1 nv k1])) ∧ w.Since w.heap.size w' := by
  have sA : w.Since w.heap.size (w.alloc (.cells #[.int .i64 v0, .int .i64 v1, .int .i64 v2, .int .i64 v3, .int .i64 v4, .slice a1 nv k1] 84)) := (World.Since.refl _ _).alloc (Nat.le_refl _) _
  go_enter Tryz.func92, Tryz.ntmps92
  go_wp2
  go_ret
  exact ⟨rfl, sA⟩

set_option maxHeartbeats 1600000 in
set_option maxRecDepth 100000 in
theorem become7 (v0 v1 v2 v3 v4 : Int) (a1 : Option Addr) (nv k1 : Nat) (w : World) : Calls Tryz.prog 93 #[.agg #[.int .i64 v0, .int .i64 v1, .int .i64 v2, .int .i64 v3, .int .i64 v4, .slice a1 nv k1]] w fun e w' => e = .returned (.iface 140 (.agg #[.int .i64 v0, .int .i64 v1, .int .i64 v2, .int .i64 v3, .int .i64 v4, .slice a1 nv k1])) ∧ w.Since w.heap.size w' := by
  have sA : w.Since w.heap.size (w.alloc (.cells #[.int .i64 v0, .int .i64 v1, .int .i64 v2, .int .i64 v3, .int .i64 v4, .slice a1 nv k1] 84)) := (World.Since.refl _ _).alloc (Nat.le_refl _) _
  go_enter Tryz.func93, Tryz.ntmps93
  go_wp2
  go_ret
  exact ⟨rfl, sA⟩

set_option maxHeartbeats 1600000 in
set_option maxRecDepth 100000 in
theorem wordOf_no (z : Int) (w : World) (h : z < 1 ∨ 7 < z) (_hi : I64 z) : Calls Tryz.prog 99 #[.int .i64 z] w fun e w' => e = .returned (.string ⟨#[]⟩) ∧ w.Since w.heap.size w' := by
  have h1 : ¬ z = 1 := by omega
  have h2 : ¬ z = 2 := by omega
  have h3 : ¬ z = 3 := by omega
  have h4 : ¬ z = 4 := by omega
  have h5 : ¬ z = 5 := by omega
  have h6 : ¬ z = 6 := by omega
  have h7 : ¬ z = 7 := by omega
  clear h _hi
  go_enter Tryz.func99, Tryz.ntmps99
  go_wp2
  go_ret
  exact ⟨rfl, World.Since.refl _ _⟩

set_option maxHeartbeats 1600000 in
set_option maxRecDepth 100000 in
theorem wordOf1 (w : World) : Calls Tryz.prog 99 #[.int .i64 1] w fun e w' => e = .returned (.string ⟨#[100, 101, 110, 115, 101]⟩) ∧ w.Since w.heap.size w' := by
  go_enter Tryz.func99, Tryz.ntmps99
  go_wp2
  go_ret
  exact ⟨rfl, World.Since.refl _ _⟩

set_option maxHeartbeats 1600000 in
set_option maxRecDepth 100000 in
theorem wordOf2 (w : World) : Calls Tryz.prog 99 #[.int .i64 2] w fun e w' => e = .returned (.string ⟨#[114, 101, 108, 117]⟩) ∧ w.Since w.heap.size w' := by
  go_enter Tryz.func99, Tryz.ntmps99
  go_wp2
  go_ret
  exact ⟨rfl, World.Since.refl _ _⟩

set_option maxHeartbeats 1600000 in
set_option maxRecDepth 100000 in
theorem wordOf3 (w : World) : Calls Tryz.prog 99 #[.int .i64 3] w fun e w' => e = .returned (.string ⟨#[108, 101, 97, 107, 121]⟩) ∧ w.Since w.heap.size w' := by
  go_enter Tryz.func99, Tryz.ntmps99
  go_wp2
  go_ret
  exact ⟨rfl, World.Since.refl _ _⟩

set_option maxHeartbeats 1600000 in
set_option maxRecDepth 100000 in
theorem wordOf4 (w : World) : Calls Tryz.prog 99 #[.int .i64 4] w fun e w' => e = .returned (.string ⟨#[97, 100, 100]⟩) ∧ w.Since w.heap.size w' := by
  go_enter Tryz.func99, Tryz.ntmps99
  go_wp2
  go_ret
  exact ⟨rfl, World.Since.refl _ _⟩

set_option maxHeartbeats 1600000 in
set_option maxRecDepth 100000 in
theorem wordOf5 (w : World) : Calls Tryz.prog 99 #[.int .i64 5] w fun e w' => e = .returned (.string ⟨#[109, 97, 120, 112, 111, 111, 108]⟩) ∧ w.Since w.heap.size w' := by
  go_enter Tryz.func99, Tryz.ntmps99
  go_wp2
  go_ret
  exact ⟨rfl, World.Since.refl _ _⟩

set_option maxHeartbeats 1600000 in
set_option maxRecDepth 100000 in
theorem wordOf6 (w : World) : Calls Tryz.prog 99 #[.int .i64 6] w fun e w' => e = .returned (.string ⟨#[99, 111, 110, 118]⟩) ∧ w.Since w.heap.size w' := by
  go_enter Tryz.func99, Tryz.ntmps99
  go_wp2
  go_ret
  exact ⟨rfl, World.Since.refl _ _⟩

set_option maxHeartbeats 1600000 in
set_option maxRecDepth 100000 in
theorem wordOf7 (w : World) : Calls Tryz.prog 99 #[.int .i64 7] w fun e w' => e = .returned (.string ⟨#[110, 111, 114, 109]⟩) ∧ w.Since w.heap.size w' := by
  go_enter Tryz.func99, Tryz.ntmps99
  go_wp2
  go_ret
  exact ⟨rfl, World.Since.refl _ _⟩

end Go.Proofs.YthaomfabdghfjaaGreat
