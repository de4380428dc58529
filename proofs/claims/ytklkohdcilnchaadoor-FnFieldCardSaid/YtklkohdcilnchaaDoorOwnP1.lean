import Derived.Test.YtklkohdcilnchaaDoorG1P8
import Derived.Laws.AppendOwnNone
import Derived.Test.YtklkohdcilnchaaDoorG1P6
import Derived.Test.YtklkohdcilnchaaDoorG1P5
import Derived.Test.YtklkohdcilnchaaDoorG1P7
import Derived.Test.YtklkohdcilnchaaDoorG1P3
import Derived.Test.YtklkohdcilnchaaDoorG1P4
namespace Go.Proofs.YtklkohdcilnchaaDoor
open Go.RowKit

/-- An append to a row of one's own, from a list that may be nil. -/
theorem wpList_append_own_opt {P : Program} (w : World) {ops : Array Oper} {rest : List Oper} {o : Oper} {a : Act} {Q : Exit → Act → World → Prop} (hgd : o.guard = none) (s x : Operand) (t : TypeId)
    (ho : o.op = .call { callee := .builtin .append, args := #[s, x], argTypes := #[t, t] })
    (base : Nat) (e : TypeId) (i : TypeInfo) (z : Value) (size bytes : Nat) (ht : P.underlying t = some (.slice e)) (hi : P.info? e = some i) (hz : i.zero = some z)
    (hsize : i.size = size) (hby : i.bytes = bytes) (hzs : z.cells.size = size) (hsz : 0 < size)
    (v : Value) (n : Nat) (xs : List Value) (hs : a.eval s = v) (hown : w.ownsRow base e size v n xs)
    (q : Option Addr) (m c : Nat) (news : List Value) (hx : a.eval x = .slice q m c) (hl : news.length = m * size) (hq : q = none → m = 0 ∧ c = 0) (hnews : ∀ ad, q = some ad → ∀ j u, news[j]? = some u → w.cell? (ad.add j) = some u) (h1 : ∀ u ∈ news, u.oneCell' = true)
    (h63 : n + m ≤ maxLen) (hbytes : (n + m) * bytes ≤ 140737488355328) (hbase : base ≤ w.heap.size)
    (h : ∀ v' w', w'.ownsRow base e size v' (n + m) (xs ++ news) → w.grownBy w' v.ownBlock → (v' = .slice none 0 0 ↔ v = .slice none 0 0 ∧ m = 0) → wpList P ops Q rest (a.put o.dst v') w') : wpList P ops Q (o :: rest) a w := by
  rcases q with _ | ad
  · obtain ⟨rfl, rfl⟩ := hq rfl
    obtain rfl : news = [] := List.length_eq_zero_iff.mp (by omega)
    refine wpList_append_own_none hgd s x t ho base e i size ht hi v n xs hs hown hx (h v w ?_ ?_ ?_)
    · rw [List.append_nil]; exact hown
    · exact ⟨rfl, rfl, rfl, Nat.le_refl _, fun _ _ _ => rfl⟩
    · simp
  · exact wpList_append_own w hgd s x t ho base e i z size bytes ht hi hz hsize hby hzs hsz v n xs hs hown ad m c news hx hl (hnews ad rfl) h1 h63 hbytes hbase h

theorem limbs_newsO {w : World} {a : Option Addr} {b off n : Nat} {X : Nat → Nat} (h : Limbs w a b off n X) : ∀ ad, a = some ad → ∀ j u, (ll X n)[j]? = some u → w.cell? (ad.add j) = some u := by
  intro ad e
  subst e
  exact limbs_news h

set_option maxHeartbeats 1600000 in
set_option maxRecDepth 100000 in
/-- l1Copy of a Rat whose lists are not nil: nor are the answer's. -/
theorem l1Copy_opt (f : Bool) (x y : Option Addr) (ba oa n ca bb ob m cb : Nat) (X Y : Nat → Nat) (w : World) (hn : n ≤ 1048576) (hm : m ≤ 1048576) (hnc : n ≤ ca) (hmc : m ≤ cb) (hxc : x = none → ca = 0) (hyc : y = none → cb = 0) (hX : Limbs w x ba oa n X) (hY : Limbs w y bb ob m Y) :
    Calls Tryd.prog 57 #[.agg #[.bool f, .slice x n ca, .slice y m cb]] w fun e w' => ∃ g h c1 c2, e = .returned (.agg #[.bool f, .slice (some ⟨g, 0, none⟩) n c1, .slice (some ⟨h, 0, none⟩) m c2]) ∧ n ≤ c1 ∧ m ≤ c2 ∧
      Limbs w' (some ⟨g, 0, none⟩) g 0 n X ∧ Limbs w' (some ⟨h, 0, none⟩) h 0 m Y ∧ (0 < n → ∀ o, w'.frozen? ⟨g, o, none⟩ = false) ∧ (0 < m → ∀ o, w'.frozen? ⟨h, o, none⟩ = false) ∧ w.heap.size ≤ g ∧ g < h ∧ h < w'.heap.size ∧ w.Since w.heap.size w' := by
  obtain ⟨i0, hi, hz0, hz1, hz2⟩ := info_parts Tryd.info43
  have sA : w.Since w.heap.size ((w.alloc (.cells #[.bool f, .slice x n ca, .slice y m cb] 25)).alloc (.cells #[.bool false, .slice none 0 0, .slice none 0 0] 25)) := ((World.Since.refl _ _).alloc (Nat.le_refl _) _).alloc (by simp) _
  have oA : Box3 ((w.alloc (.cells #[.bool f, .slice x n ca, .slice y m cb] 25)).alloc (.cells #[.bool false, .slice none 0 0, .slice none 0 0] 25)) w.heap.size (.bool f) (.slice x n ca) (.slice y m cb) := (Box3.new w _ _ _ _).keep ((World.Since.refl _ _).alloc (Nat.le_refl _) _)
  have tB : ((w.alloc (.cells #[.bool f, .slice x n ca, .slice y m cb] 25)).alloc (.cells #[.bool false, .slice none 0 0, .slice none 0 0] 25)).Since ((w.alloc (.cells #[.bool f, .slice x n ca, .slice y m cb] 25)).alloc (.cells #[.bool false, .slice none 0 0, .slice none 0 0] 25)).heap.size (((w.alloc (.cells #[.bool f, .slice x n ca, .slice y m cb] 25)).alloc (.cells #[.bool false, .slice none 0 0, .slice none 0 0] 25)).alloc (.cells #[] 43)) := (World.Since.refl _ _).alloc (Nat.le_refl _) _
  have SB := sA.trans (sinceMono tB sA.size)
  have X1 := hX.keep SB
  have own1 := World.ownsRow_made (e := 43) (size := 1) ((w.alloc (.cells #[.bool f, .slice x n ca, .slice y m cb] 25)).alloc (.cells #[.bool false, .slice none 0 0, .slice none 0 0] 25)) #[] 0 (Nat.le_refl _) (by decide) rfl
  have zA : ((w.alloc (.cells #[.bool f, .slice x n ca, .slice y m cb] 25)).alloc (.cells #[.bool false, .slice none 0 0, .slice none 0 0] 25)).heap.size = w.heap.size + 1 + 1 := by simp
  have own0 := World.ownsRow_made (e := 43) (size := 1) ((w.alloc (.cells #[.bool f, .slice x n ca, .slice y m cb] 25)).alloc (.cells #[.bool false, .slice none 0 0, .slice none 0 0] 25)) #[] 0 (Nat.le_refl _) (by decide) rfl
  rw [zA] at own1
  have zA' := zA
  have rA : Box3 ((w.alloc (.cells #[.bool f, .slice x n ca, .slice y m cb] 25)).alloc (.cells #[.bool false, .slice none 0 0, .slice none 0 0] 25)) (w.heap.size + 1) (.bool false) (.slice none 0 0) (.slice none 0 0) := by
    have := Box3.new (w.alloc (.cells #[.bool f, .slice x n ca, .slice y m cb] 25)) (.bool false) (.slice none 0 0) (.slice none 0 0) 25
    simpa using this
  have HZA := hide zA'
  clear zA zA'
  go_enter Tryd.func57, Tryd.ntmps57
  go_wp2_with (at_builtin; refine wpList_append_own_opt _ rfl _ _ 23 rfl (w.heap.size + 1 + 1) 43 i0 (.int .u32 0) 1 4 Tryd.underlying23 hi hz0 hz1 hz2 rfl (by decide) _ 0 [] rfl own1 x n ca (ll X n) rfl (by rw [ll_len]; omega) (fun e => by have := hxc e; omega) (limbs_newsO X1) (ll_one X n) (by unfold maxLen; omega) (by omega) (by simp) ?_)
  intro v1 w2 own2 grow2 nn2
  have tC : ((w.alloc (.cells #[.bool f, .slice x n ca, .slice y m cb] 25)).alloc (.cells #[.bool false, .slice none 0 0, .slice none 0 0] 25)).Since ((w.alloc (.cells #[.bool f, .slice x n ca, .slice y m cb] 25)).alloc (.cells #[.bool false, .slice none 0 0, .slice none 0 0] 25)).heap.size w2 := tB.grown grow2 (Nat.le_trans (Nat.le_refl _) tB.size) (fun k hk => by
    have := own0.lt k (by rw [HZA.out]; exact hk)
    exact this.1)
  have SC : w.Since w.heap.size w2 := sA.trans (sinceMono tC sA.size)
  have o2 := oA.keep tC
  have r2 := rA.keep tC
  have HN := hide nn2
  clear grow2 own1 nn2
  generalize ((w.alloc (.cells #[.bool f, .slice x n ca, .slice y m cb] 25)).alloc (.cells #[.bool false, .slice none 0 0, .slice none 0 0] 25)) = wA at *
  have tD : w2.Since w2.heap.size (w2.alloc (.cells #[] 43)) := (World.Since.refl _ _).alloc (Nat.le_refl _) _
  have SD := SC.trans (sinceMono tD SC.size)
  have Y1 := hY.keep SD
  have own3 := World.ownsRow_made (e := 43) (size := 1) w2 #[] 0 (Nat.le_refl _) (by decide) rfl
  have o3 := o2.keep tD
  have k2 := o3.c2
  go_wp2_with (at_builtin; refine wpList_append_own_opt _ rfl _ _ 23 rfl w2.heap.size 43 i0 (.int .u32 0) 1 4 Tryd.underlying23 hi hz0 hz1 hz2 rfl (by decide) _ 0 [] rfl own3 y m cb (ll Y m) rfl (by rw [ll_len]; omega) (fun e => by have := hyc e; omega) (limbs_newsO Y1) (ll_one Y m) (by unfold maxLen; omega) (by omega) tD.size ?_)
  intro v3 w4 own4 grow4 nn4
  have tE : w2.Since w2.heap.size w4 := tD.grown grow4 tD.size (fun k hk => (own3.lt k hk).1)
  have SE := SC.trans (sinceMono tE SC.size)
  have o4 := o2.keep tE
  have r4 := r2.keep tE
  obtain ⟨g1, c1, rfl, m1, b1, l1, L1, F1⟩ := own_limbs_some own2 HN.out
  obtain ⟨g2, c2, rfl, m2, b2, l2, L2, F2⟩ := own_limbs_some own4 nn4
  clear grow4 own3 nn4 k2 o3
  have j0 := o4.c0
  have u0 := r4.c0
  have u1 := r4.c1
  have u2 := r4.c2
  have uf0 := r4.f 0
  have uf1 := r4.f 1
  have uf2 := r4.f 2
  go_wp2
  have zC := tC.size
  have zE := tE.size
  have rC := ((r4.set0 (.bool f)).set1 (.slice (some ⟨g1, 0, none⟩) n c1)).set2 (.slice (some ⟨g2, 0, none⟩) m c2)
  refine bodyPost_ret (results_box3 rfl _ _ _ _ _ _ rfl rC) rfl ?_
  have M : Marked w4 _ (w.heap.size + 1) := (((Marked.refl w4 _).setCell 0 (.bool f)).setCell 1 (.slice (some ⟨g1, 0, none⟩) n c1)).setCell 2 (.slice (some ⟨g2, 0, none⟩) m c2)
  have hz := HZA.out
  have zM := M.size
  refine ⟨g1, g2, c1, c2, rfl, m1, m2, (L1.keep tE).marked M (fun _ => by omega), L2.marked M (fun _ => by omega), fun _ o => ?_, fun _ o => ?_, by omega, by omega, by omega, SE.trans (M.since (by omega))⟩
  · rw [M.frozenO (a := ⟨g1, o, none⟩) (by show g1 ≠ _; omega), tE.frozen (a := ⟨g1, o, none⟩) l1]; exact F1 o
  · rw [M.frozenO (a := ⟨g2, o, none⟩) (by show g2 ≠ _; omega)]; exact F2 o

set_option maxHeartbeats 1600000 in
set_option maxRecDepth 100000 in
theorem l1Neg_opt (f : Bool) (x y : Option Addr) (ba oa n ca bb ob m cb : Nat) (X Y : Nat → Nat) (w : World) (hn : n ≤ 1048576) (hm : m ≤ 1048576) (hnc : n ≤ ca) (hmc : m ≤ cb) (hxc : x = none → ca = 0) (hyc : y = none → cb = 0) (hX : Limbs w x ba oa n X) (hY : Limbs w y bb ob m Y) :
    Calls Tryd.prog 58 #[.agg #[.bool f, .slice x n ca, .slice y m cb]] w fun e w' => ∃ g h c1 c2, e = .returned (.agg #[.bool (!f && decide (0 < n)), .slice (some ⟨g, 0, none⟩) n c1, .slice (some ⟨h, 0, none⟩) m c2]) ∧ n ≤ c1 ∧ m ≤ c2 ∧
      Limbs w' (some ⟨g, 0, none⟩) g 0 n X ∧ Limbs w' (some ⟨h, 0, none⟩) h 0 m Y ∧ w.heap.size ≤ g ∧ g < h ∧ h < w'.heap.size ∧ w.Since w.heap.size w' := by
  have sA : w.Since w.heap.size ((w.alloc (.cells #[.bool f, .slice x n ca, .slice y m cb] 25)).alloc (.cells #[.bool false, .slice none 0 0, .slice none 0 0] 25)) := ((World.Since.refl _ _).alloc (Nat.le_refl _) _).alloc (by simp) _
  have oA : Box3 ((w.alloc (.cells #[.bool f, .slice x n ca, .slice y m cb] 25)).alloc (.cells #[.bool false, .slice none 0 0, .slice none 0 0] 25)) w.heap.size (.bool f) (.slice x n ca) (.slice y m cb) := (Box3.new w _ _ _ _).keep ((World.Since.refl _ _).alloc (Nat.le_refl _) _)
  have rA : Box3 ((w.alloc (.cells #[.bool f, .slice x n ca, .slice y m cb] 25)).alloc (.cells #[.bool false, .slice none 0 0, .slice none 0 0] 25)) (w.heap.size + 1) (.bool false) (.slice none 0 0) (.slice none 0 0) := by
    have := Box3.new (w.alloc (.cells #[.bool f, .slice x n ca, .slice y m cb] 25)) (.bool false) (.slice none 0 0) (.slice none 0 0) 25
    simpa using this
  go_enter Tryd.func58, Tryd.ntmps58
  go_wp2_with fail
  generalize ((w.alloc (.cells #[.bool f, .slice x n ca, .slice y m cb] 25)).alloc (.cells #[.bool false, .slice none 0 0, .slice none 0 0] 25)) = w1 at *
  refine (l1Copy_opt f x y ba oa n ca bb ob m cb X Y w1 hn hm hnc hmc hxc hyc (hX.keep sA) (hY.keep sA)).mono ?_
  rintro e w2 ⟨g, h, c1, c2, rfl, m1, m2, L1, L2, -, -, b1, b2, b3, s2⟩
  have S2 : w.Since w.heap.size w2 := sA.trans (sinceMono s2 sA.size)
  have z1 := rA.lt
  have t3 : w2.Since w2.heap.size (w2.alloc (.cells #[.bool f, .slice (some ⟨g, 0, none⟩) n c1, .slice (some ⟨h, 0, none⟩) m c2] 25)) := (World.Since.refl _ _).alloc (Nat.le_refl _) _
  have q3 := Box3.new w2 (.bool f) (.slice (some ⟨g, 0, none⟩) n c1) (.slice (some ⟨h, 0, none⟩) m c2) 25
  have o3 := (oA.keep s2).keep t3
  have r3 := (rA.keep s2).keep t3
  have k0 := o3.c0
  have k1 := o3.c1
  have j0 := q3.c0
  have j1 := q3.c1
  have j2 := q3.c2
  have jf := q3.f 0
  have hne : w.heap.size ≠ w2.heap.size := by omega
  have hne2 : w.heap.size + 1 ≠ w2.heap.size := by omega
  have r2 := rA.keep s2
  cases f
  · by_cases hn0 : 0 < n
    · have hgt : (0 : Int) < (n : Int) := by omega
      have t4 : w2.Since w2.heap.size (w2.alloc (.cells #[.bool true, .slice (some ⟨g, 0, none⟩) n c1, .slice (some ⟨h, 0, none⟩) m c2] 25)) := (World.Since.refl _ _).alloc (Nat.le_refl _) _
      have q4 := Box3.new w2 (.bool true) (.slice (some ⟨g, 0, none⟩) n c1) (.slice (some ⟨h, 0, none⟩) m c2) 25
      have r4 := r2.keep t4
      have S4 := S2.trans (sinceMono t4 S2.size)
      have i0 := q4.c0
      have i1 := q4.c1
      have i2 := q4.c2
      have u0 := r4.c0
      have u1 := r4.c1
      have u2 := r4.c2
      have uf0 := r4.f 0
      have uf1 := r4.f 1
      have uf2 := r4.f 2
      go_wp2
      have rC := ((r4.set0 (.bool true)).set1 (.slice (some ⟨g, 0, none⟩) n c1)).set2 (.slice (some ⟨h, 0, none⟩) m c2)
      refine bodyPost_ret (results_box3 rfl _ _ _ _ _ _ rfl rC) rfl ?_
      have M5 : Marked (w2.alloc (.cells #[.bool true, .slice (some ⟨g, 0, none⟩) n c1, .slice (some ⟨h, 0, none⟩) m c2] 25)) _ (w.heap.size + 1) := (((Marked.refl (w2.alloc (.cells #[.bool true, .slice (some ⟨g, 0, none⟩) n c1, .slice (some ⟨h, 0, none⟩) m c2] 25)) _).setCell 0 (.bool true)).setCell 1 (.slice (some ⟨g, 0, none⟩) n c1)).setCell 2 (.slice (some ⟨h, 0, none⟩) m c2)
      have zM := M5.size
      have zq : w2.heap.size ≤ (w2.alloc (.cells #[.bool true, .slice (some ⟨g, 0, none⟩) n c1, .slice (some ⟨h, 0, none⟩) m c2] 25)).heap.size := t4.size
      exact ⟨g, h, c1, c2, by simp [hn0], m1, m2, (L1.keep t4).marked M5 (fun _ => by omega), (L2.keep t4).marked M5 (fun _ => by omega), by omega, by omega, by omega, S4.trans (M5.since (by omega))⟩
    · have hgt : ¬ (0 : Int) < (n : Int) := by omega
      have t4 : w2.Since w2.heap.size (w2.alloc (.cells #[.bool false, .slice (some ⟨g, 0, none⟩) n c1, .slice (some ⟨h, 0, none⟩) m c2] 25)) := (World.Since.refl _ _).alloc (Nat.le_refl _) _
      have q4 := Box3.new w2 (.bool false) (.slice (some ⟨g, 0, none⟩) n c1) (.slice (some ⟨h, 0, none⟩) m c2) 25
      have r4 := r2.keep t4
      have S4 := S2.trans (sinceMono t4 S2.size)
      have i0 := q4.c0
      have i1 := q4.c1
      have i2 := q4.c2
      have u0 := r4.c0
      have u1 := r4.c1
      have u2 := r4.c2
      have uf0 := r4.f 0
      have uf1 := r4.f 1
      have uf2 := r4.f 2
      go_wp2
      have rC := ((r4.set0 (.bool false)).set1 (.slice (some ⟨g, 0, none⟩) n c1)).set2 (.slice (some ⟨h, 0, none⟩) m c2)
      refine bodyPost_ret (results_box3 rfl _ _ _ _ _ _ rfl rC) rfl ?_
      have M5 : Marked (w2.alloc (.cells #[.bool false, .slice (some ⟨g, 0, none⟩) n c1, .slice (some ⟨h, 0, none⟩) m c2] 25)) _ (w.heap.size + 1) := (((Marked.refl (w2.alloc (.cells #[.bool false, .slice (some ⟨g, 0, none⟩) n c1, .slice (some ⟨h, 0, none⟩) m c2] 25)) _).setCell 0 (.bool false)).setCell 1 (.slice (some ⟨g, 0, none⟩) n c1)).setCell 2 (.slice (some ⟨h, 0, none⟩) m c2)
      have zM := M5.size
      have zq : w2.heap.size ≤ (w2.alloc (.cells #[.bool false, .slice (some ⟨g, 0, none⟩) n c1, .slice (some ⟨h, 0, none⟩) m c2] 25)).heap.size := t4.size
      exact ⟨g, h, c1, c2, by simp [hn0], m1, m2, (L1.keep t4).marked M5 (fun _ => by omega), (L2.keep t4).marked M5 (fun _ => by omega), by omega, by omega, by omega, S4.trans (M5.since (by omega))⟩
  · have t4 : w2.Since w2.heap.size (w2.alloc (.cells #[.bool false, .slice (some ⟨g, 0, none⟩) n c1, .slice (some ⟨h, 0, none⟩) m c2] 25)) := (World.Since.refl _ _).alloc (Nat.le_refl _) _
    have q4 := Box3.new w2 (.bool false) (.slice (some ⟨g, 0, none⟩) n c1) (.slice (some ⟨h, 0, none⟩) m c2) 25
    have r4 := r2.keep t4
    have S4 := S2.trans (sinceMono t4 S2.size)
    have i0 := q4.c0
    have i1 := q4.c1
    have i2 := q4.c2
    have u0 := r4.c0
    have u1 := r4.c1
    have u2 := r4.c2
    have uf0 := r4.f 0
    have uf1 := r4.f 1
    have uf2 := r4.f 2
    go_wp2
    have rC := ((r4.set0 (.bool false)).set1 (.slice (some ⟨g, 0, none⟩) n c1)).set2 (.slice (some ⟨h, 0, none⟩) m c2)
    refine bodyPost_ret (results_box3 rfl _ _ _ _ _ _ rfl rC) rfl ?_
    have M5 : Marked (w2.alloc (.cells #[.bool false, .slice (some ⟨g, 0, none⟩) n c1, .slice (some ⟨h, 0, none⟩) m c2] 25)) _ (w.heap.size + 1) := (((Marked.refl (w2.alloc (.cells #[.bool false, .slice (some ⟨g, 0, none⟩) n c1, .slice (some ⟨h, 0, none⟩) m c2] 25)) _).setCell 0 (.bool false)).setCell 1 (.slice (some ⟨g, 0, none⟩) n c1)).setCell 2 (.slice (some ⟨h, 0, none⟩) m c2)
    have zM := M5.size
    have zq : w2.heap.size ≤ (w2.alloc (.cells #[.bool false, .slice (some ⟨g, 0, none⟩) n c1, .slice (some ⟨h, 0, none⟩) m c2] 25)).heap.size := t4.size
    exact ⟨g, h, c1, c2, rfl, m1, m2, (L1.keep t4).marked M5 (fun _ => by omega), (L2.keep t4).marked M5 (fun _ => by omega), by omega, by omega, by omega, S4.trans (M5.since (by omega))⟩

set_option maxHeartbeats 3200000 in
set_option maxRecDepth 100000 in
theorem l1Add_zeroOpt (f f' : Bool) (a b a' b' : Option Addr) (ba oa n ca bb ob m cb ba' oa' n' ca' bb' ob' m' cb' : Nat) (X Y X' Y' : Nat → Nat) (w : World) (hn : n + n' + m + m' ≤ 1048576)
    (R : RIn w a b ba oa n ca bb ob m cb X Y) (R' : RIn w a' b' ba' oa' n' ca' bb' ob' m' cb' X' Y') (ok : ratOkB f X n Y m = true) (ok' : ratOkB f' X' n' Y' m' = true) (h0 : n = 0 ∨ n' = 0) :
    Calls Tryd.prog 55 #[.agg #[.bool f, .slice a n ca, .slice b m cb], .agg #[.bool f', .slice a' n' ca', .slice b' m' cb']] w fun e w' => ∃ v, e = .returned v ∧
      RatV w' v (sumNeg f f' (lv X n * lv Y' m') (lv X' n' * lv Y m) && sumTop f f' (lv X n * lv Y' m') (lv X' n' * lv Y m) != 0) (sumTop f f' (lv X n * lv Y' m') (lv X' n' * lv Y m) / Nat.gcd (sumTop f f' (lv X n * lv Y' m') (lv X' n' * lv Y m)) (lv Y m * lv Y' m')) ((lv Y m * lv Y' m') / Nat.gcd (sumTop f f' (lv X n * lv Y' m') (lv X' n' * lv Y m)) (lv Y m * lv Y' m')) w.heap.size 4194304 ∧ w.Since w.heap.size w' := by
  have hne2 : w.heap.size + 1 + 1 ≠ w.heap.size := by omega
  have sA : w.Since w.heap.size (((w.alloc (.cells #[.bool f, .slice a n ca, .slice b m cb] 25)).alloc (.cells #[.bool f', .slice a' n' ca', .slice b' m' cb'] 25)).alloc (.cells #[.bool false, .slice none 0 0, .slice none 0 0] 25)) := (((World.Since.refl _ _).alloc (Nat.le_refl _) _).alloc (by simp) _).alloc (by simp; omega) _
  have zA : (((w.alloc (.cells #[.bool f, .slice a n ca, .slice b m cb] 25)).alloc (.cells #[.bool f', .slice a' n' ca', .slice b' m' cb'] 25)).alloc (.cells #[.bool false, .slice none 0 0, .slice none 0 0] 25)).heap.size = w.heap.size + 1 + 1 + 1 := by simp
  have oA : Box3 (((w.alloc (.cells #[.bool f, .slice a n ca, .slice b m cb] 25)).alloc (.cells #[.bool f', .slice a' n' ca', .slice b' m' cb'] 25)).alloc (.cells #[.bool false, .slice none 0 0, .slice none 0 0] 25)) w.heap.size (.bool f) (.slice a n ca) (.slice b m cb) := ((Box3.new w _ _ _ _).keep ((World.Since.refl _ _).alloc (Nat.le_refl _) _)).keep ((World.Since.refl _ _).alloc (Nat.le_refl _) _)
  have pA : Box3 (((w.alloc (.cells #[.bool f, .slice a n ca, .slice b m cb] 25)).alloc (.cells #[.bool f', .slice a' n' ca', .slice b' m' cb'] 25)).alloc (.cells #[.bool false, .slice none 0 0, .slice none 0 0] 25)) (w.heap.size + 1) (.bool f') (.slice a' n' ca') (.slice b' m' cb') := by
    have := (Box3.new (w.alloc (.cells #[.bool f, .slice a n ca, .slice b m cb] 25)) (.bool f') (.slice a' n' ca') (.slice b' m' cb') 25).keep ((World.Since.refl _ _).alloc (Nat.le_refl _) (.cells #[.bool false, .slice none 0 0, .slice none 0 0] 25))
    simpa using this
  have rA : Box3 (((w.alloc (.cells #[.bool f, .slice a n ca, .slice b m cb] 25)).alloc (.cells #[.bool f', .slice a' n' ca', .slice b' m' cb'] 25)).alloc (.cells #[.bool false, .slice none 0 0, .slice none 0 0] 25)) (w.heap.size + 1 + 1) (.bool false) (.slice none 0 0) (.slice none 0 0) := by
    have := Box3.new ((w.alloc (.cells #[.bool f, .slice a n ca, .slice b m cb] 25)).alloc (.cells #[.bool f', .slice a' n' ca', .slice b' m' cb'] 25)) (.bool false) (.slice none 0 0) (.slice none 0 0) 25
    simpa using this
  by_cases h1 : n = 0
  · have hZ := sum_zeroA ok ok' h1
    rw [hZ.1, hZ.2.1, hZ.2.2]
    clear hZ ok ok' h0
    subst h1
    have k0 := pA.c0
    have k1 := pA.c1
    have k2 := pA.c2
    go_enter Tryd.func55, Tryd.ntmps55
    go_wp2_with fail
    generalize (((w.alloc (.cells #[.bool f, .slice a 0 ca, .slice b m cb] 25)).alloc (.cells #[.bool f', .slice a' n' ca', .slice b' m' cb'] 25)).alloc (.cells #[.bool false, .slice none 0 0, .slice none 0 0] 25)) = w1 at *
    refine (l1Copy_opt f' a' b' ba' oa' n' ca' bb' ob' m' cb' X' Y' w1 (by omega) (by omega) R'.nc R'.mc R'.ac R'.bc (R'.keep sA).LX (R'.keep sA).LY).mono ?_
    rintro e w6 ⟨g6, h6, c1, c2, rfl, v1, v2, N6, D6, FN, FD, y1, y2, y3, s6⟩
    have rB := rA.keep s6
    have S6 : w.Since w.heap.size w6 := sA.trans (sinceMono s6 sA.size)
    have u0 := rB.c0
    have u1 := rB.c1
    have u2 := rB.c2
    have uf0 := rB.f 0
    have uf1 := rB.f 1
    have uf2 := rB.f 2
    go_wp2
    have rC := ((rB.set0 (.bool f')).set1 (.slice (some ⟨g6, 0, none⟩) n' c1)).set2 (.slice (some ⟨h6, 0, none⟩) m' c2)
    refine bodyPost_ret (results_box3 rfl _ _ _ _ _ _ rfl rC) rfl ?_
    have M : Marked w6 _ (w.heap.size + 1 + 1) := (((Marked.refl w6 _).setCell 0 (.bool f')).setCell 1 (.slice (some ⟨g6, 0, none⟩) n' c1)).setCell 2 (.slice (some ⟨h6, 0, none⟩) m' c2)
    have N7 : NatAt w6 (.slice (some ⟨g6, 0, none⟩) n' c1) g6 (lv X' n') 4194304 := ⟨_, _, _, X', rfl, v1, by omega, fun h => (by cases h), N6, FN, R'.lX, R'.pX, rfl⟩
    have D7 : NatAt w6 (.slice (some ⟨h6, 0, none⟩) m' c2) h6 (lv Y' m') 4194304 := ⟨_, _, _, Y', rfl, v2, by omega, fun h => (by cases h), D6, FD, R'.lY, R'.pY, rfl⟩
    exact ⟨_, rfl, ⟨_, _, g6, h6, rfl, N7.marked M (by omega), D7.marked M (by omega), by omega, by omega, by omega⟩, S6.trans (M.since (by omega))⟩
  · have h2 : n' = 0 := by omega
    have hZ := sum_zeroB ok ok' h2
    rw [hZ.1, hZ.2.1, hZ.2.2]
    clear hZ ok ok' h0
    subst h2
    have q1 : ((n : Int) == 0) = false := by simp; omega
    have k0 := oA.c0
    have k1 := oA.c1
    have k2 := oA.c2
    go_enter Tryd.func55, Tryd.ntmps55
    go_wp2_with fail
    generalize (((w.alloc (.cells #[.bool f, .slice a n ca, .slice b m cb] 25)).alloc (.cells #[.bool f', .slice a' 0 ca', .slice b' m' cb'] 25)).alloc (.cells #[.bool false, .slice none 0 0, .slice none 0 0] 25)) = w1 at *
    refine (l1Copy_opt f a b ba oa n ca bb ob m cb X Y w1 (by omega) (by omega) R.nc R.mc R.ac R.bc (R.keep sA).LX (R.keep sA).LY).mono ?_
    rintro e w6 ⟨g6, h6, c1, c2, rfl, v1, v2, N6, D6, FN, FD, y1, y2, y3, s6⟩
    have rB := rA.keep s6
    have S6 : w.Since w.heap.size w6 := sA.trans (sinceMono s6 sA.size)
    have u0 := rB.c0
    have u1 := rB.c1
    have u2 := rB.c2
    have uf0 := rB.f 0
    have uf1 := rB.f 1
    have uf2 := rB.f 2
    go_wp2
    have rC := ((rB.set0 (.bool f)).set1 (.slice (some ⟨g6, 0, none⟩) n c1)).set2 (.slice (some ⟨h6, 0, none⟩) m c2)
    refine bodyPost_ret (results_box3 rfl _ _ _ _ _ _ rfl rC) rfl ?_
    have M : Marked w6 _ (w.heap.size + 1 + 1) := (((Marked.refl w6 _).setCell 0 (.bool f)).setCell 1 (.slice (some ⟨g6, 0, none⟩) n c1)).setCell 2 (.slice (some ⟨h6, 0, none⟩) m c2)
    have N7 : NatAt w6 (.slice (some ⟨g6, 0, none⟩) n c1) g6 (lv X n) 4194304 := ⟨_, _, _, X, rfl, v1, by omega, fun h => (by cases h), N6, FN, R.lX, R.pX, rfl⟩
    have D7 : NatAt w6 (.slice (some ⟨h6, 0, none⟩) m c2) h6 (lv Y m) 4194304 := ⟨_, _, _, Y, rfl, v2, by omega, fun h => (by cases h), D6, FD, R.lY, R.pY, rfl⟩
    exact ⟨_, rfl, ⟨_, _, g6, h6, rfl, N7.marked M (by omega), D7.marked M (by omega), by omega, by omega, by omega⟩, S6.trans (M.since (by omega))⟩

theorem l1Add_opt (f f' : Bool) (a b a' b' : Option Addr) (ba oa n ca bb ob m cb ba' oa' n' ca' bb' ob' m' cb' : Nat) (X Y X' Y' : Nat → Nat) (w : World) (hn : n + n' + m + m' ≤ 1048576)
    (R : RIn w a b ba oa n ca bb ob m cb X Y) (R' : RIn w a' b' ba' oa' n' ca' bb' ob' m' cb' X' Y') (ok : ratOkB f X n Y m = true) (ok' : ratOkB f' X' n' Y' m' = true) :
    Calls Tryd.prog 55 #[.agg #[.bool f, .slice a n ca, .slice b m cb], .agg #[.bool f', .slice a' n' ca', .slice b' m' cb']] w fun e w' => ∃ v, e = .returned v ∧
      RatV w' v (sumNeg f f' (lv X n * lv Y' m') (lv X' n' * lv Y m) && sumTop f f' (lv X n * lv Y' m') (lv X' n' * lv Y m) != 0) (sumTop f f' (lv X n * lv Y' m') (lv X' n' * lv Y m) / Nat.gcd (sumTop f f' (lv X n * lv Y' m') (lv X' n' * lv Y m)) (lv Y m * lv Y' m')) ((lv Y m * lv Y' m') / Nat.gcd (sumTop f f' (lv X n * lv Y' m') (lv X' n' * lv Y m)) (lv Y m * lv Y' m')) w.heap.size 4194304 ∧ w.Since w.heap.size w' := by
  by_cases h0 : n = 0 ∨ n' = 0
  · exact l1Add_zeroOpt f f' a b a' b' ba oa n ca bb ob m cb ba' oa' n' ca' bb' ob' m' cb' X Y X' Y' w hn R R' ok ok' h0
  · obtain rfl : a = some ⟨ba, oa, none⟩ := by have := (R.LX 0 (by omega)).1; simpa using this
    obtain rfl : b = some ⟨bb, ob, none⟩ := by have := (R.LY 0 R.m0).1; simpa using this
    obtain rfl : a' = some ⟨ba', oa', none⟩ := by have := (R'.LX 0 (by omega)).1; simpa using this
    obtain rfl : b' = some ⟨bb', ob', none⟩ := by have := (R'.LY 0 R'.m0).1; simpa using this
    exact l1Add_any f f' _ _ _ _ ba oa n ca bb ob m cb ba' oa' n' ca' bb' ob' m' cb' X Y X' Y' w hn R R' ok ok'

end Go.Proofs.YtklkohdcilnchaaDoor

namespace Go.Proofs.YtklkohdcilnchaaDoor
open Go.RowKit

set_option maxHeartbeats 3200000 in
set_option maxRecDepth 100000 in
theorem l1Sub_opt (f f' : Bool) (a b a' b' : Option Addr) (ba oa n ca bb ob m cb ba' oa' n' ca' bb' ob' m' cb' : Nat) (X Y X' Y' : Nat → Nat) (w : World) (hn : n + n' + m + m' ≤ 1048576)
    (R : RIn w a b ba oa n ca bb ob m cb X Y) (R' : RIn w a' b' ba' oa' n' ca' bb' ob' m' cb' X' Y') (ok : ratOkB f X n Y m = true) (ok' : ratOkB f' X' n' Y' m' = true) :
    Calls Tryd.prog 76 #[.agg #[.bool f, .slice a n ca, .slice b m cb], .agg #[.bool f', .slice a' n' ca', .slice b' m' cb']] w fun e w' => ∃ v, e = .returned v ∧
      RatV w' v (sumNeg f (!f' && decide (0 < n')) (lv X n * lv Y' m') (lv X' n' * lv Y m) && sumTop f (!f' && decide (0 < n')) (lv X n * lv Y' m') (lv X' n' * lv Y m) != 0) (sumTop f (!f' && decide (0 < n')) (lv X n * lv Y' m') (lv X' n' * lv Y m) / Nat.gcd (sumTop f (!f' && decide (0 < n')) (lv X n * lv Y' m') (lv X' n' * lv Y m)) (lv Y m * lv Y' m')) ((lv Y m * lv Y' m') / Nat.gcd (sumTop f (!f' && decide (0 < n')) (lv X n * lv Y' m') (lv X' n' * lv Y m)) (lv Y m * lv Y' m')) w.heap.size 4194304 ∧ w.Since w.heap.size w' := by
  have hne2 : w.heap.size + 1 + 1 ≠ w.heap.size := by omega
  have sA : w.Since w.heap.size (((w.alloc (.cells #[.bool f, .slice a n ca, .slice b m cb] 25)).alloc (.cells #[.bool f', .slice a' n' ca', .slice b' m' cb'] 25)).alloc (.cells #[.bool false, .slice none 0 0, .slice none 0 0] 25)) := (((World.Since.refl _ _).alloc (Nat.le_refl _) _).alloc (by simp) _).alloc (by simp; omega) _
  have zA : (((w.alloc (.cells #[.bool f, .slice a n ca, .slice b m cb] 25)).alloc (.cells #[.bool f', .slice a' n' ca', .slice b' m' cb'] 25)).alloc (.cells #[.bool false, .slice none 0 0, .slice none 0 0] 25)).heap.size = w.heap.size + 1 + 1 + 1 := by simp
  have oA : Box3 (((w.alloc (.cells #[.bool f, .slice a n ca, .slice b m cb] 25)).alloc (.cells #[.bool f', .slice a' n' ca', .slice b' m' cb'] 25)).alloc (.cells #[.bool false, .slice none 0 0, .slice none 0 0] 25)) w.heap.size (.bool f) (.slice a n ca) (.slice b m cb) := ((Box3.new w _ _ _ _).keep ((World.Since.refl _ _).alloc (Nat.le_refl _) _)).keep ((World.Since.refl _ _).alloc (Nat.le_refl _) _)
  have pA : Box3 (((w.alloc (.cells #[.bool f, .slice a n ca, .slice b m cb] 25)).alloc (.cells #[.bool f', .slice a' n' ca', .slice b' m' cb'] 25)).alloc (.cells #[.bool false, .slice none 0 0, .slice none 0 0] 25)) (w.heap.size + 1) (.bool f') (.slice a' n' ca') (.slice b' m' cb') := by
    have := (Box3.new (w.alloc (.cells #[.bool f, .slice a n ca, .slice b m cb] 25)) (.bool f') (.slice a' n' ca') (.slice b' m' cb') 25).keep ((World.Since.refl _ _).alloc (Nat.le_refl _) (.cells #[.bool false, .slice none 0 0, .slice none 0 0] 25))
    simpa using this
  have rA : Box3 (((w.alloc (.cells #[.bool f, .slice a n ca, .slice b m cb] 25)).alloc (.cells #[.bool f', .slice a' n' ca', .slice b' m' cb'] 25)).alloc (.cells #[.bool false, .slice none 0 0, .slice none 0 0] 25)) (w.heap.size + 1 + 1) (.bool false) (.slice none 0 0) (.slice none 0 0) := by
    have := Box3.new ((w.alloc (.cells #[.bool f, .slice a n ca, .slice b m cb] 25)).alloc (.cells #[.bool f', .slice a' n' ca', .slice b' m' cb'] 25)) (.bool false) (.slice none 0 0) (.slice none 0 0) 25
    simpa using this
  have m1 := R.m0
  have m1' := R'.m0
  obtain ⟨NN, hNN⟩ : ∃ z, z = (sumNeg f (!f' && decide (0 < n')) (lv X n * lv Y' m') (lv X' n' * lv Y m) && sumTop f (!f' && decide (0 < n')) (lv X n * lv Y' m') (lv X' n' * lv Y m) != 0) := ⟨_, rfl⟩
  have HNN := hide hNN
  clear hNN
  have J1 := l1Neg_opt f' a' b' ba' oa' n' ca' bb' ob' m' cb' X' Y' (((w.alloc (.cells #[.bool f, .slice a n ca, .slice b m cb] 25)).alloc (.cells #[.bool f', .slice a' n' ca', .slice b' m' cb'] 25)).alloc (.cells #[.bool false, .slice none 0 0, .slice none 0 0] 25)).drew (by omega) (by omega) R'.nc R'.mc R'.ac R'.bc (R'.keep (since_drew sA)).LX (R'.keep (since_drew sA)).LY
  go_enter Tryd.func76, Tryd.ntmps76
  have k := And.intro oA.cells pA.cells
  go_wp2_with fail
  generalize (((w.alloc (.cells #[.bool f, .slice a n ca, .slice b m cb] 25)).alloc (.cells #[.bool f', .slice a' n' ca', .slice b' m' cb'] 25)).alloc (.cells #[.bool false, .slice none 0 0, .slice none 0 0] 25)) = w1 at *
  go_region_held3 (fun w' => w'.cell? ⟨w.heap.size, 0, none⟩ = some (.bool f) ∧ w'.cell? ⟨w.heap.size, 1, none⟩ = some (.slice a n ca) ∧ w'.cell? ⟨w.heap.size, 2, none⟩ = some (.slice b m cb) ∧ w'.cell? ⟨w.heap.size + 1, 0, none⟩ = some (.bool f') ∧ w'.cell? ⟨w.heap.size + 1, 1, none⟩ = some (.slice a' n' ca') ∧ w'.cell? ⟨w.heap.size + 1, 2, none⟩ = some (.slice b' m' cb')) (go_keep)
    (first
      | (go_at_call 58
         with_reducible refine J1.mono ?_
         rintro e w2 ⟨g, h, c1, c2, rfl, v1, v2, L1, L2, b1, b2, b3, s2⟩
         have S2 : w.Since w.heap.size w2 := (since_drew sA).trans (sinceMono s2 sA.size)
         have o2 := oA.drew.keep s2
         have p2 := pA.drew.keep s2
         have r2 := rA.drew.keep s2
         have kk := And.intro o2.cells p2.cells
         have R2 : RIn w2 (some ⟨g, 0, none⟩) (some ⟨h, 0, none⟩) g 0 n' c1 h 0 m' c2 X' Y' := ⟨v1, v2, fun h => (by cases h), fun h => (by cases h), L1, L2, R'.lX, R'.lY, R'.pX, R'.pY, R'.m0⟩
         have J2 := l1Add_opt f (!f' && decide (0 < n')) a b (some ⟨g, 0, none⟩) (some ⟨h, 0, none⟩) ba oa n ca bb ob m cb g 0 n' c1 h 0 m' c2 X Y X' Y' w2 hn (R.keep S2) R2 ok (ratOk_neg ok')
         rw [← HNN.out] at J2)
      | (go_at_call 55
         with_reducible refine J2.mono ?_
         rintro e w6 ⟨v, rfl, ⟨x1, x2, g6, h6, rfl, N6, D6, y1, y2, y3⟩, s6⟩
         have N6' := N6
         have D6' := D6
         obtain ⟨a1, q1, d1, Y1, rfl, -⟩ := N6
         obtain ⟨a2, q2, d2, Y2, rfl, -⟩ := D6
         have kk := And.intro (o2.keep s6).cells (p2.keep s6).cells
         have rB := r2.keep s6
         have u0 := rB.c0
         have u1 := rB.c1
         have u2 := rB.c2
         have uf0 := rB.f 0
         have uf1 := rB.f 1
         have uf2 := rB.f 2))
  all_goals go_wp2
  all_goals
    have S6 : w.Since w.heap.size w6 := S2.trans (sinceMono s6 S2.size)
    have zr := r2.lt
    have rC := ((rB.set0 (.bool NN)).set1 (.slice a1 q1 d1)).set2 (.slice a2 q2 d2)
    refine bodyPost_ret (results_box3 rfl _ _ _ _ _ _ rfl rC) rfl ?_
    have M : Marked w6 _ (w.heap.size + 1 + 1) := (((Marked.refl w6 _).setCell 0 (.bool NN)).setCell 1 (.slice a1 q1 d1)).setCell 2 (.slice a2 q2 d2)
    exact ⟨_, rfl, ⟨_, _, g6, h6, by rw [HNN.out], N6'.marked M (by omega), D6'.marked M (by omega), by omega, by omega, y3⟩, S6.trans (M.since (by omega))⟩

set_option maxHeartbeats 3200000 in
set_option maxRecDepth 100000 in
theorem l1Cmp_opt (f f' : Bool) (a b a' b' : Option Addr) (ba oa n ca bb ob m cb ba' oa' n' ca' bb' ob' m' cb' : Nat) (X Y X' Y' : Nat → Nat) (w : World) (hn : n + n' + m + m' ≤ 1048576)
    (R : RIn w a b ba oa n ca bb ob m cb X Y) (R' : RIn w a' b' ba' oa' n' ca' bb' ob' m' cb' X' Y') (ok : ratOkB f X n Y m = true) (ok' : ratOkB f' X' n' Y' m' = true) :
    Calls Tryd.prog 41 #[.agg #[.bool f, .slice a n ca, .slice b m cb], .agg #[.bool f', .slice a' n' ca', .slice b' m' cb']] w fun e w' => e = .returned (.int .i64 (cmpR f f' (lv X n * lv Y' m') (lv X' n' * lv Y m))) ∧ w.Since w.heap.size w' := by
  have sA : w.Since w.heap.size ((w.alloc (.cells #[.bool f, .slice a n ca, .slice b m cb] 25)).alloc (.cells #[.bool f', .slice a' n' ca', .slice b' m' cb'] 25)) := ((World.Since.refl _ _).alloc (Nat.le_refl _) _).alloc (by simp) _
  have zA : ((w.alloc (.cells #[.bool f, .slice a n ca, .slice b m cb] 25)).alloc (.cells #[.bool f', .slice a' n' ca', .slice b' m' cb'] 25)).heap.size = w.heap.size + 1 + 1 := by simp
  have oA : Box3 ((w.alloc (.cells #[.bool f, .slice a n ca, .slice b m cb] 25)).alloc (.cells #[.bool f', .slice a' n' ca', .slice b' m' cb'] 25)) w.heap.size (.bool f) (.slice a n ca) (.slice b m cb) := (Box3.new w _ _ _ _).keep ((World.Since.refl _ _).alloc (Nat.le_refl _) _)
  have pA : Box3 ((w.alloc (.cells #[.bool f, .slice a n ca, .slice b m cb] 25)).alloc (.cells #[.bool f', .slice a' n' ca', .slice b' m' cb'] 25)) (w.heap.size + 1) (.bool f') (.slice a' n' ca') (.slice b' m' cb') := by
    have := Box3.new (w.alloc (.cells #[.bool f, .slice a n ca, .slice b m cb] 25)) (.bool f') (.slice a' n' ca') (.slice b' m' cb') 25
    simpa using this
  have hX0 : f = true → 0 < lv X n * lv Y' m' := fun e => Nat.mul_pos (rat_pos ok e R.pX) R'.den
  have hX1 : f' = true → 0 < lv X' n' * lv Y m := fun e => Nat.mul_pos (rat_pos ok' e R'.pX) R.den
  have hX2 : 0 < n' ↔ 0 < lv X' n' * lv Y m := by
    have h1 := lv_zero R'.pX
    constructor
    · intro h; exact Nat.mul_pos (by omega) R.den
    · intro h
      rcases Nat.eq_zero_or_pos n' with e | e
      · rw [h1.1 e, Nat.zero_mul] at h; omega
      · exact e
  have hDD := Nat.mul_pos R.den R'.den
  obtain ⟨z, hz⟩ : ∃ z, z = cmpR f f' (lv X n * lv Y' m') (lv X' n' * lv Y m) := ⟨_, rfl⟩
  have HZ := hide hz
  clear hz
  have k := And.intro oA.cells pA.cells
  have J1 := l1Sub_opt f f' a b a' b' ba oa n ca bb ob m cb ba' oa' n' ca' bb' ob' m' cb' X Y X' Y' ((w.alloc (.cells #[.bool f, .slice a n ca, .slice b m cb] 25)).alloc (.cells #[.bool f', .slice a' n' ca', .slice b' m' cb'] 25)) hn (R.keep sA) (R'.keep sA) ok ok'
  go_enter Tryd.func41, Tryd.ntmps41
  go_wp2_with fail
  generalize ((w.alloc (.cells #[.bool f, .slice a n ca, .slice b m cb] 25)).alloc (.cells #[.bool f', .slice a' n' ca', .slice b' m' cb'] 25)) = w1 at *
  refine J1.mono ?_
  rintro e w2 ⟨v, rfl, ⟨x1, x2, g6, h6, rfl, N6, D6, y1, y2, y3⟩, s2⟩
  have S2 : w.Since w.heap.size w2 := sA.trans (sinceMono s2 sA.size)
  obtain ⟨a1, q1, d1, Y1, rfl, -, -, -, -, -, -, tp, ev⟩ := N6
  obtain ⟨a2, q2, d2, Y2, rfl, -⟩ := D6
  have hq : q1 = 0 ↔ sumTop f (!f' && decide (0 < n')) (lv X n * lv Y' m') (lv X' n' * lv Y m) = 0 := (lv_zero tp).trans (by rw [ev]; exact div_gcd_zero hDD)
  have HC := hide (sign_cmp f f' _ _ n' q1 hX0 hX1 hX2 hq)
  have J2 := l1Sign_any (sumNeg f (!f' && decide (0 < n')) (lv X n * lv Y' m') (lv X' n' * lv Y m) && sumTop f (!f' && decide (0 < n')) (lv X n * lv Y' m') (lv X' n' * lv Y m) != 0) a1 a2 q1 d1 q2 d2 w2
  rw [HC.out, ← HZ.out] at J2
  clear J1 HC hq hX0 hX1 hX2 tp ev k
  go_wp2_with fail
  refine J2.mono ?_
  rintro e w3 ⟨rfl, s3⟩
  go_wp2
  go_ret
  exact ⟨ret_int HZ.out, S2.trans (sinceMono s3 S2.size)⟩

set_option maxHeartbeats 1600000 in
set_option maxRecDepth 100000 in
theorem specRatCmp_opt (f f' : Bool) (a b a' b' : Option Addr) (ba oa n ca bb ob m cb ba' oa' n' ca' bb' ob' m' cb' : Nat) (X Y X' Y' : Nat → Nat) (w : World) (hn : n + n' + m + m' ≤ 1048576)
    (R : RIn w a b ba oa n ca bb ob m cb X Y) (R' : RIn w a' b' ba' oa' n' ca' bb' ob' m' cb' X' Y') (ok : ratOkB f X n Y m = true) (ok' : ratOkB f' X' n' Y' m' = true) :
    Calls Tryd.prog 13 #[.agg #[.bool f, .slice a n ca, .slice b m cb], .agg #[.bool f', .slice a' n' ca', .slice b' m' cb']] w fun e w' => e = .returned (.int .i64 (cmpR f f' (lv X n * lv Y' m') (lv X' n' * lv Y m))) ∧ w.Since w.heap.size w' := by
  have sA : w.Since w.heap.size ((w.alloc (.cells #[.bool f, .slice a n ca, .slice b m cb] 25)).alloc (.cells #[.bool f', .slice a' n' ca', .slice b' m' cb'] 25)) := ((World.Since.refl _ _).alloc (Nat.le_refl _) _).alloc (by simp) _
  have zA : ((w.alloc (.cells #[.bool f, .slice a n ca, .slice b m cb] 25)).alloc (.cells #[.bool f', .slice a' n' ca', .slice b' m' cb'] 25)).heap.size = w.heap.size + 1 + 1 := by simp
  have oA : Box3 ((w.alloc (.cells #[.bool f, .slice a n ca, .slice b m cb] 25)).alloc (.cells #[.bool f', .slice a' n' ca', .slice b' m' cb'] 25)) w.heap.size (.bool f) (.slice a n ca) (.slice b m cb) := (Box3.new w _ _ _ _).keep ((World.Since.refl _ _).alloc (Nat.le_refl _) _)
  have pA : Box3 ((w.alloc (.cells #[.bool f, .slice a n ca, .slice b m cb] 25)).alloc (.cells #[.bool f', .slice a' n' ca', .slice b' m' cb'] 25)) (w.heap.size + 1) (.bool f') (.slice a' n' ca') (.slice b' m' cb') := by
    have := Box3.new (w.alloc (.cells #[.bool f, .slice a n ca, .slice b m cb] 25)) (.bool f') (.slice a' n' ca') (.slice b' m' cb') 25
    simpa using this
  have m1 := R.m0
  have m1' := R'.m0
  go_enter Tryd.func13, Tryd.ntmps13
  go_wp2_with fail
  generalize ((w.alloc (.cells #[.bool f, .slice a n ca, .slice b m cb] 25)).alloc (.cells #[.bool f', .slice a' n' ca', .slice b' m' cb'] 25)) = w1 at *
  have I1 := specRatOk_any f a b ba oa n ca bb ob m cb X Y w1 (by omega) (by omega) (R.keep sA).LX (R.keep sA).LY R.lX R.lY
  rw [ok] at I1
  refine I1.mono ?_
  rintro e w2 ⟨rfl, s2⟩
  have S2 : w.Since w.heap.size w2 := sA.trans (sinceMono s2 sA.size)
  have o2 := oA.keep s2
  have p2 := pA.keep s2
  have I2 := specRatOk_any f' a' b' ba' oa' n' ca' bb' ob' m' cb' X' Y' w2 (by omega) (by omega) (R'.keep S2).LX (R'.keep S2).LY R'.lX R'.lY
  rw [ok'] at I2
  clear I1 oA pA
  have k0 := p2.c0
  have k1 := p2.c1
  have k2 := p2.c2
  go_wp2_with fail
  refine I2.mono ?_
  rintro e w3 ⟨rfl, s3⟩
  have S3 : w.Since w.heap.size w3 := S2.trans (sinceMono s3 S2.size)
  have o3 := o2.keep s3
  have p3 := p2.keep s3
  clear I2 k0 k1 k2 o2 p2
  have k0 := p3.c0
  have k1 := p3.c1
  have k2 := p3.c2
  have j0 := o3.c0
  have j1 := o3.c1
  have j2 := o3.c2
  have J := l1Cmp_opt f f' a b a' b' ba oa n ca bb ob m cb ba' oa' n' ca' bb' ob' m' cb' X Y X' Y' w3 hn (R.keep S3) (R'.keep S3) ok ok'
  obtain ⟨z, hz⟩ : ∃ z, z = cmpR f f' (lv X n * lv Y' m') (lv X' n' * lv Y m) := ⟨_, rfl⟩
  rw [← hz] at J
  have HZ := hide hz
  clear hz
  go_wp2_with fail
  refine J.mono ?_
  rintro e w4 ⟨rfl, s4⟩
  go_wp2
  go_ret
  exact ⟨ret_int HZ.out, S3.trans (sinceMono s4 S3.size)⟩

end Go.Proofs.YtklkohdcilnchaaDoor

namespace Go.Proofs.YtklkohdcilnchaaDoor
open Go.RowKit

/-- The sign of a rational, as the programs hold it. -/
def qn (q : Rat) : Bool := decide (q.num < 0)

theorem q_norm (s : Int) (d : Nat) (hd : d ≠ 0) : qn (Rat.normalize s d hd) = decide (s < 0) ∧ (Rat.normalize s d hd).num.natAbs = s.natAbs / Nat.gcd s.natAbs d ∧ (Rat.normalize s d hd).den = d / Nat.gcd s.natAbs d := by
  have hg : 0 < Nat.gcd s.natAbs d := Nat.gcd_pos_of_pos_right _ (by omega)
  rw [Rat.normalize_eq]
  obtain ⟨k, hk⟩ := Nat.gcd_dvd_left s.natAbs d
  have hs : ∃ t : Int, s = (Nat.gcd s.natAbs d : Int) * t := by
    have : ((Nat.gcd s.natAbs d : Nat) : Int) ∣ s := Int.ofNat_dvd_left.2 (Nat.gcd_dvd_left _ _)
    exact this
  obtain ⟨t, ht⟩ := hs
  have hgi : (0 : Int) < (Nat.gcd s.natAbs d : Int) := by omega
  have hq : s / (Nat.gcd s.natAbs d : Int) = t := by
    have h1 := Int.mul_ediv_cancel_left t (show (Nat.gcd s.natAbs d : Int) ≠ 0 by omega)
    rw [← ht] at h1
    exact h1
  refine ⟨?_, ?_, rfl⟩
  · unfold qn
    show decide (s / (Nat.gcd s.natAbs d : Int) < 0) = _
    rw [hq, decide_eq_decide]
    constructor
    · intro h
      rw [ht]
      exact Int.mul_neg_of_pos_of_neg hgi h
    · intro h
      rcases Int.lt_or_le t 0 with e | e
      · exact e
      · have := Int.mul_nonneg (Int.le_of_lt hgi) e
        omega
  · show (s / (Nat.gcd s.natAbs d : Int)).natAbs = _
    rw [hq]
    have h2 : s.natAbs = Nat.gcd s.natAbs d * t.natAbs := by
      have := congrArg Int.natAbs ht
      rw [Int.natAbs_mul, Int.natAbs_natCast] at this
      exact this
    rw [Nat.div_eq_of_eq_mul_right hg h2]

/-- A numerator out of its sign and size. -/
theorem num_of (q : Rat) : q.num = if qn q then -(q.num.natAbs : Int) else (q.num.natAbs : Int) := by
  unfold qn
  by_cases h : q.num < 0
  · simp [h]; omega
  · simp [h]; omega

theorem qn_pos {q : Rat} (h : qn q = true) : 0 < q.num.natAbs := by
  unfold qn at h
  have := of_decide_eq_true h
  omega

theorem mulInt (f f' : Bool) (x y : Nat) : decide ((if f then -(x : Int) else x) * (if f' then -(y : Int) else y) < 0) = ((f != f') && x * y != 0) ∧ ((if f then -(x : Int) else x) * (if f' then -(y : Int) else y)).natAbs = x * y := by
  constructor
  · rw [Bool.eq_iff_iff, decide_eq_true_iff]
    have hc : (x : Int) * (y : Int) = ((x * y : Nat) : Int) := by simp
    cases f <;> cases f' <;> simp only [if_true, if_false, Bool.false_eq_true, Int.neg_mul, Int.mul_neg, Int.neg_neg, hc] <;> generalize x * y = z <;> simp <;> omega
  · rw [Int.natAbs_mul]
    cases f <;> cases f' <;> simp

theorem sumInt (f f' : Bool) (x y : Nat) (hf : f = true → 0 < x) (hf' : f' = true → 0 < y) : decide ((if f then -(x : Int) else x) + (if f' then -(y : Int) else y) < 0) = (sumNeg f f' x y && sumTop f f' x y != 0) ∧ ((if f then -(x : Int) else x) + (if f' then -(y : Int) else y)).natAbs = sumTop f f' x y := by
  unfold sumNeg sumTop
  constructor
  · rw [Bool.eq_iff_iff, decide_eq_true_iff]
    cases f <;> cases f' <;> simp
    · omega
    · by_cases h : x < y <;> simp [h] <;> omega
    · by_cases h : x < y <;> simp [h] <;> omega
    · have := hf rfl; omega
  · cases f <;> cases f' <;> simp
    · omega
    · by_cases h : x < y <;> simp [h] <;> omega
    · by_cases h : x < y <;> simp [h] <;> omega
    · omega

theorem q_mul (p q : Rat) : qn (p * q) = ((qn p != qn q) && p.num.natAbs * q.num.natAbs != 0) ∧ (p * q).num.natAbs = p.num.natAbs * q.num.natAbs / Nat.gcd (p.num.natAbs * q.num.natAbs) (p.den * q.den) ∧ (p * q).den = p.den * q.den / Nat.gcd (p.num.natAbs * q.num.natAbs) (p.den * q.den) := by
  rw [Rat.mul_def]
  have h := q_norm (p.num * q.num) (p.den * q.den) (Nat.mul_ne_zero p.den_nz q.den_nz)
  have hm := mulInt (qn p) (qn q) p.num.natAbs q.num.natAbs
  rw [← num_of, ← num_of] at hm
  rw [hm.1, hm.2] at h
  exact h

theorem q_add (p q : Rat) : qn (p + q) = (sumNeg (qn p) (qn q) (p.num.natAbs * q.den) (q.num.natAbs * p.den) && sumTop (qn p) (qn q) (p.num.natAbs * q.den) (q.num.natAbs * p.den) != 0) ∧
    (p + q).num.natAbs = sumTop (qn p) (qn q) (p.num.natAbs * q.den) (q.num.natAbs * p.den) / Nat.gcd (sumTop (qn p) (qn q) (p.num.natAbs * q.den) (q.num.natAbs * p.den)) (p.den * q.den) ∧
    (p + q).den = p.den * q.den / Nat.gcd (sumTop (qn p) (qn q) (p.num.natAbs * q.den) (q.num.natAbs * p.den)) (p.den * q.den) := by
  rw [Rat.add_def]
  have h := q_norm (p.num * q.den + q.num * p.den) (p.den * q.den) (Nat.mul_ne_zero p.den_nz q.den_nz)
  have hm := sumInt (qn p) (qn q) (p.num.natAbs * q.den) (q.num.natAbs * p.den) (fun e => Nat.mul_pos (qn_pos e) (Nat.pos_of_ne_zero q.den_nz)) (fun e => Nat.mul_pos (qn_pos e) (Nat.pos_of_ne_zero p.den_nz))
  have e1 : p.num * (q.den : Int) = if qn p then -((p.num.natAbs * q.den : Nat) : Int) else ((p.num.natAbs * q.den : Nat) : Int) := by
    conv => lhs; rw [num_of p]
    cases qn p <;> simp [Int.neg_mul]
  have e2 : q.num * (p.den : Int) = if qn q then -((q.num.natAbs * p.den : Nat) : Int) else ((q.num.natAbs * p.den : Nat) : Int) := by
    conv => lhs; rw [num_of q]
    cases qn q <;> simp [Int.neg_mul]
  rw [← e1, ← e2] at hm
  rw [hm.1, hm.2] at h
  exact h

theorem q_inv (q : Rat) (h : q.num.natAbs ≠ 0) : qn q⁻¹ = qn q ∧ q⁻¹.num.natAbs = q.den ∧ q⁻¹.den = q.num.natAbs := by
  have h0 : q.num ≠ 0 := by omega
  refine ⟨?_, ?_, ?_⟩
  · unfold qn
    rw [Rat.num_inv, decide_eq_decide]
    have hd : (0 : Int) < q.den := by have := q.den_nz; omega
    rcases Int.lt_or_lt_of_ne h0 with e | e
    · rw [Int.sign_eq_neg_one_of_neg e]; omega
    · rw [Int.sign_eq_one_of_pos e]; omega
  · rw [Rat.num_inv, Int.natAbs_mul, Int.natAbs_natCast]
    rcases Int.lt_or_lt_of_ne h0 with e | e
    · rw [Int.sign_eq_neg_one_of_neg e]; simp
    · rw [Int.sign_eq_one_of_pos e]; simp
  · rw [Rat.den_inv, if_neg h0]

theorem q_div (p q : Rat) (h : q.num.natAbs ≠ 0) : qn (p / q) = ((qn p != qn q) && p.num.natAbs * q.den != 0) ∧ (p / q).num.natAbs = p.num.natAbs * q.den / Nat.gcd (p.num.natAbs * q.den) (p.den * q.num.natAbs) ∧ (p / q).den = p.den * q.num.natAbs / Nat.gcd (p.num.natAbs * q.den) (p.den * q.num.natAbs) := by
  rw [Rat.div_def]
  have h1 := q_mul p q⁻¹
  obtain ⟨i1, i2, i3⟩ := q_inv q h
  rw [i1, i2, i3] at h1
  exact h1

/-- The order of two rationals. -/
def qcmp (p q : Rat) : Int := if p < q then -1 else if q < p then 1 else 0

theorem q_cmp (p q : Rat) : cmpR (qn p) (qn q) (p.num.natAbs * q.den) (q.num.natAbs * p.den) = qcmp p q := by
  have e1 : p.num * (q.den : Int) = if qn p then -((p.num.natAbs * q.den : Nat) : Int) else ((p.num.natAbs * q.den : Nat) : Int) := by
    conv => lhs; rw [num_of p]
    cases qn p <;> simp [Int.neg_mul]
  have e2 : q.num * (p.den : Int) = if qn q then -((q.num.natAbs * p.den : Nat) : Int) else ((q.num.natAbs * p.den : Nat) : Int) := by
    conv => lhs; rw [num_of q]
    cases qn q <;> simp [Int.neg_mul]
  have h1 : qn p = true → 0 < p.num.natAbs * q.den := fun e => Nat.mul_pos (qn_pos e) (Nat.pos_of_ne_zero q.den_nz)
  have h2 : qn q = true → 0 < q.num.natAbs * p.den := fun e => Nat.mul_pos (qn_pos e) (Nat.pos_of_ne_zero p.den_nz)
  unfold qcmp cmpR
  simp only [Rat.lt_iff, e1, e2]
  generalize p.num.natAbs * q.den = x at *
  generalize q.num.natAbs * p.den = y at *
  clear e1 e2
  unfold cmpN
  cases hp : qn p <;> cases hq : qn q <;> simp [hp, hq] at h1 h2 ⊢ <;> (repeat' split) <;> omega

end Go.Proofs.YtklkohdcilnchaaDoor

namespace Go.Proofs.YtklkohdcilnchaaDoor
open Go.RowKit

/-- A value holds the rational q, to be read. -/
def RatR (w : World) (v : Value) (q : Rat) : Prop :=
  ∃ a n ca b m cb ba oa bb ob X Y, v = .agg #[.bool (qn q), .slice a n ca, .slice b m cb] ∧ RIn w a b ba oa n ca bb ob m cb X Y ∧ lv X n = q.num.natAbs ∧ lv Y m = q.den

theorem RatR.keep {w w' : World} {v : Value} {q : Rat} (h : RatR w v q) (s : w.Since w.heap.size w') : RatR w' v q := by
  obtain ⟨a, n, ca, b, m, cb, ba, oa, bb, ob, X, Y, h1, h2, h3⟩ := h
  exact ⟨a, n, ca, b, m, cb, ba, oa, bb, ob, X, Y, h1, h2.keep s, h3⟩

/-- The size of a rational: its parts are shorter than k limbs. -/
def Qb (q : Rat) (k : Nat) : Prop := q.num.natAbs < 4294967296 ^ k ∧ q.den < 4294967296 ^ k

theorem Qb.more {q : Rat} {k l : Nat} (h : Qb q k) (hk : k ≤ l) : Qb q l :=
  ⟨Nat.lt_of_lt_of_le h.1 (Nat.pow_le_pow_right (by decide) hk), Nat.lt_of_lt_of_le h.2 (Nat.pow_le_pow_right (by decide) hk)⟩

theorem lv_lim {X : Nat → Nat} {n k : Nat} (h0 : 0 < n → X (n - 1) ≠ 0) (h : lv X n < 4294967296 ^ k) : n ≤ k := by
  rcases Nat.lt_or_ge k n with e | e
  · exfalso
    have h1 : 0 < n := by omega
    have h2 := lv_ge X n h1 (h0 h1)
    rw [Nat.pow_mul, show (2 : Nat) ^ 32 = 4294967296 by decide] at h2
    have h3 : (4294967296 : Nat) ^ k ≤ 4294967296 ^ (n - 1) := Nat.pow_le_pow_right (by decide) (by omega)
    omega
  · exact e

theorem div_le_of (a b : Nat) : a / b ≤ a := Nat.div_le_self a b

theorem Qb.mul {p q : Rat} {k l : Nat} (h : Qb p k) (h' : Qb q l) : Qb (p * q) (k + l) := by
  obtain ⟨-, e2, e3⟩ := q_mul p q
  unfold Qb
  rw [e2, e3, Nat.pow_add]
  exact ⟨Nat.lt_of_le_of_lt (Nat.div_le_self _ _) (Nat.mul_lt_mul'' h.1 h'.1), Nat.lt_of_le_of_lt (Nat.div_le_self _ _) (Nat.mul_lt_mul'' h.2 h'.2)⟩

theorem sumTop_le (f f' : Bool) (x y : Nat) : sumTop f f' x y ≤ x + y := by
  unfold sumTop
  split
  · omega
  · split <;> omega

theorem Qb.add {p q : Rat} {k l : Nat} (h : Qb p k) (h' : Qb q l) : Qb (p + q) (k + l + 1) := by
  obtain ⟨-, e2, e3⟩ := q_add p q
  unfold Qb
  rw [e2, e3, Nat.pow_succ, Nat.pow_add]
  have h1 := Nat.mul_lt_mul'' h.1 h'.2
  have h2 := Nat.mul_lt_mul'' h'.1 h.2
  have h3 := Nat.mul_lt_mul'' h.2 h'.2
  rw [Nat.mul_comm (4294967296 ^ l)] at h2
  generalize 4294967296 ^ k * 4294967296 ^ l = B at *
  have h4 := sumTop_le (qn p) (qn q) (p.num.natAbs * q.den) (q.num.natAbs * p.den)
  refine ⟨Nat.lt_of_le_of_lt (Nat.div_le_self _ _) (by omega), Nat.lt_of_le_of_lt (Nat.div_le_self _ _) (by omega)⟩

theorem Qb.div {p q : Rat} {k l : Nat} (h : Qb p k) (h' : Qb q l) (h0 : q.num.natAbs ≠ 0) : Qb (p / q) (k + l) := by
  obtain ⟨-, e2, e3⟩ := q_div p q h0
  unfold Qb
  rw [e2, e3, Nat.pow_add]
  exact ⟨Nat.lt_of_le_of_lt (Nat.div_le_self _ _) (Nat.mul_lt_mul'' h.1 h'.2), Nat.lt_of_le_of_lt (Nat.div_le_self _ _) (Nat.mul_lt_mul'' h.2 h'.1)⟩

theorem RIn.ok {w : World} {a b : Option Addr} {ba oa n ca bb ob m cb : Nat} {X Y : Nat → Nat} {q : Rat} (R : RIn w a b ba oa n ca bb ob m cb X Y) (h1 : lv X n = q.num.natAbs) (h2 : lv Y m = q.den) : ratOkB (qn q) X n Y m = true := by
  have p1 := plainB_iff.2 R.pX
  have p2 := plainB_iff.2 R.pY
  have m0 := R.m0
  have g : Nat.gcd (lv X n) (lv Y m) = 1 := by rw [h1, h2]; exact q.reduced
  have hz : (qn q && n == 0) = false := by
    cases hq : qn q
    · rfl
    · have := qn_pos hq
      rw [← h1] at this
      have h3 := lv_zero R.pX
      have : n ≠ 0 := by intro e; have := h3.1 e; omega
      simp [this]
  unfold ratOkB
  rw [p1, p2, g, hz]
  simp
  omega

/-- A valid Rat holds a rational. -/
theorem rat_of_ok {w : World} {f : Bool} {a b : Option Addr} {ba oa n ca bb ob m cb : Nat} {X Y : Nat → Nat} (R : RIn w a b ba oa n ca bb ob m cb X Y) (ok : ratOkB f X n Y m = true) : ∃ q : Rat, RatR w (.agg #[.bool f, .slice a n ca, .slice b m cb]) q ∧ q.num.natAbs = lv X n ∧ q.den = lv Y m := by
  have hd := R.den
  have hg : Nat.gcd (lv X n) (lv Y m) = 1 := by unfold ratOkB at ok; simp at ok; exact ok.2
  have hf : f = true → 0 < lv X n := fun e => by
    rcases Nat.eq_zero_or_pos (lv X n) with h | h
    · have := (lv_zero R.pX).2 h
      subst e this
      simp [ratOkB] at ok
    · exact h
  have hq : qn (⟨if f then -(lv X n : Int) else (lv X n : Int), lv Y m, by omega, by cases f <;> simpa [Nat.Coprime] using hg⟩ : Rat) = f := by
    unfold qn
    cases f
    · simp
    · have := hf rfl
      simp
      omega
  refine ⟨⟨if f then -(lv X n : Int) else (lv X n : Int), lv Y m, by omega, by cases f <;> simpa [Nat.Coprime] using hg⟩, ⟨a, n, ca, b, m, cb, ba, oa, bb, ob, X, Y, ?_, R, ?_, rfl⟩, ?_, rfl⟩
  · rw [hq]
  · cases f <;> simp
  · cases f <;> simp

/-- What a function gives back can be read. -/
theorem RatV.read {w : World} {v : Value} {q : Rat} {B M : Nat} (h : RatV w v (qn q) q.num.natAbs q.den B M) : RatR w v q := by
  obtain ⟨v1, v2, g, k, rfl, ⟨a, n, ca, X, rfl, n1, -, n3, n4, -, n6, n7, n8⟩, ⟨b, m, cb, Y, rfl, m1, -, m3, m4, -, m6, m7, m8⟩, -⟩ := h
  refine ⟨a, n, ca, b, m, cb, g, 0, k, 0, X, Y, rfl, ⟨n1, m1, n3, m3, n4, m4, n6, m6, n7, m7, ?_⟩, n8, m8⟩
  rcases Nat.eq_zero_or_pos m with e | e
  · subst e
    have := q.den_nz
    rw [← m8] at this
    exact absurd rfl this
  · exact e

theorem implRatAdd_q {v v' : Value} {p q : Rat} {k l : Nat} {w : World} (hw : 0 < w.heap.size) (hT : Tab w) (hp : Qb p k) (hq : Qb q l) (hk : 2 * k + 2 * l ≤ 1048576) (R : RatR w v p) (R' : RatR w v' q) :
    Calls Tryd.prog 8 #[v, v'] w fun e w' => ∃ u, e = .returned u ∧ RatV w' u (qn (p + q)) (p + q).num.natAbs (p + q).den w.heap.size 1048578 ∧ w.Since w.heap.size w' := by
  obtain ⟨a, n, ca, b, m, cb, ba, oa, bb, ob, X, Y, rfl, R, x1, x2⟩ := R
  obtain ⟨a', n', ca', b', m', cb', ba', oa', bb', ob', X', Y', rfl, R', y1, y2⟩ := R'
  have n1 := lv_lim R.pX (by rw [x1]; exact hp.1)
  have n2 := lv_lim R.pY (by rw [x2]; exact hp.2)
  have n3 := lv_lim R'.pX (by rw [y1]; exact hq.1)
  have n4 := lv_lim R'.pY (by rw [y2]; exact hq.2)
  have J := implRatAdd_ok (qn p) (qn q) a b a' b' ba oa n ca bb ob m cb ba' oa' n' ca' bb' ob' m' cb' X Y X' Y' w hw hT (by omega) R R' (R.ok x1 x2) (R'.ok y1 y2)
  obtain ⟨e1, e2, e3⟩ := q_add p q
  rw [x1, x2, y1, y2, ← e1, ← e2, ← e3] at J
  exact J

theorem implRatMul_q {v v' : Value} {p q : Rat} {k l : Nat} {w : World} (hw : 0 < w.heap.size) (hT : Tab w) (hp : Qb p k) (hq : Qb q l) (hk : 2 * k + 2 * l ≤ 1048576) (R : RatR w v p) (R' : RatR w v' q) :
    Calls Tryd.prog 9 #[v, v'] w fun e w' => ∃ u, e = .returned u ∧ RatV w' u (qn (p * q)) (p * q).num.natAbs (p * q).den w.heap.size 1048578 ∧ w.Since w.heap.size w' := by
  obtain ⟨a, n, ca, b, m, cb, ba, oa, bb, ob, X, Y, rfl, R, x1, x2⟩ := R
  obtain ⟨a', n', ca', b', m', cb', ba', oa', bb', ob', X', Y', rfl, R', y1, y2⟩ := R'
  have n1 := lv_lim R.pX (by rw [x1]; exact hp.1)
  have n2 := lv_lim R.pY (by rw [x2]; exact hp.2)
  have n3 := lv_lim R'.pX (by rw [y1]; exact hq.1)
  have n4 := lv_lim R'.pY (by rw [y2]; exact hq.2)
  have J := implRatMul_ok (qn p) (qn q) a b a' b' ba oa n ca bb ob m cb ba' oa' n' ca' bb' ob' m' cb' X Y X' Y' w hw hT (by omega) (by omega) R R' (R.ok x1 x2) (R'.ok y1 y2)
  obtain ⟨e1, e2, e3⟩ := q_mul p q
  rw [x1, x2, y1, y2, ← e1, ← e2, ← e3] at J
  exact J

theorem implRatDiv_q {v v' : Value} {p q : Rat} {k l : Nat} {w : World} (hw : 0 < w.heap.size) (hT : Tab w) (hp : Qb p k) (hq : Qb q l) (hk : 2 * k + 2 * l ≤ 1048576) (h0 : q.num.natAbs ≠ 0) (R : RatR w v p) (R' : RatR w v' q) :
    Calls Tryd.prog 15 #[v, v'] w fun e w' => ∃ u, e = .returned (.tuple #[u, .bool true]) ∧ RatV w' u (qn (p / q)) (p / q).num.natAbs (p / q).den w.heap.size 1048578 ∧ w.Since w.heap.size w' := by
  obtain ⟨a, n, ca, b, m, cb, ba, oa, bb, ob, X, Y, rfl, R, x1, x2⟩ := R
  obtain ⟨a', n', ca', b', m', cb', ba', oa', bb', ob', X', Y', rfl, R', y1, y2⟩ := R'
  have n1 := lv_lim R.pX (by rw [x1]; exact hp.1)
  have n2 := lv_lim R.pY (by rw [x2]; exact hp.2)
  have n3 := lv_lim R'.pX (by rw [y1]; exact hq.1)
  have n4 := lv_lim R'.pY (by rw [y2]; exact hq.2)
  have n5 : 0 < n' := by
    rcases Nat.eq_zero_or_pos n' with e | e
    · exact absurd ((lv_zero R'.pX).1 e) (by rw [y1]; exact h0)
    · exact e
  have J := implRatDiv_ok (qn p) (qn q) a b a' b' ba oa n ca bb ob m cb ba' oa' n' ca' bb' ob' m' cb' X Y X' Y' w hw hT (by omega) (by omega) n5 R R' (R.ok x1 x2) (R'.ok y1 y2)
  obtain ⟨e1, e2, e3⟩ := q_div p q h0
  rw [x1, x2, y1, y2, ← e1, ← e2, ← e3] at J
  exact J

theorem implRatCmp_q {v v' : Value} {p q : Rat} {k l : Nat} {w : World} (hw : 0 < w.heap.size) (hT : Tab w) (hp : Qb p k) (hq : Qb q l) (hk : 2 * k + 2 * l ≤ 1048576) (R : RatR w v p) (R' : RatR w v' q) :
    Calls Tryd.prog 12 #[v, v'] w fun e w' => e = .returned (.int .i64 (qcmp p q)) ∧ w.Since w.heap.size w' := by
  obtain ⟨a, n, ca, b, m, cb, ba, oa, bb, ob, X, Y, rfl, R, x1, x2⟩ := R
  obtain ⟨a', n', ca', b', m', cb', ba', oa', bb', ob', X', Y', rfl, R', y1, y2⟩ := R'
  have n1 := lv_lim R.pX (by rw [x1]; exact hp.1)
  have n2 := lv_lim R.pY (by rw [x2]; exact hp.2)
  have n3 := lv_lim R'.pX (by rw [y1]; exact hq.1)
  have n4 := lv_lim R'.pY (by rw [y2]; exact hq.2)
  have J := implRatCmp_ok (qn p) (qn q) a b a' b' ba oa n ca bb ob m cb ba' oa' n' ca' bb' ob' m' cb' X Y X' Y' w hw hT (by omega) R R' (R.ok x1 x2) (R'.ok y1 y2)
  rw [x1, x2, y1, y2, q_cmp] at J
  exact J

theorem specRatCmp_q {v v' : Value} {p q : Rat} {k l : Nat} {w : World} (hp : Qb p k) (hq : Qb q l) (hk : 2 * k + 2 * l ≤ 1048576) (R : RatR w v p) (R' : RatR w v' q) :
    Calls Tryd.prog 13 #[v, v'] w fun e w' => e = .returned (.int .i64 (qcmp p q)) ∧ w.Since w.heap.size w' := by
  obtain ⟨a, n, ca, b, m, cb, ba, oa, bb, ob, X, Y, rfl, R, x1, x2⟩ := R
  obtain ⟨a', n', ca', b', m', cb', ba', oa', bb', ob', X', Y', rfl, R', y1, y2⟩ := R'
  have n1 := lv_lim R.pX (by rw [x1]; exact hp.1)
  have n2 := lv_lim R.pY (by rw [x2]; exact hp.2)
  have n3 := lv_lim R'.pX (by rw [y1]; exact hq.1)
  have n4 := lv_lim R'.pY (by rw [y2]; exact hq.2)
  have J := specRatCmp_opt (qn p) (qn q) a b a' b' ba oa n ca bb ob m cb ba' oa' n' ca' bb' ob' m' cb' X Y X' Y' w (by omega) R R' (R.ok x1 x2) (R'.ok y1 y2)
  rw [x1, x2, y1, y2, q_cmp] at J
  exact J

theorem l1Add_q {v v' : Value} {p q : Rat} {k l : Nat} {w : World} (hp : Qb p k) (hq : Qb q l) (hk : 2 * k + 2 * l ≤ 1048576) (R : RatR w v p) (R' : RatR w v' q) :
    Calls Tryd.prog 55 #[v, v'] w fun e w' => ∃ u, e = .returned u ∧ RatV w' u (qn (p + q)) (p + q).num.natAbs (p + q).den w.heap.size 4194304 ∧ w.Since w.heap.size w' := by
  obtain ⟨a, n, ca, b, m, cb, ba, oa, bb, ob, X, Y, rfl, R, x1, x2⟩ := R
  obtain ⟨a', n', ca', b', m', cb', ba', oa', bb', ob', X', Y', rfl, R', y1, y2⟩ := R'
  have n1 := lv_lim R.pX (by rw [x1]; exact hp.1)
  have n2 := lv_lim R.pY (by rw [x2]; exact hp.2)
  have n3 := lv_lim R'.pX (by rw [y1]; exact hq.1)
  have n4 := lv_lim R'.pY (by rw [y2]; exact hq.2)
  have J := l1Add_opt (qn p) (qn q) a b a' b' ba oa n ca bb ob m cb ba' oa' n' ca' bb' ob' m' cb' X Y X' Y' w (by omega) R R' (R.ok x1 x2) (R'.ok y1 y2)
  obtain ⟨e1, e2, e3⟩ := q_add p q
  rw [x1, x2, y1, y2, ← e1, ← e2, ← e3] at J
  exact J

theorem implRatOk_q {v : Value} {p : Rat} {k : Nat} {w : World} (hw : 0 < w.heap.size) (hT : Tab w) (hp : Qb p k) (hk : k ≤ 1048576) (R : RatR w v p) :
    Calls Tryd.prog 10 #[v] w fun e w' => e = .returned (.bool true) ∧ w.Since w.heap.size w' := by
  obtain ⟨a, n, ca, b, m, cb, ba, oa, bb, ob, X, Y, rfl, R, x1, x2⟩ := R
  have n1 := lv_lim R.pX (by rw [x1]; exact hp.1)
  have n2 := lv_lim R.pY (by rw [x2]; exact hp.2)
  have J := implRatOk_any (qn p) a b ba oa n ca bb ob m cb X Y w hw (by omega) (by omega) R.nc R.mc R.ac R.bc R.LX R.LY R.lX R.lY hT
  rw [R.ok x1 x2] at J
  exact J

theorem specRatOk_q {v : Value} {p : Rat} {k : Nat} {w : World} (hp : Qb p k) (hk : k ≤ 1048576) (R : RatR w v p) :
    Calls Tryd.prog 7 #[v] w fun e w' => e = .returned (.bool true) ∧ w.Since w.heap.size w' := by
  obtain ⟨a, n, ca, b, m, cb, ba, oa, bb, ob, X, Y, rfl, R, x1, x2⟩ := R
  have n1 := lv_lim R.pX (by rw [x1]; exact hp.1)
  have n2 := lv_lim R.pY (by rw [x2]; exact hp.2)
  have J := specRatOk_any (qn p) a b ba oa n ca bb ob m cb X Y w (by omega) (by omega) R.LX R.LY R.lX R.lY
  rw [R.ok x1 x2] at J
  exact J

end Go.Proofs.YtklkohdcilnchaaDoor

namespace Go.Proofs.YtklkohdcilnchaaDoor
open Go.RowKit

/-- The bytes handed in. -/
def Code (w : World) (a : Option Addr) (b off n : Nat) (X : Nat → Nat) : Prop := ∀ j, j < n → X j < 256 ∧ a = some ⟨b, off, none⟩ ∧ w.cell? ⟨b, off + j, none⟩ = some (.int .u8 (X j))

/-- A reader in its box. -/
structure Rd (w : World) (c : Nat) (a : Option Addr) (b off n cap : Nat) (X : Nat → Nat) : Prop where
  c0 : w.cell? ⟨c, 0, none⟩ = some (.slice a n cap)
  c1 : ∃ p : Nat, p ≤ n ∧ w.cell? ⟨c, 1, none⟩ = some (.int .i64 p)
  f : ∀ k, w.frozen? ⟨c, k, none⟩ = false
  code : Code w a b off n X
  ne : 0 < n → b ≠ c

theorem Code.lt {w : World} {a : Option Addr} {b off n : Nat} {X : Nat → Nat} (h : Code w a b off n X) (h0 : 0 < n) : b < w.heap.size := World.block_lt_of_cell? _ _ (h 0 h0).2.2
theorem Code.oth {w w' : World} {a : Option Addr} {b off n c : Nat} {X : Nat → Nat} (h : Code w a b off n X) (s : Oth c w w') (hne : 0 < n → b ≠ c) : Code w' a b off n X :=
  fun j hj => ⟨(h j hj).1, (h j hj).2.1, (s.cell (a := ⟨b, off + j, none⟩) (h.lt (by omega)) (hne (by omega))).trans (h j hj).2.2⟩
theorem Code.keep {w w' : World} {a : Option Addr} {b off n : Nat} {X : Nat → Nat} (h : Code w a b off n X) (s : w.Since w.heap.size w') : Code w' a b off n X :=
  fun j hj => ⟨(h j hj).1, (h j hj).2.1, (s.cell (a := ⟨b, off + j, none⟩) (h.lt (by omega))).trans (h j hj).2.2⟩
theorem Rd.lt {w : World} {c : Nat} {a : Option Addr} {b off n cap : Nat} {X : Nat → Nat} (h : Rd w c a b off n cap X) : c < w.heap.size := World.block_lt_of_cell? _ _ h.c0
theorem Rd.keep {w w' : World} {c : Nat} {a : Option Addr} {b off n cap : Nat} {X : Nat → Nat} (h : Rd w c a b off n cap X) (s : w.Since w.heap.size w') : Rd w' c a b off n cap X := by
  obtain ⟨p, hp, h1⟩ := h.c1
  exact ⟨(s.cell (a := ⟨c, 0, none⟩) h.lt).trans h.c0, ⟨p, hp, (s.cell (a := ⟨c, 1, none⟩) h.lt).trans h1⟩, fun k => (s.frozen (a := ⟨c, k, none⟩) h.lt).trans (h.f k), h.code.keep s, h.ne⟩

theorem Rd.same {w w' : World} {c : Nat} {a : Option Addr} {b off n cap : Nat} {X : Nat → Nat} (h : Rd w c a b off n cap X) (s : Same w w') : Rd w' c a b off n cap X := h.keep (s.since _)
theorem Oth.ofSame {w w' : World} (c : Nat) (s : Same w w') : Oth c w w' := Oth.ofSince c (s.since _)

theorem Rd.step {w w1 : World} {c : Nat} {a : Option Addr} {b off n cap p : Nat} {X : Nat → Nat} (h : Rd w c a b off n cap X) (hp : p < n) (k1 : w.cell? ⟨c, 1, none⟩ = some (.int .i64 p)) (s : Same w w1) :
    Rd (w1.setCell ⟨c, 1, none⟩ (.int .i64 ((p : Int) + 1))) c a b off n cap X ∧ Oth c w (w1.setCell ⟨c, 1, none⟩ (.int .i64 ((p : Int) + 1))) := by
  have M := (Marked.refl w1 c).setCell 1 (.int .i64 ((p : Int) + 1))
  have O : Oth c w (w1.setCell ⟨c, 1, none⟩ (.int .i64 ((p : Int) + 1))) := (Oth.ofSame c s).trans (Oth.ofMarked M)
  refine ⟨⟨?_, ⟨p + 1, hp, ?_⟩, fun k => ?_, h.code.oth O h.ne, h.ne⟩, O⟩
  · rw [World.cell?_setCell_other _ _ _ _ (by simp), s.cell]; exact h.c0
  · exact World.cell?_setCell_same _ _ _ (by rw [s.cell]; exact k1)
  · rw [M.frozen, s.frozen]; exact h.f k

set_option maxHeartbeats 800000 in
set_option maxRecDepth 100000 in
theorem next_any (c : Nat) (a : Option Addr) (b off n cap : Nat) (X : Nat → Nat) (w : World) (hn : n ≤ 1048576) (R : Rd w c a b off n cap X) :
    Calls Tryd.prog 44 #[.pointer (some ⟨c, 0, none⟩)] w fun e w' => ∃ v : Nat, e = .returned (.int .i64 v) ∧ v < 256 ∧ Rd w' c a b off n cap X ∧ Oth c w w' := by
  have k0 := R.c0
  obtain ⟨p, hp, k1⟩ := R.c1
  have kf := R.f 1
  by_cases hlt : p < n
  · obtain ⟨hx, rfl, kx⟩ := R.code p hlt
    have hlt' : (p : Int) < (n : Int) := by omega
    obtain ⟨x, ex⟩ : ∃ x, x = X p := ⟨_, rfl⟩
    rw [← ex] at kx hx
    clear ex
    go_enter Tryd.func44, Tryd.ntmps44
    go_wp2
    go_quiet (fail)
    go_wp2
    go_quiet (fail)
    go_wp2
    go_ret
    go_light
    exact ⟨x, rfl, hx, R.step hlt k1 ((Same.refl _).drewN _)⟩
  · go_enter Tryd.func44, Tryd.ntmps44
    go_wp2
    go_quiet (fail)
    go_wp2
    go_ret
    exact ⟨0, rfl, by omega, R.same (w' := w.drewN nq) ((Same.refl _).drewN _), Oth.ofSame c ((Same.refl _).drewN _)⟩

set_option maxHeartbeats 800000 in
set_option maxRecDepth 100000 in
theorem left_any (c : Nat) (a : Option Addr) (b off n cap : Nat) (X : Nat → Nat) (w : World) (hn : n ≤ 1048576) (R : Rd w c a b off n cap X) :
    Calls Tryd.prog 78 #[.pointer (some ⟨c, 0, none⟩)] w fun e w' => ∃ v : Nat, e = .returned (.int .i64 v) ∧ v ≤ 1048576 ∧ Same w w' := by
  have k0 := R.c0
  obtain ⟨p, hp, k1⟩ := R.c1
  go_enter Tryd.func78, Tryd.ntmps78
  go_wp2
  go_quiet (fail)
  go_wp2
  go_ret
  go_light
  exact ⟨n - p, ret_int (by omega), by omega, (Same.refl _).drewN _⟩

set_option maxHeartbeats 1600000 in
set_option maxRecDepth 100000 in
theorem l1DrawLimb_any (c : Nat) (a : Option Addr) (b off n cap : Nat) (X : Nat → Nat) (w : World) (hn : n ≤ 1048576) (R : Rd w c a b off n cap X) :
    Calls Tryd.prog 79 #[.pointer (some ⟨c, 0, none⟩)] w fun e w' => ∃ v : Nat, e = .returned (.int .u32 v) ∧ v < 4294967296 ∧ Rd w' c a b off n cap X ∧ Oth c w w' := by
  go_enter Tryd.func79, Tryd.ntmps79
  go_wp2_with fail
  refine (next_any c a b off n cap X w hn R).mono ?_
  rintro e w1 ⟨v, rfl, hv, R1, O1⟩
  by_cases c1 : (v : Int) % 8 = 1
  · have h1 : ((v : Int) % 8 == 1) = true := by simp [c1]
    go_wp2_with fail
    go_ret
    exact ⟨4294967295, rfl, by omega, R1, O1⟩
  have h1 : ((v : Int) % 8 == 1) = false := by simp [c1]
  by_cases c2 : (v : Int) % 8 = 2
  · have h2 : ((v : Int) % 8 == 2) = true := by simp [c2]
    go_wp2_with fail
    go_ret
    exact ⟨2147483648, rfl, by omega, R1, O1⟩
  have h2 : ((v : Int) % 8 == 2) = false := by simp [c2]
  by_cases c3 : (v : Int) % 8 = 3
  · have h3 : ((v : Int) % 8 == 3) = true := by simp [c3]
    go_wp2_with fail
    go_ret
    exact ⟨0, rfl, by omega, R1, O1⟩
  have h3 : ((v : Int) % 8 == 3) = false := by simp [c3]
  by_cases c4 : (v : Int) % 8 = 4
  · have h4 : ((v : Int) % 8 == 4) = true := by simp [c4]
    go_wp2_with fail
    go_ret
    exact ⟨v / 8, rfl, by omega, R1, O1⟩
  have h4 : ((v : Int) % 8 == 4) = false := by simp [c4]
  clear c1 c2 c3 c4
  go_wp2_with fail
  · go_loopw [4, 5] (fun q t wr => ∃ (x k : Nat), q = .int .u32 x ∧ x < 4294967296 ∧ t = .int .i64 k ∧ k ≤ 3 ∧ Rd wr c a b off n cap X ∧ Oth c w wr) (fun _ t _ => 3 - (intOf t).toNat)
    case atStart => exact ⟨v, 0, rfl, by omega, rfl, by omega, R1, O1⟩
    case round =>
      obtain ⟨x, k, rfl, hx, rfl, hk, R2, O2⟩ := hrel
      by_cases hlt : k < 3
      · go_wp2_with fail
        refine (next_any c a b off n cap X wr hn R2).mono ?_
        rintro e w2 ⟨y, rfl, hy, R3, O3⟩
        go_wp2
        go_roundw
        case rel =>
          go_light
          exact ⟨x * 256 % 4294967296 + y, k + 1, congrArg (Value.int .u32) (by omega), by omega, by go_num, by omega, R3, O2.trans O3⟩
        case measure => simp [intOf]; omega
      · go_wp2
        go_ret
        exact ⟨x, rfl, hx, R2, O2⟩

end Go.Proofs.YtklkohdcilnchaaDoor

namespace Go.Proofs.YtklkohdcilnchaaDoor
open Go.RowKit

theorem Oth.grown {c : Nat} {w w1 w2 : World} {row : Option Nat} (h : Oth c w w1) (g : w1.grownBy w2 row) (hr : ∀ k, row = some k → w.heap.size ≤ k) : Oth c w w2 :=
  ⟨g.os.trans h.os, g.tape.trans h.tape, g.output.trans h.output, Nat.le_trans h.size g.size, fun k h1 h2 => (g.block k (Nat.lt_of_lt_of_le h1 h.size) (fun e => by have := hr k e.symm; omega)).trans (h.block k h1 h2)⟩
theorem own_oth {w w' : World} {base c : Nat} {e : TypeId} {size : Nat} {v : Value} {n : Nat} {xs : List Value} (h : w.ownsRow base e size v n xs) (s : Oth c w w') (hc : c < base) : w'.ownsRow base e size v n xs :=
  h.kept (row := some c) ⟨s.os, s.tape, s.output, s.size, fun k h1 h2 => s.block k h1 (fun e => h2 (by rw [e]))⟩ (Or.inr (fun e => by have := (h.lt c e).1; omega))
theorem Rd.grown {w1 w2 : World} {c : Nat} {a : Option Addr} {b off n cap : Nat} {X : Nat → Nat} {row : Option Nat} (h : Rd w1 c a b off n cap X) (g : w1.grownBy w2 row) (hc : some c ≠ row) (hb : 0 < n → some b ≠ row) : Rd w2 c a b off n cap X := by
  obtain ⟨p, hp, h1⟩ := h.c1
  have e := g.block c h.lt hc
  exact ⟨(World.cell?_of_block (w := w1) (a := ⟨c, 0, none⟩) e).trans h.c0, ⟨p, hp, (World.cell?_of_block (w := w1) (a := ⟨c, 1, none⟩) e).trans h1⟩, fun k => (World.frozen?_of_block (w := w1) (a := ⟨c, k, none⟩) e).trans (h.f k),
    fun j hj => ⟨(h.code j hj).1, (h.code j hj).2.1, (World.cell?_of_block (w := w1) (a := ⟨b, off + j, none⟩) (g.block b (h.code.lt (by omega)) (hb (by omega)))).trans (h.code j hj).2.2⟩, h.ne⟩

set_option maxHeartbeats 3200000 in
set_option maxRecDepth 100000 in
theorem l1DrawNat_any (c : Nat) (a : Option Addr) (b off n cap : Nat) (X : Nat → Nat) (w : World) (hn : n ≤ 1048576) (R : Rd w c a b off n cap X) (hbl : 0 < n → b < w.heap.size) :
    Calls Tryd.prog 45 #[.pointer (some ⟨c, 0, none⟩)] w fun e w' => ∃ g t cap' D, e = .returned (.slice (some ⟨g, 0, none⟩) t cap') ∧ t ≤ cap' ∧ t ≤ 11 ∧ Limbs w' (some ⟨g, 0, none⟩) g 0 t D ∧ (∀ j, j < t → D j < 4294967296) ∧ w.heap.size ≤ g ∧ g < w'.heap.size ∧ Rd w' c a b off n cap X ∧ Oth c w w' := by
  obtain ⟨i0, hi, hz0, hz1, hz2⟩ := info_parts Tryd.info43
  have hcl := R.lt
  go_enter Tryd.func45, Tryd.ntmps45
  go_wp2_with fail
  refine (next_any c a b off n cap X w hn R).mono ?_
  rintro e w1 ⟨v, rfl, hv, R1, O1⟩
  by_cases c1 : (v : Int) % 5 = 4
  · have h1 : ((v : Int) % 5 == 4) = true := by simp [c1]
    clear c1
    go_wp2_with fail
    refine (left_any c a b off n cap X w1 hn R1).mono ?_
    rintro e w2 ⟨q, rfl, hq, s2⟩
    have O2 := O1.trans (Oth.ofSame c s2)
    have R2 := R1.same s2
    clear O1 R1 s2
    obtain ⟨M, hM⟩ : ∃ M : Nat, 4 + (q : Int) / 12 = (M : Int) := ⟨4 + q / 12, by omega⟩
    by_cases c2 : (10 : Int) < (M : Int)
    · obtain ⟨N, hN⟩ : ∃ N : Nat, N = 10 := ⟨_, rfl⟩
      have hN' : (N : Int) = 10 := by omega
      go_wp2_with fail
      rw [← hN']
      have hNl : N ≤ 10 := by omega
      clear hN hN'
      go_loopw [5, 6] (fun o t wr => ∃ (k : Nat) (D : Nat → Nat), k ≤ N ∧ t = .int .i64 k ∧ Hid (o ≠ .slice none 0 0) ∧ wr.ownsRow w.heap.size 43 1 o k (ll D k) ∧ Hid (∀ j, j < k → D j < 4294967296) ∧ Rd wr c a b off n cap X ∧ Oth c w wr) (fun _ t _ => N - (intOf t).toNat)
      case atStart => exact ⟨0, fun _ => 0, Nat.zero_le _, rfl, hide (by simp), World.ownsRow_made w2 #[] 0 O2.size (by decide) rfl, hide (fun j hj => absurd hj (by omega)), R2.keep ((World.Since.refl _ _).alloc (Nat.le_refl _) _), O2.trans (Oth.ofSince c ((World.Since.refl _ _).alloc (Nat.le_refl _) _))⟩
      case round =>
        obtain ⟨k, D, hkN, rfl, HN0, hown, HD, R2, O2⟩ := hrel
        have hs2 := O2.size
        by_cases hlt : k < N
        · go_wp2_with fail
          refine (l1DrawLimb_any c a b off n cap X wr hn R2).mono ?_
          rintro e w2 ⟨x, rfl, hx, R3, O3⟩
          have own3 := own_oth hown O3 hcl
          have hs3 := O3.size
          have O03 := O2.trans O3
          clear hown R2 O3 O2
          go_wp2_with (at_builtin; refine wpList_append_own _ rfl _ _ 23 rfl w.heap.size 43 i0 (.int .u32 0) 1 4 Tryd.underlying23 hi hz0 hz1 hz2 rfl (by decide) _ _ _ rfl (own3.alloc _) ⟨w2.heap.size, 0, none⟩ 1 1 [.int .u32 x] rfl rfl (new_cell _ _ _) (one_one _ rfl) (by unfold maxLen; omega) (by omega) (by simp; omega) ?_)
          intro v' w3 hown' hgrow hnn
          rw [show ll D k ++ [.int .u32 (x : Int)] = ll (upd D k x) (k + 1) from by rw [ll_succ, upd_same, ll_congr (fun j hj => upd_other _ _ _ _ (show j ≠ k by omega))]] at hown'
          have sW := (World.Since.refl w2.heap.size w2).alloc (Nat.le_refl _) (.cells #[.int .u32 (x : Int)] 43)
          have hlow := fun q hq => (own3.lt q hq).1
          have O4 : Oth c w w3 := (O03.trans (Oth.ofSince c sW)).grown hgrow hlow
          have R4 : Rd w3 c a b off n cap X := (R3.keep sW).grown hgrow (fun e => by have := hlow c e.symm; omega) (fun h0 e => by have := hlow b e.symm; have := hbl h0; omega)
          have HN1 := hide hnn
          have HD1 : Hid (∀ j, j < k + 1 → upd D k x j < 4294967296) := hide (fun j hj => by
            by_cases e2 : j = k
            · subst e2; rw [upd_same]; exact hx
            · rw [upd_other _ _ _ _ e2]; exact HD.out j (by omega))
          clear hgrow own3 hnn HN0 HD R3 O03 sW hlow
          go_wp2
          go_roundw
          case rel => exact ⟨k + 1, _, by omega, by go_num, HN1, hown', HD1, R4, O4⟩
          case measure => simp [intOf]; omega
        · have e : k = N := by omega
          subst e
          by_cases h224 : (224 : Int) ≤ (v : Int)
          · go_wp2_with (at_builtin; refine wpList_append_own _ rfl _ _ 23 rfl w.heap.size 43 i0 (.int .u32 0) 1 4 Tryd.underlying23 hi hz0 hz1 hz2 rfl (by decide) _ _ _ rfl (hown.alloc _) ⟨wr.heap.size, 0, none⟩ 1 1 [.int .u32 0] rfl rfl (new_cell _ _ _) (one_one _ rfl) (by unfold maxLen; omega) (by omega) (by simp; omega) ?_)
            intro v' w3 hown' hgrow hnn
            rw [show ll D k ++ [.int .u32 0] = ll (upd D k 0) (k + 1) from by rw [ll_succ, upd_same, ll_congr (fun j hj => upd_other _ _ _ _ (show j ≠ k by omega))]; rfl] at hown'
            have sW := (World.Since.refl wr.heap.size wr).alloc (Nat.le_refl _) (.cells #[.int .u32 0] 43)
            have hlow := fun q hq => (hown.lt q hq).1
            have O4 : Oth c w w3 := (O2.trans (Oth.ofSince c sW)).grown hgrow hlow
            have R4 : Rd w3 c a b off n cap X := (R2.keep sW).grown hgrow (fun e => by have := hlow c e.symm; omega) (fun h0 e => by have := hlow b e.symm; have := hbl h0; omega)
            obtain ⟨g, cap3, rfl, hmc, hbg, hgl, L3, -⟩ := own_limbs_some hown' hnn
            clear hgrow hown sW hlow R2 O2
            go_wp2
            go_ret
            refine ⟨g, k + 1, cap3, upd D k 0, rfl, hmc, by omega, L3, fun j hj => ?_, hbg, hgl, R4, O4⟩
            by_cases e2 : j = k
            · subst e2; rw [upd_same]; omega
            · rw [upd_other _ _ _ _ e2]; exact HD.out j (by omega)
          · obtain ⟨g, cap3, rfl, hmc, hbg, hgl, L3, -⟩ := own_limbs_some hown HN0.out
            go_wp2
            go_ret

            first
            | exact ⟨g, k, cap3, D, rfl, hmc, by omega, L3, HD.out, hbg, hgl, R2, O2⟩
            | exact ⟨g, k, cap3, rfl, hmc, by omega, D, L3, HD.out, hbg, hgl, R2, O2⟩
    · obtain ⟨N, hN⟩ : ∃ N : Nat, N = M := ⟨_, rfl⟩
      subst hN
      have hNl : N ≤ 10 := by omega
      go_wp2_with fail
      go_loopw [5, 6] (fun o t wr => ∃ (k : Nat) (D : Nat → Nat), k ≤ N ∧ t = .int .i64 k ∧ Hid (o ≠ .slice none 0 0) ∧ wr.ownsRow w.heap.size 43 1 o k (ll D k) ∧ Hid (∀ j, j < k → D j < 4294967296) ∧ Rd wr c a b off n cap X ∧ Oth c w wr) (fun _ t _ => N - (intOf t).toNat)
      case atStart => exact ⟨0, fun _ => 0, Nat.zero_le _, rfl, hide (by simp), World.ownsRow_made w2 #[] 0 O2.size (by decide) rfl, hide (fun j hj => absurd hj (by omega)), R2.keep ((World.Since.refl _ _).alloc (Nat.le_refl _) _), O2.trans (Oth.ofSince c ((World.Since.refl _ _).alloc (Nat.le_refl _) _))⟩
      case round =>
        obtain ⟨k, D, hkN, rfl, HN0, hown, HD, R2, O2⟩ := hrel
        have hs2 := O2.size
        by_cases hlt : k < N
        · go_wp2_with fail
          refine (l1DrawLimb_any c a b off n cap X wr hn R2).mono ?_
          rintro e w2 ⟨x, rfl, hx, R3, O3⟩
          have own3 := own_oth hown O3 hcl
          have hs3 := O3.size
          have O03 := O2.trans O3
          clear hown R2 O3 O2
          go_wp2_with (at_builtin; refine wpList_append_own _ rfl _ _ 23 rfl w.heap.size 43 i0 (.int .u32 0) 1 4 Tryd.underlying23 hi hz0 hz1 hz2 rfl (by decide) _ _ _ rfl (own3.alloc _) ⟨w2.heap.size, 0, none⟩ 1 1 [.int .u32 x] rfl rfl (new_cell _ _ _) (one_one _ rfl) (by unfold maxLen; omega) (by omega) (by simp; omega) ?_)
          intro v' w3 hown' hgrow hnn
          rw [show ll D k ++ [.int .u32 (x : Int)] = ll (upd D k x) (k + 1) from by rw [ll_succ, upd_same, ll_congr (fun j hj => upd_other _ _ _ _ (show j ≠ k by omega))]] at hown'
          have sW := (World.Since.refl w2.heap.size w2).alloc (Nat.le_refl _) (.cells #[.int .u32 (x : Int)] 43)
          have hlow := fun q hq => (own3.lt q hq).1
          have O4 : Oth c w w3 := (O03.trans (Oth.ofSince c sW)).grown hgrow hlow
          have R4 : Rd w3 c a b off n cap X := (R3.keep sW).grown hgrow (fun e => by have := hlow c e.symm; omega) (fun h0 e => by have := hlow b e.symm; have := hbl h0; omega)
          have HN1 := hide hnn
          have HD1 : Hid (∀ j, j < k + 1 → upd D k x j < 4294967296) := hide (fun j hj => by
            by_cases e2 : j = k
            · subst e2; rw [upd_same]; exact hx
            · rw [upd_other _ _ _ _ e2]; exact HD.out j (by omega))
          clear hgrow own3 hnn HN0 HD R3 O03 sW hlow
          go_wp2
          go_roundw
          case rel => exact ⟨k + 1, _, by omega, by go_num, HN1, hown', HD1, R4, O4⟩
          case measure => simp [intOf]; omega
        · have e : k = N := by omega
          subst e
          by_cases h224 : (224 : Int) ≤ (v : Int)
          · go_wp2_with (at_builtin; refine wpList_append_own _ rfl _ _ 23 rfl w.heap.size 43 i0 (.int .u32 0) 1 4 Tryd.underlying23 hi hz0 hz1 hz2 rfl (by decide) _ _ _ rfl (hown.alloc _) ⟨wr.heap.size, 0, none⟩ 1 1 [.int .u32 0] rfl rfl (new_cell _ _ _) (one_one _ rfl) (by unfold maxLen; omega) (by omega) (by simp; omega) ?_)
            intro v' w3 hown' hgrow hnn
            rw [show ll D k ++ [.int .u32 0] = ll (upd D k 0) (k + 1) from by rw [ll_succ, upd_same, ll_congr (fun j hj => upd_other _ _ _ _ (show j ≠ k by omega))]; rfl] at hown'
            have sW := (World.Since.refl wr.heap.size wr).alloc (Nat.le_refl _) (.cells #[.int .u32 0] 43)
            have hlow := fun q hq => (hown.lt q hq).1
            have O4 : Oth c w w3 := (O2.trans (Oth.ofSince c sW)).grown hgrow hlow
            have R4 : Rd w3 c a b off n cap X := (R2.keep sW).grown hgrow (fun e => by have := hlow c e.symm; omega) (fun h0 e => by have := hlow b e.symm; have := hbl h0; omega)
            obtain ⟨g, cap3, rfl, hmc, hbg, hgl, L3, -⟩ := own_limbs_some hown' hnn
            clear hgrow hown sW hlow R2 O2
            go_wp2
            go_ret
            refine ⟨g, k + 1, cap3, upd D k 0, rfl, hmc, by omega, L3, fun j hj => ?_, hbg, hgl, R4, O4⟩
            by_cases e2 : j = k
            · subst e2; rw [upd_same]; omega
            · rw [upd_other _ _ _ _ e2]; exact HD.out j (by omega)
          · obtain ⟨g, cap3, rfl, hmc, hbg, hgl, L3, -⟩ := own_limbs_some hown HN0.out
            go_wp2
            go_ret

            first
            | exact ⟨g, k, cap3, D, rfl, hmc, by omega, L3, HD.out, hbg, hgl, R2, O2⟩
            | exact ⟨g, k, cap3, rfl, hmc, by omega, D, L3, HD.out, hbg, hgl, R2, O2⟩
  · have h1 : ((v : Int) % 5 == 4) = false := by simp [c1]
    clear c1
    obtain ⟨N, hN⟩ : ∃ N : Nat, (v : Int) % 6 = (N : Int) := ⟨v % 6, by omega⟩
    have hNl : N ≤ 10 := by omega
    go_wp2_with fail
    rw [hN]
    clear hN
    go_loopw [5, 6] (fun o t wr => ∃ (k : Nat) (D : Nat → Nat), k ≤ N ∧ t = .int .i64 k ∧ Hid (o ≠ .slice none 0 0) ∧ wr.ownsRow w.heap.size 43 1 o k (ll D k) ∧ Hid (∀ j, j < k → D j < 4294967296) ∧ Rd wr c a b off n cap X ∧ Oth c w wr) (fun _ t _ => N - (intOf t).toNat)
    case atStart => exact ⟨0, fun _ => 0, Nat.zero_le _, rfl, hide (by simp), World.ownsRow_made w1 #[] 0 O1.size (by decide) rfl, hide (fun j hj => absurd hj (by omega)), R1.keep ((World.Since.refl _ _).alloc (Nat.le_refl _) _), O1.trans (Oth.ofSince c ((World.Since.refl _ _).alloc (Nat.le_refl _) _))⟩
    case round =>
      obtain ⟨k, D, hkN, rfl, HN0, hown, HD, R2, O2⟩ := hrel
      have hs2 := O2.size
      by_cases hlt : k < N
      · go_wp2_with fail
        refine (l1DrawLimb_any c a b off n cap X wr hn R2).mono ?_
        rintro e w2 ⟨x, rfl, hx, R3, O3⟩
        have own3 := own_oth hown O3 hcl
        have hs3 := O3.size
        have O03 := O2.trans O3
        clear hown R2 O3 O2
        go_wp2_with (at_builtin; refine wpList_append_own _ rfl _ _ 23 rfl w.heap.size 43 i0 (.int .u32 0) 1 4 Tryd.underlying23 hi hz0 hz1 hz2 rfl (by decide) _ _ _ rfl (own3.alloc _) ⟨w2.heap.size, 0, none⟩ 1 1 [.int .u32 x] rfl rfl (new_cell _ _ _) (one_one _ rfl) (by unfold maxLen; omega) (by omega) (by simp; omega) ?_)
        intro v' w3 hown' hgrow hnn
        rw [show ll D k ++ [.int .u32 (x : Int)] = ll (upd D k x) (k + 1) from by rw [ll_succ, upd_same, ll_congr (fun j hj => upd_other _ _ _ _ (show j ≠ k by omega))]] at hown'
        have sW := (World.Since.refl w2.heap.size w2).alloc (Nat.le_refl _) (.cells #[.int .u32 (x : Int)] 43)
        have hlow := fun q hq => (own3.lt q hq).1
        have O4 : Oth c w w3 := (O03.trans (Oth.ofSince c sW)).grown hgrow hlow
        have R4 : Rd w3 c a b off n cap X := (R3.keep sW).grown hgrow (fun e => by have := hlow c e.symm; omega) (fun h0 e => by have := hlow b e.symm; have := hbl h0; omega)
        have HN1 := hide hnn
        have HD1 : Hid (∀ j, j < k + 1 → upd D k x j < 4294967296) := hide (fun j hj => by
          by_cases e2 : j = k
          · subst e2; rw [upd_same]; exact hx
          · rw [upd_other _ _ _ _ e2]; exact HD.out j (by omega))
        clear hgrow own3 hnn HN0 HD R3 O03 sW hlow
        go_wp2
        go_roundw
        case rel => exact ⟨k + 1, _, by omega, by go_num, HN1, hown', HD1, R4, O4⟩
        case measure => simp [intOf]; omega
      · have e : k = N := by omega
        subst e
        by_cases h224 : (224 : Int) ≤ (v : Int)
        · go_wp2_with (at_builtin; refine wpList_append_own _ rfl _ _ 23 rfl w.heap.size 43 i0 (.int .u32 0) 1 4 Tryd.underlying23 hi hz0 hz1 hz2 rfl (by decide) _ _ _ rfl (hown.alloc _) ⟨wr.heap.size, 0, none⟩ 1 1 [.int .u32 0] rfl rfl (new_cell _ _ _) (one_one _ rfl) (by unfold maxLen; omega) (by omega) (by simp; omega) ?_)
          intro v' w3 hown' hgrow hnn
          rw [show ll D k ++ [.int .u32 0] = ll (upd D k 0) (k + 1) from by rw [ll_succ, upd_same, ll_congr (fun j hj => upd_other _ _ _ _ (show j ≠ k by omega))]; rfl] at hown'
          have sW := (World.Since.refl wr.heap.size wr).alloc (Nat.le_refl _) (.cells #[.int .u32 0] 43)
          have hlow := fun q hq => (hown.lt q hq).1
          have O4 : Oth c w w3 := (O2.trans (Oth.ofSince c sW)).grown hgrow hlow
          have R4 : Rd w3 c a b off n cap X := (R2.keep sW).grown hgrow (fun e => by have := hlow c e.symm; omega) (fun h0 e => by have := hlow b e.symm; have := hbl h0; omega)
          obtain ⟨g, cap3, rfl, hmc, hbg, hgl, L3, -⟩ := own_limbs_some hown' hnn
          clear hgrow hown sW hlow R2 O2
          go_wp2
          go_ret
          refine ⟨g, k + 1, cap3, upd D k 0, rfl, hmc, by omega, L3, fun j hj => ?_, hbg, hgl, R4, O4⟩
          by_cases e2 : j = k
          · subst e2; rw [upd_same]; omega
          · rw [upd_other _ _ _ _ e2]; exact HD.out j (by omega)
        · obtain ⟨g, cap3, rfl, hmc, hbg, hgl, L3, -⟩ := own_limbs_some hown HN0.out
          go_wp2
          go_ret

          first
          | exact ⟨g, k, cap3, D, rfl, hmc, by omega, L3, HD.out, hbg, hgl, R2, O2⟩
          | exact ⟨g, k, cap3, rfl, hmc, by omega, D, L3, HD.out, hbg, hgl, R2, O2⟩

end Go.Proofs.YtklkohdcilnchaaDoor

namespace Go.Proofs.YtklkohdcilnchaaDoor
open Go.RowKit

set_option maxHeartbeats 3200000 in
set_option maxRecDepth 100000 in
theorem l1Limbs_any2 (a : Option Addr) (b off n cap : Nat) (B : Nat → Bool) (w : World) (hn : n ≤ 268435456) (hnc : n ≤ cap) (hB : Bits w a b off n B) :
    Calls Tryd.prog 47 #[.slice a n cap] w fun e w' => ∃ a' g m cap' Y, e = .returned (.slice a' m cap') ∧ m ≤ cap' ∧ (a' = none → cap' = 0) ∧ 32 * m < n + 32 ∧ Limbs w' a' g 0 m Y ∧ (0 < m → w.heap.size ≤ g) ∧ (0 < m → ∀ o, w'.frozen? ⟨g, o, none⟩ = false) ∧
      (∀ j, Y j < 4294967296) ∧ (0 < m → Y (m - 1) ≠ 0) ∧ lv Y m = bv B n ∧ w.Since w.heap.size w' := by
  obtain ⟨i0, hi, hz0, hz1, hz2⟩ := info_parts Tryd.info43
  obtain ⟨m, hm⟩ : ∃ m, m = tlen B n := ⟨_, rfl⟩
  have hmn : m ≤ n := by rw [hm]; exact tlen_le _ _
  have HM : Hid (m = tlen B n) := hm
  clear hm
  obtain ⟨E, hE⟩ : ∃ E, E = ext B m := ⟨_, rfl⟩
  have HE : Hid (E = ext B m) := hE
  clear hE
  have hB' := hB.take hmn
  go_enter Tryd.func47, Tryd.ntmps47
  go_wp2_with fail
  refine (l1Trim_any a b off n cap B _ (by omega) hnc hB).mono ?_
  rintro e w1 ⟨rfl, rfl⟩
  rw [← HM.out]
  clear hB
  go_wp2
  go_loopw [4, 5] (fun v t wr => ∃ q : Nat, 32 * q < m + 32 ∧ t = .int .i64 ((32 * q : Nat) : Int) ∧ wr.ownsRow w1.heap.size 43 1 v q (ll (limbsOf E) q) ∧ w1.Since w1.heap.size wr) (fun _ t _ => m + 32 - (intOf t).toNat)
  case atStart => exact ⟨0, by omega, rfl, World.ownsRow_made w1 #[] 0 (Nat.le_refl _) (by decide) rfl, (World.Since.refl _ _).alloc (Nat.le_refl _) _⟩
  case round =>
    obtain ⟨q, hq, rfl, hown, hs⟩ := hrel
    by_cases hlt : 32 * q < m
    · go_wp2
      go_loop [6, 7] (fun v t => ∃ (k p : Nat) (z : Int), k ≤ 32 ∧ t = .int .i64 z ∧ v = .int .u32 p ∧ Hid (z = k - 1) ∧ Hid (p = part E (32 * q) k)) (fun _ t => (intOf t + 1).toNat)
      case atStart => exact ⟨32, 0, 31, by omega, rfl, rfl, (by decide : (31 : Int) = ((32 : Nat) : Int) - 1), (part_top E (32 * q)).symm⟩
      case round =>
        obtain ⟨k, p, z, hk, rfl, rfl, HZ, HP⟩ := hrel
        by_cases hz : 0 ≤ z
        · obtain ⟨k', rfl⟩ := Int.eq_ofNat_of_zero_le hz
          have hkk : k = k' + 1 := by have := HZ.out; omega
          subst hkk
          clear HZ
          have hp := part_lt E (32 * q) (k' + 1) (by omega)
          rw [← HP.out] at hp
          have HS : Hid (part E (32 * q) k' = 2 * p + (E (32 * q + k')).toNat) := by have := part_step E (32 * q) k' (by omega); rw [← HP.out] at this; exact this
          by_cases hin : 32 * q + k' < m
          · obtain ⟨rfl, hc⟩ := hB' (32 * q + k') hin
            have g0 : wr.cell? ⟨b, off + (32 * q + k'), none⟩ = some (.bool (B (32 * q + k'))) := by rw [hs.cell (a := ⟨b, off + (32 * q + k'), none⟩) (hB'.lt (by omega))]; exact hc
            have HEk : Hid (E (32 * q + k') = B (32 * q + k')) := by rw [HE.out]; simp [Hid, ext, hin]
            clear hc
            cases hb : B (32 * q + k')
            · rw [hb] at g0
              have HF : Hid (E (32 * q + k') = false) := HEk.out.trans hb
              clear hb HEk
              go_wp2
              go_light
              exact ⟨⟨k', by omega, 2 * p, by omega, show (k' : Int) = k' from rfl, show 2 * p = _ by rw [HS.out, HF.out]; rfl⟩, by simp [intOf]; omega⟩
            · rw [hb] at g0
              have HF : Hid (E (32 * q + k') = true) := HEk.out.trans hb
              clear hb HEk
              go_wp2
              go_light
              exact ⟨⟨k', by omega, 2 * p + 1, by omega, show (k' : Int) = k' from rfl, show 2 * p + 1 = _ by rw [HS.out, HF.out]; rfl⟩, by simp [intOf]; omega⟩
          · have HF : Hid (E (32 * q + k') = false) := by rw [HE.out]; simp [Hid, ext, hin]
            go_wp2
            go_light
            exact ⟨⟨k', by omega, 2 * p, by omega, show (k' : Int) = k' from rfl, show 2 * p = _ by rw [HS.out, HF.out]; rfl⟩, by simp [intOf]; omega⟩
        · have hk0 : k = 0 := by have := HZ.out; omega
          subst hk0
          go_wp2_with (at_builtin; refine wpList_append_own _ rfl _ _ 23 rfl w1.heap.size 43 i0 (.int .u32 0) 1 4 Tryd.underlying23 hi hz0 hz1 hz2 rfl (by decide) _ _ _ rfl (hown.alloc _) ⟨wr.heap.size, 0, none⟩ 1 1 [.int .u32 p] rfl rfl ?c1 ?c2 ?c3 ?c4 ?c5 ?_)
          case c2 => first | rfl | (intro u hu; simp at hu; subst hu; rfl)
          case c3 => unfold maxLen; omega
          case c4 => omega
          case c5 => have := hs.size; simp; omega
          intro v' w2 hown' hgrow _
          have hs1 : w1.Since w1.heap.size w2 := (hs.alloc hs.size _).grown hgrow (by have := hs.size; simp; omega) (fun k hk => (hown.lt k hk).1)
          rw [HP.out, part_all, ← ll_succ] at hown'
          clear hgrow hown hs
          go_wp2
          go_roundw
          case rel => exact ⟨q + 1, by omega, by go_num, hown', hs1⟩
          case measure => simp [intOf]; omega
    · obtain ⟨a', g, cap', rfl, hmc, hnn, hg, -, -, hL, hf⟩ := own_nat hown w1.heap.size (Nat.le_refl _)
      go_wp2
      go_ret
      refine ⟨a', g, q, cap', limbsOf E, rfl, hmc, hnn, by omega, hL, fun _ => hg, hf, fun j => limbsOf_lt E j, ?_, ?_, hs⟩
      · intro h0
        have hm0 : 0 < m := by omega
        refine limbs_top E m (q - 1) (by omega) (by omega) ?_
        rw [HE.out]
        have := tlen_top B n (by rw [← HM.out]; exact hm0)
        rw [← HM.out] at this
        simp [ext, this]; omega
      · rw [lv_limbs, HE.out, bv_ext B m (32 * q) (by omega), HM.out, bv_tlen]

end Go.Proofs.YtklkohdcilnchaaDoor

namespace Go.Proofs.YtklkohdcilnchaaDoor
open Go.RowKit

set_option maxHeartbeats 800000 in
set_option maxRecDepth 100000 in
theorem l1Open_any (a : Option Addr) (b off n cap : Nat) (X : Nat → Nat) (w : World) (hC : Code w a b off n X) :
    Calls Tryd.prog 23 #[.slice a n cap] w fun e w' => e = .returned (.pointer (some ⟨w.heap.size, 0, none⟩)) ∧ Rd w' w.heap.size a b off n cap X ∧ w.Since w.heap.size w' := by
  have sA : w.Since w.heap.size (w.alloc (.cells #[.slice a n cap, .int .i64 0] 70)) := (World.Since.refl _ _).alloc (Nat.le_refl _) _
  go_enter Tryd.func23, Tryd.ntmps23
  go_wp2
  go_ret
  exact ⟨rfl, ⟨by simp, ⟨0, Nat.zero_le _, by simp⟩, fun k => by simp, hC.keep sA, fun h => Nat.ne_of_lt (hC.lt h)⟩, sA⟩

/-- A list of limbs in an answer, whatever it holds. -/
def Some32 (w : World) (v : Value) (M : Nat) : Prop := ∃ a g n cap X, v = .slice a n cap ∧ n ≤ cap ∧ n ≤ M ∧ (a = none → cap = 0) ∧ Limbs w a g 0 n X ∧ ∀ j, j < n → X j < 4294967296

set_option maxHeartbeats 3200000 in
set_option maxRecDepth 100000 in
theorem drawNatDivMod_any (a : Option Addr) (b off n cap : Nat) (X : Nat → Nat) (w : World) (hn : n ≤ 1048576) (hC : Code w a b off n X) :
    Calls Tryd.prog 16 #[.slice a n cap] w fun e w' => ∃ v1 v2, e = .returned (.tuple #[v1, v2]) ∧ Some32 w' v1 64 ∧ Some32 w' v2 64 ∧ w.Since w.heap.size w' := by
  have hbl := hC.lt
  go_enter Tryd.func16, Tryd.ntmps16
  go_wp2_with fail
  refine (l1Open_any a b off n cap X w hC).mono ?_
  rintro e w1 ⟨rfl, R1, s1⟩
  have z1 := s1.size
  go_wp2_with fail
  refine (next_any w.heap.size a b off n cap X w1 hn R1).mono ?_
  rintro e w2 ⟨k, rfl, hk, R2, O2⟩
  have O02 := (Oth.ofSince w.heap.size s1).trans O2
  have z2 := O02.size
  clear R1 s1 O2
  go_wp2_with fail
  refine (l1DrawNat_any w.heap.size a b off n cap X w2 hn R2 (fun h => by have := hbl h; omega)).mono ?_
  rintro e w3 ⟨gb, nb, cb, B, rfl, kb1, kb2, LB, lB, kb3, kb4, R3, O3⟩
  have O03 := O02.trans O3
  have z3 := O03.size
  have r2l := R2.lt
  clear R2 O3 O02
  go_wp2_with fail
  refine (l1DrawNat_any w.heap.size a b off n cap X w3 hn R3 (fun h => by have := hbl h; omega)).mono ?_
  rintro e w4 ⟨ga, na, ca, A, rfl, ka1, ka2, LA, lA, ka3, ka4, R4, O4⟩
  have O04 := O03.trans O4
  have rl := R3.lt
  have z4 := O4.size
  have LB4 := LB.oth O4 (fun h => by omega)
  have S4 : w.Since w.heap.size w4 := O04.since (Nat.le_refl _)
  clear R3 O4 O03 LB R4 O04
  have SA : Some32 w4 (.slice (some ⟨ga, 0, none⟩) na ca) 64 := ⟨_, ga, na, ca, A, rfl, ka1, by omega, fun h => (by cases h), LA, lA⟩
  have SB : Some32 w4 (.slice (some ⟨gb, 0, none⟩) nb cb) 64 := ⟨_, gb, nb, cb, B, rfl, kb1, by omega, fun h => (by cases h), LB4, lB⟩
  by_cases c1 : (k : Int) % 2 = 1
  · have h1 : ((k : Int) % 2 == 1) = true := by simp [c1]
    go_wp2_with fail
    refine (l1Bits_any (some ⟨ga, 0, none⟩) ga 0 na ca A w4 (by omega) LA lA).mono ?_
    rintro e w5 ⟨a5, g5, m5, c5, B5, rfl, k51, k52, L5, -, p5, e5, s5⟩
    have S5 : w.Since w.heap.size w5 := S4.trans (sinceMono s5 S4.size)
    go_wp2_with fail
    refine (l1Bits_any (some ⟨gb, 0, none⟩) gb 0 nb cb B w5 (by omega) (LB4.keep s5) lB).mono ?_
    rintro e w6 ⟨a6, g6, m6, c6, B6, rfl, k61, k62, L6, -, p6, e6, s6⟩
    have S6 : w.Since w.heap.size w6 := S5.trans (sinceMono s6 S5.size)
    go_wp2_with fail
    refine (l1MulBits_any a5 a6 g5 0 m5 c5 g6 0 m6 c6 B5 B6 w6 (by omega) (by omega) (L5.keep s6) L6).mono ?_
    rintro e w7 ⟨g7, t7, c7, B7, rfl, k71, k72, L7, -, p7, e7, s7⟩
    have S7 : w.Since w.heap.size w7 := S6.trans (sinceMono s7 S6.size)
    have LB7 := ((LB4.keep s5).keep s6).keep s7
    have LA7 := ((LA.keep s5).keep s6).keep s7
    clear L5 L6 e5 e6 e7 p5 p6 s5 s6 s7 LB4 LA SA SB S4 S5 S6
    obtain ⟨kk, hkk⟩ : ∃ kk : Nat, (k : Int) / 16 = (kk : Int) := ⟨k / 16, by omega⟩
    have hkl : kk < 18446744073709551616 := by omega
    go_wp2_with fail
    refine (l1BitsOf_any kk w7 hkl).mono ?_
    rintro e w8 ⟨x8, t8, B8, rfl, k8, T8, -, s8⟩
    have S8 : w.Since w.heap.size w8 := S7.trans (sinceMono s8 S7.size)
    have L78 := L7.keep s8
    have LB8 := LB7.keep s8
    have LA8 := LA7.keep s8
    clear LB7 LA7 L7 s8 S7
    obtain ⟨a8, b8, o8, c8, rfl, k81, L8, p8⟩ := T8
    have SB8 : Some32 w8 (.slice (some ⟨gb, 0, none⟩) nb cb) 64 := ⟨_, gb, nb, cb, B, rfl, kb1, by omega, fun h => (by cases h), LB8, lB⟩
    have SA8 : Some32 w8 (.slice (some ⟨ga, 0, none⟩) na ca) 64 := ⟨_, ga, na, ca, A, rfl, ka1, by omega, fun h => (by cases h), LA8, lA⟩
    by_cases c2 : (k : Int) % 4 = 1
    · have h2 : ((k : Int) % 4 == 1) = true := by simp [c2]
      go_wp2_with fail
      refine (l1AddBits_any (some ⟨g7, 0, none⟩) a8 g7 0 t7 c7 b8 o8 t8 c8 B7 B8 w8 (by omega) (by omega) L78 L8).mono ?_
      rintro e wA ⟨gA, tA, cA, DA, rfl, kA1, kA2, LA1, -, pA, eA, sA⟩
      have SA1 : w.Since w.heap.size wA := S8.trans (sinceMono sA S8.size)
      have LBA := LB8.keep sA
      go_wp2_with fail
      refine (l1Limbs_any2 (some ⟨gA, 0, none⟩) gA 0 tA cA DA wA (by omega) kA1 LA1).mono ?_
      rintro e wB ⟨aB, gB, mB, capB, YB, rfl, kB1, kB2, kB3, LB1, -, -, lB1, -, -, sB⟩
      have SB1 : w.Since w.heap.size wB := SA1.trans (sinceMono sB SA1.size)
      go_wp2
      go_ret2
      exact ⟨_, _, rfl, ⟨_, gB, mB, capB, YB, rfl, kB1, by omega, kB2, LB1, fun j _ => lB1 j⟩, ⟨_, gb, nb, cb, B, rfl, kb1, by omega, fun h => (by cases h), LBA.keep sB, lB⟩, SB1⟩
    · have h2 : ((k : Int) % 4 == 1) = false := by simp [c2]
      go_wp2_with fail
      refine (l1CmpBits_any (some ⟨g7, 0, none⟩) a8 g7 0 t7 c7 b8 o8 t8 c8 B7 B8 w8 (by omega) (by omega) L78 L8 p7 p8).mono ?_
      rintro e w9 ⟨rfl, s9⟩
      by_cases hle : bv B8 t8 ≤ bv B7 t7
      · have hcp := cmpN_nonneg hle
        have htl : t8 ≤ t7 := by
          rcases Nat.lt_or_ge t7 t8 with h | h
          · have := bv_short (A := B7) (B := B8) h p8
            omega
          · exact h
        have HLE := hide hle
        clear hle
        have S9 : w.Since w.heap.size w9 := S8.trans (s9.since _)
        go_wp2_with fail
        refine (l1SubBits_any (some ⟨g7, 0, none⟩) a8 g7 0 t7 c7 b8 o8 t8 c8 B7 B8 w9 (by omega) htl (L78.same s9) (L8.same s9) HLE.out).mono ?_
        rintro e wA ⟨gA, tA, cA, DA, rfl, kA1, kA2, LA1, -, pA, eA, sA⟩
        have SA1 : w.Since w.heap.size wA := S9.trans (sinceMono sA S9.size)
        have LBA := (LB8.same s9).keep sA
        go_wp2_with fail
        refine (l1Limbs_any2 (some ⟨gA, 0, none⟩) gA 0 tA cA DA wA (by omega) kA1 LA1).mono ?_
        rintro e wB ⟨aB, gB, mB, capB, YB, rfl, kB1, kB2, kB3, LB1, -, -, lB1, -, -, sB⟩
        have SB1 : w.Since w.heap.size wB := SA1.trans (sinceMono sB SA1.size)
        go_wp2
        go_ret2
        exact ⟨_, _, rfl, ⟨_, gB, mB, capB, YB, rfl, kB1, by omega, kB2, LB1, fun j _ => lB1 j⟩, ⟨_, gb, nb, cb, B, rfl, kb1, by omega, fun h => (by cases h), LBA.keep sB, lB⟩, SB1⟩
      · have hcp := cmpN_neg (Nat.lt_of_not_le hle)
        have hge : ¬ ((0 : Int) ≤ cmpN (bv B7 t7) (bv B8 t8)) := by omega
        clear hle
        go_wp2_with fail
        go_ret2
        exact ⟨_, _, rfl, ⟨_, ga, na, ca, A, rfl, ka1, by omega, fun h => (by cases h), LA8.same s9, lA⟩, ⟨_, gb, nb, cb, B, rfl, kb1, by omega, fun h => (by cases h), LB8.same s9, lB⟩, S8.trans (s9.since _)⟩
  · have h1 : ((k : Int) % 2 == 1) = false := by simp [c1]
    go_wp2_with fail
    go_ret2
    exact ⟨_, _, rfl, SA, SB, S4⟩

end Go.Proofs.YtklkohdcilnchaaDoor
