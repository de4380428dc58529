import Derived.Test.YtdfcckifbbeoiaaOwnP3
import Derived.Test.YtdfcckifbbeoiaaG3P4
import Derived.Laws.AppendOwnNone
import Derived.Test.YtdfcckifbbeoiaaG3P3
import Derived.Test.YtdfcckifbbeoiaaG2P4
import Derived.Test.YtdfcckifbbeoiaaG2P6
namespace Go.Proofs.Ytdfcckifbbeoiaa
open Go.RowKit

set_option maxHeartbeats 1600000 in
set_option maxRecDepth 100000 in
/-- l1Copy of a Rat whose lists are not nil: nor are the answer's. -/
theorem l1Copy_some (f : Bool) (x y : Addr) (ba oa n ca bb ob m cb : Nat) (X Y : Nat → Nat) (w : World) (hn : n ≤ 1048576) (hm : m ≤ 1048576) (_hnc : n ≤ ca) (_hmc : m ≤ cb) (hX : Limbs w (some x) ba oa n X) (hY : Limbs w (some y) bb ob m Y) :
    Calls Try.prog 97 #[.agg #[.bool f, .slice (some x) n ca, .slice (some y) m cb]] w fun e w' => ∃ g h c1 c2, e = .returned (.agg #[.bool f, .slice (some ⟨g, 0, none⟩) n c1, .slice (some ⟨h, 0, none⟩) m c2]) ∧ n ≤ c1 ∧ m ≤ c2 ∧
      Limbs w' (some ⟨g, 0, none⟩) g 0 n X ∧ Limbs w' (some ⟨h, 0, none⟩) h 0 m Y ∧ (0 < n → ∀ o, w'.frozen? ⟨g, o, none⟩ = false) ∧ (0 < m → ∀ o, w'.frozen? ⟨h, o, none⟩ = false) ∧ w.heap.size ≤ g ∧ g < h ∧ h < w'.heap.size ∧ w.Since w.heap.size w' := by
  obtain ⟨i0, hi, hz0, hz1, hz2⟩ := info_parts Try.info35
  have sA : w.Since w.heap.size ((w.alloc (.cells #[.bool f, .slice (some x) n ca, .slice (some y) m cb] 27)).alloc (.cells #[.bool false, .slice none 0 0, .slice none 0 0] 27)) := ((World.Since.refl _ _).alloc (Nat.le_refl _) _).alloc (by simp) _
  have oA : Box3 ((w.alloc (.cells #[.bool f, .slice (some x) n ca, .slice (some y) m cb] 27)).alloc (.cells #[.bool false, .slice none 0 0, .slice none 0 0] 27)) w.heap.size (.bool f) (.slice (some x) n ca) (.slice (some y) m cb) := (Box3.new w _ _ _ _).keep ((World.Since.refl _ _).alloc (Nat.le_refl _) _)
  have tB : ((w.alloc (.cells #[.bool f, .slice (some x) n ca, .slice (some y) m cb] 27)).alloc (.cells #[.bool false, .slice none 0 0, .slice none 0 0] 27)).Since ((w.alloc (.cells #[.bool f, .slice (some x) n ca, .slice (some y) m cb] 27)).alloc (.cells #[.bool false, .slice none 0 0, .slice none 0 0] 27)).heap.size (((w.alloc (.cells #[.bool f, .slice (some x) n ca, .slice (some y) m cb] 27)).alloc (.cells #[.bool false, .slice none 0 0, .slice none 0 0] 27)).alloc (.cells #[] 35)) := (World.Since.refl _ _).alloc (Nat.le_refl _) _
  have SB := sA.trans (sinceMono tB sA.size)
  have X1 := hX.keep SB
  have own1 := World.ownsRow_made (e := 35) (size := 1) ((w.alloc (.cells #[.bool f, .slice (some x) n ca, .slice (some y) m cb] 27)).alloc (.cells #[.bool false, .slice none 0 0, .slice none 0 0] 27)) #[] 0 (Nat.le_refl _) (by decide) rfl
  have zA : ((w.alloc (.cells #[.bool f, .slice (some x) n ca, .slice (some y) m cb] 27)).alloc (.cells #[.bool false, .slice none 0 0, .slice none 0 0] 27)).heap.size = w.heap.size + 1 + 1 := by simp
  have own0 := World.ownsRow_made (e := 35) (size := 1) ((w.alloc (.cells #[.bool f, .slice (some x) n ca, .slice (some y) m cb] 27)).alloc (.cells #[.bool false, .slice none 0 0, .slice none 0 0] 27)) #[] 0 (Nat.le_refl _) (by decide) rfl
  rw [zA] at own1
  have zA' := zA
  have rA : Box3 ((w.alloc (.cells #[.bool f, .slice (some x) n ca, .slice (some y) m cb] 27)).alloc (.cells #[.bool false, .slice none 0 0, .slice none 0 0] 27)) (w.heap.size + 1) (.bool false) (.slice none 0 0) (.slice none 0 0) := by
    have := Box3.new (w.alloc (.cells #[.bool f, .slice (some x) n ca, .slice (some y) m cb] 27)) (.bool false) (.slice none 0 0) (.slice none 0 0) 27
    simpa using this
  have HZA := hide zA'
  clear zA zA'
  go_enter Try.func97, Try.ntmps97
  go_wp2_with (at_builtin; refine wpList_append_own _ rfl _ _ 23 rfl (w.heap.size + 1 + 1) 35 i0 (.int .u32 0) 1 4 Try.underlying23 hi hz0 hz1 hz2 rfl (by decide) _ 0 [] rfl own1 x n ca (ll X n) rfl (by rw [ll_len]; omega) (limbs_news X1) (ll_one X n) (by unfold maxLen; omega) (by omega) (by simp) ?_)
  intro v1 w2 own2 grow2 nn2
  have tC : ((w.alloc (.cells #[.bool f, .slice (some x) n ca, .slice (some y) m cb] 27)).alloc (.cells #[.bool false, .slice none 0 0, .slice none 0 0] 27)).Since ((w.alloc (.cells #[.bool f, .slice (some x) n ca, .slice (some y) m cb] 27)).alloc (.cells #[.bool false, .slice none 0 0, .slice none 0 0] 27)).heap.size w2 := tB.grown grow2 (Nat.le_trans (Nat.le_refl _) tB.size) (fun k hk => by
    have := own0.lt k (by rw [HZA.out]; exact hk)
    exact this.1)
  have SC : w.Since w.heap.size w2 := sA.trans (sinceMono tC sA.size)
  have o2 := oA.keep tC
  have r2 := rA.keep tC
  have HN := hide nn2
  clear grow2 own1 nn2
  generalize ((w.alloc (.cells #[.bool f, .slice (some x) n ca, .slice (some y) m cb] 27)).alloc (.cells #[.bool false, .slice none 0 0, .slice none 0 0] 27)) = wA at *
  have tD : w2.Since w2.heap.size (w2.alloc (.cells #[] 35)) := (World.Since.refl _ _).alloc (Nat.le_refl _) _
  have SD := SC.trans (sinceMono tD SC.size)
  have Y1 := hY.keep SD
  have own3 := World.ownsRow_made (e := 35) (size := 1) w2 #[] 0 (Nat.le_refl _) (by decide) rfl
  have o3 := o2.keep tD
  have k2 := o3.c2
  go_wp2_with (at_builtin; refine wpList_append_own _ rfl _ _ 23 rfl w2.heap.size 35 i0 (.int .u32 0) 1 4 Try.underlying23 hi hz0 hz1 hz2 rfl (by decide) _ 0 [] rfl own3 y m cb (ll Y m) rfl (by rw [ll_len]; omega) (limbs_news Y1) (ll_one Y m) (by unfold maxLen; omega) (by omega) tD.size ?_)
  intro v3 w4 own4 grow4 nn4
  have tE : w2.Since w2.heap.size w4 := tD.grown grow4 tD.size (fun k hk => (own3.lt k hk).1)
  have SE := SC.trans (sinceMono tE SC.size)
  have o4 := o2.keep tE
  have r4 := r2.keep tE
  obtain ⟨g1, c1, rfl, m1, b1, l1, L1, F1⟩ := own_limbs_some own2 HN.out
  obtain ⟨g2, c2, rfl, m2, b2, l2, L2, F2⟩ := own_limbs_some own4 nn4
  clear grow4 own3 nn4 k2 o3
  have j0 := o4.c0
  have u0 := r4.c0
  have u1 := r4.c1
  have u2 := r4.c2
  have uf0 := r4.f 0
  have uf1 := r4.f 1
  have uf2 := r4.f 2
  go_wp2
  have zC := tC.size
  have zE := tE.size
  have rC := ((r4.set0 (.bool f)).set1 (.slice (some ⟨g1, 0, none⟩) n c1)).set2 (.slice (some ⟨g2, 0, none⟩) m c2)
  refine bodyPost_ret (results_box3 rfl _ _ _ _ _ _ rfl rC) rfl ?_
  have M : Marked w4 _ (w.heap.size + 1) := (((Marked.refl w4 _).setCell 0 (.bool f)).setCell 1 (.slice (some ⟨g1, 0, none⟩) n c1)).setCell 2 (.slice (some ⟨g2, 0, none⟩) m c2)
  have hz := HZA.out
  have zM := M.size
  refine ⟨g1, g2, c1, c2, rfl, m1, m2, (L1.keep tE).marked M (fun _ => by omega), L2.marked M (fun _ => by omega), fun _ o => ?_, fun _ o => ?_, by omega, by omega, by omega, SE.trans (M.since (by omega))⟩
  · rw [M.frozenO (a := ⟨g1, o, none⟩) (by show g1 ≠ _; omega), tE.frozen (a := ⟨g1, o, none⟩) l1]; exact F1 o
  · rw [M.frozenO (a := ⟨g2, o, none⟩) (by show g2 ≠ _; omega)]; exact F2 o


set_option maxHeartbeats 1600000 in
set_option maxRecDepth 100000 in
theorem l1Neg_any (f : Bool) (x y : Addr) (ba oa n ca bb ob m cb : Nat) (X Y : Nat → Nat) (w : World) (hn : n ≤ 1048576) (hm : m ≤ 1048576) (hnc : n ≤ ca) (hmc : m ≤ cb) (hX : Limbs w (some x) ba oa n X) (hY : Limbs w (some y) bb ob m Y) :
    Calls Try.prog 106 #[.agg #[.bool f, .slice (some x) n ca, .slice (some y) m cb]] w fun e w' => ∃ g h c1 c2, e = .returned (.agg #[.bool (!f && decide (0 < n)), .slice (some ⟨g, 0, none⟩) n c1, .slice (some ⟨h, 0, none⟩) m c2]) ∧ n ≤ c1 ∧ m ≤ c2 ∧
      Limbs w' (some ⟨g, 0, none⟩) g 0 n X ∧ Limbs w' (some ⟨h, 0, none⟩) h 0 m Y ∧ w.heap.size ≤ g ∧ g < h ∧ h < w'.heap.size ∧ w.Since w.heap.size w' := by
  have sA : w.Since w.heap.size ((w.alloc (.cells #[.bool f, .slice (some x) n ca, .slice (some y) m cb] 27)).alloc (.cells #[.bool false, .slice none 0 0, .slice none 0 0] 27)) := ((World.Since.refl _ _).alloc (Nat.le_refl _) _).alloc (by simp) _
  have oA : Box3 ((w.alloc (.cells #[.bool f, .slice (some x) n ca, .slice (some y) m cb] 27)).alloc (.cells #[.bool false, .slice none 0 0, .slice none 0 0] 27)) w.heap.size (.bool f) (.slice (some x) n ca) (.slice (some y) m cb) := (Box3.new w _ _ _ _).keep ((World.Since.refl _ _).alloc (Nat.le_refl _) _)
  have rA : Box3 ((w.alloc (.cells #[.bool f, .slice (some x) n ca, .slice (some y) m cb] 27)).alloc (.cells #[.bool false, .slice none 0 0, .slice none 0 0] 27)) (w.heap.size + 1) (.bool false) (.slice none 0 0) (.slice none 0 0) := by
    have := Box3.new (w.alloc (.cells #[.bool f, .slice (some x) n ca, .slice (some y) m cb] 27)) (.bool false) (.slice none 0 0) (.slice none 0 0) 27
    simpa using this
  go_enter Try.func106, Try.ntmps106
  go_wp2_with fail
  generalize ((w.alloc (.cells #[.bool f, .slice (some x) n ca, .slice (some y) m cb] 27)).alloc (.cells #[.bool false, .slice none 0 0, .slice none 0 0] 27)) = w1 at *
  refine (l1Copy_some f x y ba oa n ca bb ob m cb X Y w1 hn hm hnc hmc (hX.keep sA) (hY.keep sA)).mono ?_
  rintro e w2 ⟨g, h, c1, c2, rfl, m1, m2, L1, L2, -, -, b1, b2, b3, s2⟩
  have S2 : w.Since w.heap.size w2 := sA.trans (sinceMono s2 sA.size)
  have z1 := rA.lt
  have t3 : w2.Since w2.heap.size (w2.alloc (.cells #[.bool f, .slice (some ⟨g, 0, none⟩) n c1, .slice (some ⟨h, 0, none⟩) m c2] 27)) := (World.Since.refl _ _).alloc (Nat.le_refl _) _
  have q3 := Box3.new w2 (.bool f) (.slice (some ⟨g, 0, none⟩) n c1) (.slice (some ⟨h, 0, none⟩) m c2) 27
  have o3 := (oA.keep s2).keep t3
  have r3 := (rA.keep s2).keep t3
  have k0 := o3.c0
  have k1 := o3.c1
  have j0 := q3.c0
  have j1 := q3.c1
  have j2 := q3.c2
  have jf := q3.f 0
  have hne : w.heap.size ≠ w2.heap.size := by omega
  have hne2 : w.heap.size + 1 ≠ w2.heap.size := by omega
  have r2 := rA.keep s2
  cases f
  · by_cases hn0 : 0 < n
    · have hgt : (0 : Int) < (n : Int) := by omega
      have t4 : w2.Since w2.heap.size (w2.alloc (.cells #[.bool true, .slice (some ⟨g, 0, none⟩) n c1, .slice (some ⟨h, 0, none⟩) m c2] 27)) := (World.Since.refl _ _).alloc (Nat.le_refl _) _
      have q4 := Box3.new w2 (.bool true) (.slice (some ⟨g, 0, none⟩) n c1) (.slice (some ⟨h, 0, none⟩) m c2) 27
      have r4 := r2.keep t4
      have S4 := S2.trans (sinceMono t4 S2.size)
      have i0 := q4.c0
      have i1 := q4.c1
      have i2 := q4.c2
      have u0 := r4.c0
      have u1 := r4.c1
      have u2 := r4.c2
      have uf0 := r4.f 0
      have uf1 := r4.f 1
      have uf2 := r4.f 2
      go_wp2
      have rC := ((r4.set0 (.bool true)).set1 (.slice (some ⟨g, 0, none⟩) n c1)).set2 (.slice (some ⟨h, 0, none⟩) m c2)
      refine bodyPost_ret (results_box3 rfl _ _ _ _ _ _ rfl rC) rfl ?_
      have M5 : Marked (w2.alloc (.cells #[.bool true, .slice (some ⟨g, 0, none⟩) n c1, .slice (some ⟨h, 0, none⟩) m c2] 27)) _ (w.heap.size + 1) := (((Marked.refl (w2.alloc (.cells #[.bool true, .slice (some ⟨g, 0, none⟩) n c1, .slice (some ⟨h, 0, none⟩) m c2] 27)) _).setCell 0 (.bool true)).setCell 1 (.slice (some ⟨g, 0, none⟩) n c1)).setCell 2 (.slice (some ⟨h, 0, none⟩) m c2)
      have zM := M5.size
      have zq : w2.heap.size ≤ (w2.alloc (.cells #[.bool true, .slice (some ⟨g, 0, none⟩) n c1, .slice (some ⟨h, 0, none⟩) m c2] 27)).heap.size := t4.size
      exact ⟨g, h, c1, c2, by simp [hn0], m1, m2, (L1.keep t4).marked M5 (fun _ => by omega), (L2.keep t4).marked M5 (fun _ => by omega), by omega, by omega, by omega, S4.trans (M5.since (by omega))⟩
    · have hgt : ¬ (0 : Int) < (n : Int) := by omega
      have t4 : w2.Since w2.heap.size (w2.alloc (.cells #[.bool false, .slice (some ⟨g, 0, none⟩) n c1, .slice (some ⟨h, 0, none⟩) m c2] 27)) := (World.Since.refl _ _).alloc (Nat.le_refl _) _
      have q4 := Box3.new w2 (.bool false) (.slice (some ⟨g, 0, none⟩) n c1) (.slice (some ⟨h, 0, none⟩) m c2) 27
      have r4 := r2.keep t4
      have S4 := S2.trans (sinceMono t4 S2.size)
      have i0 := q4.c0
      have i1 := q4.c1
      have i2 := q4.c2
      have u0 := r4.c0
      have u1 := r4.c1
      have u2 := r4.c2
      have uf0 := r4.f 0
      have uf1 := r4.f 1
      have uf2 := r4.f 2
      go_wp2
      have rC := ((r4.set0 (.bool false)).set1 (.slice (some ⟨g, 0, none⟩) n c1)).set2 (.slice (some ⟨h, 0, none⟩) m c2)
      refine bodyPost_ret (results_box3 rfl _ _ _ _ _ _ rfl rC) rfl ?_
      have M5 : Marked (w2.alloc (.cells #[.bool false, .slice (some ⟨g, 0, none⟩) n c1, .slice (some ⟨h, 0, none⟩) m c2] 27)) _ (w.heap.size + 1) := (((Marked.refl (w2.alloc (.cells #[.bool false, .slice (some ⟨g, 0, none⟩) n c1, .slice (some ⟨h, 0, none⟩) m c2] 27)) _).setCell 0 (.bool false)).setCell 1 (.slice (some ⟨g, 0, none⟩) n c1)).setCell 2 (.slice (some ⟨h, 0, none⟩) m c2)
      have zM := M5.size
      have zq : w2.heap.size ≤ (w2.alloc (.cells #[.bool false, .slice (some ⟨g, 0, none⟩) n c1, .slice (some ⟨h, 0, none⟩) m c2] 27)).heap.size := t4.size
      exact ⟨g, h, c1, c2, by simp [hn0], m1, m2, (L1.keep t4).marked M5 (fun _ => by omega), (L2.keep t4).marked M5 (fun _ => by omega), by omega, by omega, by omega, S4.trans (M5.since (by omega))⟩
  · have t4 : w2.Since w2.heap.size (w2.alloc (.cells #[.bool false, .slice (some ⟨g, 0, none⟩) n c1, .slice (some ⟨h, 0, none⟩) m c2] 27)) := (World.Since.refl _ _).alloc (Nat.le_refl _) _
    have q4 := Box3.new w2 (.bool false) (.slice (some ⟨g, 0, none⟩) n c1) (.slice (some ⟨h, 0, none⟩) m c2) 27
    have r4 := r2.keep t4
    have S4 := S2.trans (sinceMono t4 S2.size)
    have i0 := q4.c0
    have i1 := q4.c1
    have i2 := q4.c2
    have u0 := r4.c0
    have u1 := r4.c1
    have u2 := r4.c2
    have uf0 := r4.f 0
    have uf1 := r4.f 1
    have uf2 := r4.f 2
    go_wp2
    have rC := ((r4.set0 (.bool false)).set1 (.slice (some ⟨g, 0, none⟩) n c1)).set2 (.slice (some ⟨h, 0, none⟩) m c2)
    refine bodyPost_ret (results_box3 rfl _ _ _ _ _ _ rfl rC) rfl ?_
    have M5 : Marked (w2.alloc (.cells #[.bool false, .slice (some ⟨g, 0, none⟩) n c1, .slice (some ⟨h, 0, none⟩) m c2] 27)) _ (w.heap.size + 1) := (((Marked.refl (w2.alloc (.cells #[.bool false, .slice (some ⟨g, 0, none⟩) n c1, .slice (some ⟨h, 0, none⟩) m c2] 27)) _).setCell 0 (.bool false)).setCell 1 (.slice (some ⟨g, 0, none⟩) n c1)).setCell 2 (.slice (some ⟨h, 0, none⟩) m c2)
    have zM := M5.size
    have zq : w2.heap.size ≤ (w2.alloc (.cells #[.bool false, .slice (some ⟨g, 0, none⟩) n c1, .slice (some ⟨h, 0, none⟩) m c2] 27)).heap.size := t4.size
    exact ⟨g, h, c1, c2, rfl, m1, m2, (L1.keep t4).marked M5 (fun _ => by omega), (L2.keep t4).marked M5 (fun _ => by omega), by omega, by omega, by omega, S4.trans (M5.since (by omega))⟩

end Go.Proofs.Ytdfcckifbbeoiaa

namespace Go.Proofs.Ytdfcckifbbeoiaa
open Go.RowKit

/-- An append to a row of one's own, from a list that may be nil. -/
theorem wpList_append_own_opt {P : Program} (w : World) {ops : Array Oper} {rest : List Oper} {o : Oper} {a : Act} {Q : Exit → Act → World → Prop} (hgd : o.guard = none) (s x : Operand) (t : TypeId)
    (ho : o.op = .call { callee := .builtin .append, args := #[s, x], argTypes := #[t, t] })
    (base : Nat) (e : TypeId) (i : TypeInfo) (z : Value) (size bytes : Nat) (ht : P.underlying t = some (.slice e)) (hi : P.info? e = some i) (hz : i.zero = some z)
    (hsize : i.size = size) (hby : i.bytes = bytes) (hzs : z.cells.size = size) (hsz : 0 < size)
    (v : Value) (n : Nat) (xs : List Value) (hs : a.eval s = v) (hown : w.ownsRow base e size v n xs)
    (q : Option Addr) (m c : Nat) (news : List Value) (hx : a.eval x = .slice q m c) (hl : news.length = m * size) (hq : q = none → m = 0 ∧ c = 0) (hnews : ∀ ad, q = some ad → ∀ j u, news[j]? = some u → w.cell? (ad.add j) = some u) (h1 : ∀ u ∈ news, u.oneCell' = true)
    (h63 : n + m ≤ maxLen) (hbytes : (n + m) * bytes ≤ 140737488355328) (hbase : base ≤ w.heap.size)
    (h : ∀ v' w', w'.ownsRow base e size v' (n + m) (xs ++ news) → w.grownBy w' v.ownBlock → (v' = .slice none 0 0 ↔ v = .slice none 0 0 ∧ m = 0) → wpList P ops Q rest (a.put o.dst v') w') : wpList P ops Q (o :: rest) a w := by
  rcases q with _ | ad
  · obtain ⟨rfl, rfl⟩ := hq rfl
    obtain rfl : news = [] := List.length_eq_zero_iff.mp (by omega)
    refine wpList_append_own_none hgd s x t ho base e i size ht hi v n xs hs hown hx (h v w ?_ ?_ ?_)
    · rw [List.append_nil]; exact hown
    · exact ⟨rfl, rfl, rfl, Nat.le_refl _, fun _ _ _ => rfl⟩
    · simp
  · exact wpList_append_own w hgd s x t ho base e i z size bytes ht hi hz hsize hby hzs hsz v n xs hs hown ad m c news hx hl (hnews ad rfl) h1 h63 hbytes hbase h

theorem limbs_newsO {w : World} {a : Option Addr} {b off n : Nat} {X : Nat → Nat} (h : Limbs w a b off n X) : ∀ ad, a = some ad → ∀ j u, (ll X n)[j]? = some u → w.cell? (ad.add j) = some u := by
  intro ad e
  subst e
  exact limbs_news h

set_option maxHeartbeats 1600000 in
set_option maxRecDepth 100000 in
/-- l1Copy of a Rat whose lists are not nil: nor are the answer's. -/
theorem l1Copy_opt (f : Bool) (x y : Option Addr) (ba oa n ca bb ob m cb : Nat) (X Y : Nat → Nat) (w : World) (hn : n ≤ 1048576) (hm : m ≤ 1048576) (hnc : n ≤ ca) (hmc : m ≤ cb) (hxc : x = none → ca = 0) (hyc : y = none → cb = 0) (hX : Limbs w x ba oa n X) (hY : Limbs w y bb ob m Y) :
    Calls Try.prog 97 #[.agg #[.bool f, .slice x n ca, .slice y m cb]] w fun e w' => ∃ g h c1 c2, e = .returned (.agg #[.bool f, .slice (some ⟨g, 0, none⟩) n c1, .slice (some ⟨h, 0, none⟩) m c2]) ∧ n ≤ c1 ∧ m ≤ c2 ∧
      Limbs w' (some ⟨g, 0, none⟩) g 0 n X ∧ Limbs w' (some ⟨h, 0, none⟩) h 0 m Y ∧ (0 < n → ∀ o, w'.frozen? ⟨g, o, none⟩ = false) ∧ (0 < m → ∀ o, w'.frozen? ⟨h, o, none⟩ = false) ∧ w.heap.size ≤ g ∧ g < h ∧ h < w'.heap.size ∧ w.Since w.heap.size w' := by
  obtain ⟨i0, hi, hz0, hz1, hz2⟩ := info_parts Try.info35
  have sA : w.Since w.heap.size ((w.alloc (.cells #[.bool f, .slice x n ca, .slice y m cb] 27)).alloc (.cells #[.bool false, .slice none 0 0, .slice none 0 0] 27)) := ((World.Since.refl _ _).alloc (Nat.le_refl _) _).alloc (by simp) _
  have oA : Box3 ((w.alloc (.cells #[.bool f, .slice x n ca, .slice y m cb] 27)).alloc (.cells #[.bool false, .slice none 0 0, .slice none 0 0] 27)) w.heap.size (.bool f) (.slice x n ca) (.slice y m cb) := (Box3.new w _ _ _ _).keep ((World.Since.refl _ _).alloc (Nat.le_refl _) _)
  have tB : ((w.alloc (.cells #[.bool f, .slice x n ca, .slice y m cb] 27)).alloc (.cells #[.bool false, .slice none 0 0, .slice none 0 0] 27)).Since ((w.alloc (.cells #[.bool f, .slice x n ca, .slice y m cb] 27)).alloc (.cells #[.bool false, .slice none 0 0, .slice none 0 0] 27)).heap.size (((w.alloc (.cells #[.bool f, .slice x n ca, .slice y m cb] 27)).alloc (.cells #[.bool false, .slice none 0 0, .slice none 0 0] 27)).alloc (.cells #[] 35)) := (World.Since.refl _ _).alloc (Nat.le_refl _) _
  have SB := sA.trans (sinceMono tB sA.size)
  have X1 := hX.keep SB
  have own1 := World.ownsRow_made (e := 35) (size := 1) ((w.alloc (.cells #[.bool f, .slice x n ca, .slice y m cb] 27)).alloc (.cells #[.bool false, .slice none 0 0, .slice none 0 0] 27)) #[] 0 (Nat.le_refl _) (by decide) rfl
  have zA : ((w.alloc (.cells #[.bool f, .slice x n ca, .slice y m cb] 27)).alloc (.cells #[.bool false, .slice none 0 0, .slice none 0 0] 27)).heap.size = w.heap.size + 1 + 1 := by simp
  have own0 := World.ownsRow_made (e := 35) (size := 1) ((w.alloc (.cells #[.bool f, .slice x n ca, .slice y m cb] 27)).alloc (.cells #[.bool false, .slice none 0 0, .slice none 0 0] 27)) #[] 0 (Nat.le_refl _) (by decide) rfl
  rw [zA] at own1
  have zA' := zA
  have rA : Box3 ((w.alloc (.cells #[.bool f, .slice x n ca, .slice y m cb] 27)).alloc (.cells #[.bool false, .slice none 0 0, .slice none 0 0] 27)) (w.heap.size + 1) (.bool false) (.slice none 0 0) (.slice none 0 0) := by
    have := Box3.new (w.alloc (.cells #[.bool f, .slice x n ca, .slice y m cb] 27)) (.bool false) (.slice none 0 0) (.slice none 0 0) 27
    simpa using this
  have HZA := hide zA'
  clear zA zA'
  go_enter Try.func97, Try.ntmps97
  go_wp2_with (at_builtin; refine wpList_append_own_opt _ rfl _ _ 23 rfl (w.heap.size + 1 + 1) 35 i0 (.int .u32 0) 1 4 Try.underlying23 hi hz0 hz1 hz2 rfl (by decide) _ 0 [] rfl own1 x n ca (ll X n) rfl (by rw [ll_len]; omega) (fun e => by have := hxc e; omega) (limbs_newsO X1) (ll_one X n) (by unfold maxLen; omega) (by omega) (by simp) ?_)
  intro v1 w2 own2 grow2 nn2
  have tC : ((w.alloc (.cells #[.bool f, .slice x n ca, .slice y m cb] 27)).alloc (.cells #[.bool false, .slice none 0 0, .slice none 0 0] 27)).Since ((w.alloc (.cells #[.bool f, .slice x n ca, .slice y m cb] 27)).alloc (.cells #[.bool false, .slice none 0 0, .slice none 0 0] 27)).heap.size w2 := tB.grown grow2 (Nat.le_trans (Nat.le_refl _) tB.size) (fun k hk => by
    have := own0.lt k (by rw [HZA.out]; exact hk)
    exact this.1)
  have SC : w.Since w.heap.size w2 := sA.trans (sinceMono tC sA.size)
  have o2 := oA.keep tC
  have r2 := rA.keep tC
  have HN := hide nn2
  clear grow2 own1 nn2
  generalize ((w.alloc (.cells #[.bool f, .slice x n ca, .slice y m cb] 27)).alloc (.cells #[.bool false, .slice none 0 0, .slice none 0 0] 27)) = wA at *
  have tD : w2.Since w2.heap.size (w2.alloc (.cells #[] 35)) := (World.Since.refl _ _).alloc (Nat.le_refl _) _
  have SD := SC.trans (sinceMono tD SC.size)
  have Y1 := hY.keep SD
  have own3 := World.ownsRow_made (e := 35) (size := 1) w2 #[] 0 (Nat.le_refl _) (by decide) rfl
  have o3 := o2.keep tD
  have k2 := o3.c2
  go_wp2_with (at_builtin; refine wpList_append_own_opt _ rfl _ _ 23 rfl w2.heap.size 35 i0 (.int .u32 0) 1 4 Try.underlying23 hi hz0 hz1 hz2 rfl (by decide) _ 0 [] rfl own3 y m cb (ll Y m) rfl (by rw [ll_len]; omega) (fun e => by have := hyc e; omega) (limbs_newsO Y1) (ll_one Y m) (by unfold maxLen; omega) (by omega) tD.size ?_)
  intro v3 w4 own4 grow4 nn4
  have tE : w2.Since w2.heap.size w4 := tD.grown grow4 tD.size (fun k hk => (own3.lt k hk).1)
  have SE := SC.trans (sinceMono tE SC.size)
  have o4 := o2.keep tE
  have r4 := r2.keep tE
  obtain ⟨g1, c1, rfl, m1, b1, l1, L1, F1⟩ := own_limbs_some own2 HN.out
  obtain ⟨g2, c2, rfl, m2, b2, l2, L2, F2⟩ := own_limbs_some own4 nn4
  clear grow4 own3 nn4 k2 o3
  have j0 := o4.c0
  have u0 := r4.c0
  have u1 := r4.c1
  have u2 := r4.c2
  have uf0 := r4.f 0
  have uf1 := r4.f 1
  have uf2 := r4.f 2
  go_wp2
  have zC := tC.size
  have zE := tE.size
  have rC := ((r4.set0 (.bool f)).set1 (.slice (some ⟨g1, 0, none⟩) n c1)).set2 (.slice (some ⟨g2, 0, none⟩) m c2)
  refine bodyPost_ret (results_box3 rfl _ _ _ _ _ _ rfl rC) rfl ?_
  have M : Marked w4 _ (w.heap.size + 1) := (((Marked.refl w4 _).setCell 0 (.bool f)).setCell 1 (.slice (some ⟨g1, 0, none⟩) n c1)).setCell 2 (.slice (some ⟨g2, 0, none⟩) m c2)
  have hz := HZA.out
  have zM := M.size
  refine ⟨g1, g2, c1, c2, rfl, m1, m2, (L1.keep tE).marked M (fun _ => by omega), L2.marked M (fun _ => by omega), fun _ o => ?_, fun _ o => ?_, by omega, by omega, by omega, SE.trans (M.since (by omega))⟩
  · rw [M.frozenO (a := ⟨g1, o, none⟩) (by show g1 ≠ _; omega), tE.frozen (a := ⟨g1, o, none⟩) l1]; exact F1 o
  · rw [M.frozenO (a := ⟨g2, o, none⟩) (by show g2 ≠ _; omega)]; exact F2 o

set_option maxHeartbeats 1600000 in
set_option maxRecDepth 100000 in
theorem l1Neg_opt (f : Bool) (x y : Option Addr) (ba oa n ca bb ob m cb : Nat) (X Y : Nat → Nat) (w : World) (hn : n ≤ 1048576) (hm : m ≤ 1048576) (hnc : n ≤ ca) (hmc : m ≤ cb) (hxc : x = none → ca = 0) (hyc : y = none → cb = 0) (hX : Limbs w x ba oa n X) (hY : Limbs w y bb ob m Y) :
    Calls Try.prog 106 #[.agg #[.bool f, .slice x n ca, .slice y m cb]] w fun e w' => ∃ g h c1 c2, e = .returned (.agg #[.bool (!f && decide (0 < n)), .slice (some ⟨g, 0, none⟩) n c1, .slice (some ⟨h, 0, none⟩) m c2]) ∧ n ≤ c1 ∧ m ≤ c2 ∧
      Limbs w' (some ⟨g, 0, none⟩) g 0 n X ∧ Limbs w' (some ⟨h, 0, none⟩) h 0 m Y ∧ w.heap.size ≤ g ∧ g < h ∧ h < w'.heap.size ∧ w.Since w.heap.size w' := by
  have sA : w.Since w.heap.size ((w.alloc (.cells #[.bool f, .slice x n ca, .slice y m cb] 27)).alloc (.cells #[.bool false, .slice none 0 0, .slice none 0 0] 27)) := ((World.Since.refl _ _).alloc (Nat.le_refl _) _).alloc (by simp) _
  have oA : Box3 ((w.alloc (.cells #[.bool f, .slice x n ca, .slice y m cb] 27)).alloc (.cells #[.bool false, .slice none 0 0, .slice none 0 0] 27)) w.heap.size (.bool f) (.slice x n ca) (.slice y m cb) := (Box3.new w _ _ _ _).keep ((World.Since.refl _ _).alloc (Nat.le_refl _) _)
  have rA : Box3 ((w.alloc (.cells #[.bool f, .slice x n ca, .slice y m cb] 27)).alloc (.cells #[.bool false, .slice none 0 0, .slice none 0 0] 27)) (w.heap.size + 1) (.bool false) (.slice none 0 0) (.slice none 0 0) := by
    have := Box3.new (w.alloc (.cells #[.bool f, .slice x n ca, .slice y m cb] 27)) (.bool false) (.slice none 0 0) (.slice none 0 0) 27
    simpa using this
  go_enter Try.func106, Try.ntmps106
  go_wp2_with fail
  generalize ((w.alloc (.cells #[.bool f, .slice x n ca, .slice y m cb] 27)).alloc (.cells #[.bool false, .slice none 0 0, .slice none 0 0] 27)) = w1 at *
  refine (l1Copy_opt f x y ba oa n ca bb ob m cb X Y w1 hn hm hnc hmc hxc hyc (hX.keep sA) (hY.keep sA)).mono ?_
  rintro e w2 ⟨g, h, c1, c2, rfl, m1, m2, L1, L2, -, -, b1, b2, b3, s2⟩
  have S2 : w.Since w.heap.size w2 := sA.trans (sinceMono s2 sA.size)
  have z1 := rA.lt
  have t3 : w2.Since w2.heap.size (w2.alloc (.cells #[.bool f, .slice (some ⟨g, 0, none⟩) n c1, .slice (some ⟨h, 0, none⟩) m c2] 27)) := (World.Since.refl _ _).alloc (Nat.le_refl _) _
  have q3 := Box3.new w2 (.bool f) (.slice (some ⟨g, 0, none⟩) n c1) (.slice (some ⟨h, 0, none⟩) m c2) 27
  have o3 := (oA.keep s2).keep t3
  have r3 := (rA.keep s2).keep t3
  have k0 := o3.c0
  have k1 := o3.c1
  have j0 := q3.c0
  have j1 := q3.c1
  have j2 := q3.c2
  have jf := q3.f 0
  have hne : w.heap.size ≠ w2.heap.size := by omega
  have hne2 : w.heap.size + 1 ≠ w2.heap.size := by omega
  have r2 := rA.keep s2
  cases f
  · by_cases hn0 : 0 < n
    · have hgt : (0 : Int) < (n : Int) := by omega
      have t4 : w2.Since w2.heap.size (w2.alloc (.cells #[.bool true, .slice (some ⟨g, 0, none⟩) n c1, .slice (some ⟨h, 0, none⟩) m c2] 27)) := (World.Since.refl _ _).alloc (Nat.le_refl _) _
      have q4 := Box3.new w2 (.bool true) (.slice (some ⟨g, 0, none⟩) n c1) (.slice (some ⟨h, 0, none⟩) m c2) 27
      have r4 := r2.keep t4
      have S4 := S2.trans (sinceMono t4 S2.size)
      have i0 := q4.c0
      have i1 := q4.c1
      have i2 := q4.c2
      have u0 := r4.c0
      have u1 := r4.c1
      have u2 := r4.c2
      have uf0 := r4.f 0
      have uf1 := r4.f 1
      have uf2 := r4.f 2
      go_wp2
      have rC := ((r4.set0 (.bool true)).set1 (.slice (some ⟨g, 0, none⟩) n c1)).set2 (.slice (some ⟨h, 0, none⟩) m c2)
      refine bodyPost_ret (results_box3 rfl _ _ _ _ _ _ rfl rC) rfl ?_
      have M5 : Marked (w2.alloc (.cells #[.bool true, .slice (some ⟨g, 0, none⟩) n c1, .slice (some ⟨h, 0, none⟩) m c2] 27)) _ (w.heap.size + 1) := (((Marked.refl (w2.alloc (.cells #[.bool true, .slice (some ⟨g, 0, none⟩) n c1, .slice (some ⟨h, 0, none⟩) m c2] 27)) _).setCell 0 (.bool true)).setCell 1 (.slice (some ⟨g, 0, none⟩) n c1)).setCell 2 (.slice (some ⟨h, 0, none⟩) m c2)
      have zM := M5.size
      have zq : w2.heap.size ≤ (w2.alloc (.cells #[.bool true, .slice (some ⟨g, 0, none⟩) n c1, .slice (some ⟨h, 0, none⟩) m c2] 27)).heap.size := t4.size
      exact ⟨g, h, c1, c2, by simp [hn0], m1, m2, (L1.keep t4).marked M5 (fun _ => by omega), (L2.keep t4).marked M5 (fun _ => by omega), by omega, by omega, by omega, S4.trans (M5.since (by omega))⟩
    · have hgt : ¬ (0 : Int) < (n : Int) := by omega
      have t4 : w2.Since w2.heap.size (w2.alloc (.cells #[.bool false, .slice (some ⟨g, 0, none⟩) n c1, .slice (some ⟨h, 0, none⟩) m c2] 27)) := (World.Since.refl _ _).alloc (Nat.le_refl _) _
      have q4 := Box3.new w2 (.bool false) (.slice (some ⟨g, 0, none⟩) n c1) (.slice (some ⟨h, 0, none⟩) m c2) 27
      have r4 := r2.keep t4
      have S4 := S2.trans (sinceMono t4 S2.size)
      have i0 := q4.c0
      have i1 := q4.c1
      have i2 := q4.c2
      have u0 := r4.c0
      have u1 := r4.c1
      have u2 := r4.c2
      have uf0 := r4.f 0
      have uf1 := r4.f 1
      have uf2 := r4.f 2
      go_wp2
      have rC := ((r4.set0 (.bool false)).set1 (.slice (some ⟨g, 0, none⟩) n c1)).set2 (.slice (some ⟨h, 0, none⟩) m c2)
      refine bodyPost_ret (results_box3 rfl _ _ _ _ _ _ rfl rC) rfl ?_
      have M5 : Marked (w2.alloc (.cells #[.bool false, .slice (some ⟨g, 0, none⟩) n c1, .slice (some ⟨h, 0, none⟩) m c2] 27)) _ (w.heap.size + 1) := (((Marked.refl (w2.alloc (.cells #[.bool false, .slice (some ⟨g, 0, none⟩) n c1, .slice (some ⟨h, 0, none⟩) m c2] 27)) _).setCell 0 (.bool false)).setCell 1 (.slice (some ⟨g, 0, none⟩) n c1)).setCell 2 (.slice (some ⟨h, 0, none⟩) m c2)
      have zM := M5.size
      have zq : w2.heap.size ≤ (w2.alloc (.cells #[.bool false, .slice (some ⟨g, 0, none⟩) n c1, .slice (some ⟨h, 0, none⟩) m c2] 27)).heap.size := t4.size
      exact ⟨g, h, c1, c2, by simp [hn0], m1, m2, (L1.keep t4).marked M5 (fun _ => by omega), (L2.keep t4).marked M5 (fun _ => by omega), by omega, by omega, by omega, S4.trans (M5.since (by omega))⟩
  · have t4 : w2.Since w2.heap.size (w2.alloc (.cells #[.bool false, .slice (some ⟨g, 0, none⟩) n c1, .slice (some ⟨h, 0, none⟩) m c2] 27)) := (World.Since.refl _ _).alloc (Nat.le_refl _) _
    have q4 := Box3.new w2 (.bool false) (.slice (some ⟨g, 0, none⟩) n c1) (.slice (some ⟨h, 0, none⟩) m c2) 27
    have r4 := r2.keep t4
    have S4 := S2.trans (sinceMono t4 S2.size)
    have i0 := q4.c0
    have i1 := q4.c1
    have i2 := q4.c2
    have u0 := r4.c0
    have u1 := r4.c1
    have u2 := r4.c2
    have uf0 := r4.f 0
    have uf1 := r4.f 1
    have uf2 := r4.f 2
    go_wp2
    have rC := ((r4.set0 (.bool false)).set1 (.slice (some ⟨g, 0, none⟩) n c1)).set2 (.slice (some ⟨h, 0, none⟩) m c2)
    refine bodyPost_ret (results_box3 rfl _ _ _ _ _ _ rfl rC) rfl ?_
    have M5 : Marked (w2.alloc (.cells #[.bool false, .slice (some ⟨g, 0, none⟩) n c1, .slice (some ⟨h, 0, none⟩) m c2] 27)) _ (w.heap.size + 1) := (((Marked.refl (w2.alloc (.cells #[.bool false, .slice (some ⟨g, 0, none⟩) n c1, .slice (some ⟨h, 0, none⟩) m c2] 27)) _).setCell 0 (.bool false)).setCell 1 (.slice (some ⟨g, 0, none⟩) n c1)).setCell 2 (.slice (some ⟨h, 0, none⟩) m c2)
    have zM := M5.size
    have zq : w2.heap.size ≤ (w2.alloc (.cells #[.bool false, .slice (some ⟨g, 0, none⟩) n c1, .slice (some ⟨h, 0, none⟩) m c2] 27)).heap.size := t4.size
    exact ⟨g, h, c1, c2, rfl, m1, m2, (L1.keep t4).marked M5 (fun _ => by omega), (L2.keep t4).marked M5 (fun _ => by omega), by omega, by omega, by omega, S4.trans (M5.since (by omega))⟩

set_option maxHeartbeats 3200000 in
set_option maxRecDepth 100000 in
theorem l1Add_zeroOpt (f f' : Bool) (a b a' b' : Option Addr) (ba oa n ca bb ob m cb ba' oa' n' ca' bb' ob' m' cb' : Nat) (X Y X' Y' : Nat → Nat) (w : World) (hn : n + n' + m + m' ≤ 1048576)
    (R : RIn w a b ba oa n ca bb ob m cb X Y) (R' : RIn w a' b' ba' oa' n' ca' bb' ob' m' cb' X' Y') (ok : ratOkB f X n Y m = true) (ok' : ratOkB f' X' n' Y' m' = true) (h0 : n = 0 ∨ n' = 0) :
    Calls Try.prog 58 #[.agg #[.bool f, .slice a n ca, .slice b m cb], .agg #[.bool f', .slice a' n' ca', .slice b' m' cb']] w fun e w' => ∃ v, e = .returned v ∧
      RatV w' v (sumNeg f f' (lv X n * lv Y' m') (lv X' n' * lv Y m) && sumTop f f' (lv X n * lv Y' m') (lv X' n' * lv Y m) != 0) (sumTop f f' (lv X n * lv Y' m') (lv X' n' * lv Y m) / Nat.gcd (sumTop f f' (lv X n * lv Y' m') (lv X' n' * lv Y m)) (lv Y m * lv Y' m')) ((lv Y m * lv Y' m') / Nat.gcd (sumTop f f' (lv X n * lv Y' m') (lv X' n' * lv Y m)) (lv Y m * lv Y' m')) w.heap.size 4194304 ∧ w.Since w.heap.size w' := by
  have hne2 : w.heap.size + 1 + 1 ≠ w.heap.size := by omega
  have sA : w.Since w.heap.size (((w.alloc (.cells #[.bool f, .slice a n ca, .slice b m cb] 27)).alloc (.cells #[.bool f', .slice a' n' ca', .slice b' m' cb'] 27)).alloc (.cells #[.bool false, .slice none 0 0, .slice none 0 0] 27)) := (((World.Since.refl _ _).alloc (Nat.le_refl _) _).alloc (by simp) _).alloc (by simp; omega) _
  have zA : (((w.alloc (.cells #[.bool f, .slice a n ca, .slice b m cb] 27)).alloc (.cells #[.bool f', .slice a' n' ca', .slice b' m' cb'] 27)).alloc (.cells #[.bool false, .slice none 0 0, .slice none 0 0] 27)).heap.size = w.heap.size + 1 + 1 + 1 := by simp
  have oA : Box3 (((w.alloc (.cells #[.bool f, .slice a n ca, .slice b m cb] 27)).alloc (.cells #[.bool f', .slice a' n' ca', .slice b' m' cb'] 27)).alloc (.cells #[.bool false, .slice none 0 0, .slice none 0 0] 27)) w.heap.size (.bool f) (.slice a n ca) (.slice b m cb) := ((Box3.new w _ _ _ _).keep ((World.Since.refl _ _).alloc (Nat.le_refl _) _)).keep ((World.Since.refl _ _).alloc (Nat.le_refl _) _)
  have pA : Box3 (((w.alloc (.cells #[.bool f, .slice a n ca, .slice b m cb] 27)).alloc (.cells #[.bool f', .slice a' n' ca', .slice b' m' cb'] 27)).alloc (.cells #[.bool false, .slice none 0 0, .slice none 0 0] 27)) (w.heap.size + 1) (.bool f') (.slice a' n' ca') (.slice b' m' cb') := by
    have := (Box3.new (w.alloc (.cells #[.bool f, .slice a n ca, .slice b m cb] 27)) (.bool f') (.slice a' n' ca') (.slice b' m' cb') 27).keep ((World.Since.refl _ _).alloc (Nat.le_refl _) (.cells #[.bool false, .slice none 0 0, .slice none 0 0] 27))
    simpa using this
  have rA : Box3 (((w.alloc (.cells #[.bool f, .slice a n ca, .slice b m cb] 27)).alloc (.cells #[.bool f', .slice a' n' ca', .slice b' m' cb'] 27)).alloc (.cells #[.bool false, .slice none 0 0, .slice none 0 0] 27)) (w.heap.size + 1 + 1) (.bool false) (.slice none 0 0) (.slice none 0 0) := by
    have := Box3.new ((w.alloc (.cells #[.bool f, .slice a n ca, .slice b m cb] 27)).alloc (.cells #[.bool f', .slice a' n' ca', .slice b' m' cb'] 27)) (.bool false) (.slice none 0 0) (.slice none 0 0) 27
    simpa using this
  by_cases h1 : n = 0
  · have hZ := sum_zeroA ok ok' h1
    rw [hZ.1, hZ.2.1, hZ.2.2]
    clear hZ ok ok' h0
    subst h1
    have k0 := pA.c0
    have k1 := pA.c1
    have k2 := pA.c2
    go_enter Try.func58, Try.ntmps58
    go_wp2_with fail
    generalize (((w.alloc (.cells #[.bool f, .slice a 0 ca, .slice b m cb] 27)).alloc (.cells #[.bool f', .slice a' n' ca', .slice b' m' cb'] 27)).alloc (.cells #[.bool false, .slice none 0 0, .slice none 0 0] 27)) = w1 at *
    refine (l1Copy_opt f' a' b' ba' oa' n' ca' bb' ob' m' cb' X' Y' w1 (by omega) (by omega) R'.nc R'.mc R'.ac R'.bc (R'.keep sA).LX (R'.keep sA).LY).mono ?_
    rintro e w6 ⟨g6, h6, c1, c2, rfl, v1, v2, N6, D6, FN, FD, y1, y2, y3, s6⟩
    have rB := rA.keep s6
    have S6 : w.Since w.heap.size w6 := sA.trans (sinceMono s6 sA.size)
    have u0 := rB.c0
    have u1 := rB.c1
    have u2 := rB.c2
    have uf0 := rB.f 0
    have uf1 := rB.f 1
    have uf2 := rB.f 2
    go_wp2
    have rC := ((rB.set0 (.bool f')).set1 (.slice (some ⟨g6, 0, none⟩) n' c1)).set2 (.slice (some ⟨h6, 0, none⟩) m' c2)
    refine bodyPost_ret (results_box3 rfl _ _ _ _ _ _ rfl rC) rfl ?_
    have M : Marked w6 _ (w.heap.size + 1 + 1) := (((Marked.refl w6 _).setCell 0 (.bool f')).setCell 1 (.slice (some ⟨g6, 0, none⟩) n' c1)).setCell 2 (.slice (some ⟨h6, 0, none⟩) m' c2)
    have N7 : NatAt w6 (.slice (some ⟨g6, 0, none⟩) n' c1) g6 (lv X' n') 4194304 := ⟨_, _, _, X', rfl, v1, by omega, fun h => (by cases h), N6, FN, R'.lX, R'.pX, rfl⟩
    have D7 : NatAt w6 (.slice (some ⟨h6, 0, none⟩) m' c2) h6 (lv Y' m') 4194304 := ⟨_, _, _, Y', rfl, v2, by omega, fun h => (by cases h), D6, FD, R'.lY, R'.pY, rfl⟩
    exact ⟨_, rfl, ⟨_, _, g6, h6, rfl, N7.marked M (by omega), D7.marked M (by omega), by omega, by omega, by omega⟩, S6.trans (M.since (by omega))⟩
  · have h2 : n' = 0 := by omega
    have hZ := sum_zeroB ok ok' h2
    rw [hZ.1, hZ.2.1, hZ.2.2]
    clear hZ ok ok' h0
    subst h2
    have q1 : ((n : Int) == 0) = false := by simp; omega
    have k0 := oA.c0
    have k1 := oA.c1
    have k2 := oA.c2
    go_enter Try.func58, Try.ntmps58
    go_wp2_with fail
    generalize (((w.alloc (.cells #[.bool f, .slice a n ca, .slice b m cb] 27)).alloc (.cells #[.bool f', .slice a' 0 ca', .slice b' m' cb'] 27)).alloc (.cells #[.bool false, .slice none 0 0, .slice none 0 0] 27)) = w1 at *
    refine (l1Copy_opt f a b ba oa n ca bb ob m cb X Y w1 (by omega) (by omega) R.nc R.mc R.ac R.bc (R.keep sA).LX (R.keep sA).LY).mono ?_
    rintro e w6 ⟨g6, h6, c1, c2, rfl, v1, v2, N6, D6, FN, FD, y1, y2, y3, s6⟩
    have rB := rA.keep s6
    have S6 : w.Since w.heap.size w6 := sA.trans (sinceMono s6 sA.size)
    have u0 := rB.c0
    have u1 := rB.c1
    have u2 := rB.c2
    have uf0 := rB.f 0
    have uf1 := rB.f 1
    have uf2 := rB.f 2
    go_wp2
    have rC := ((rB.set0 (.bool f)).set1 (.slice (some ⟨g6, 0, none⟩) n c1)).set2 (.slice (some ⟨h6, 0, none⟩) m c2)
    refine bodyPost_ret (results_box3 rfl _ _ _ _ _ _ rfl rC) rfl ?_
    have M : Marked w6 _ (w.heap.size + 1 + 1) := (((Marked.refl w6 _).setCell 0 (.bool f)).setCell 1 (.slice (some ⟨g6, 0, none⟩) n c1)).setCell 2 (.slice (some ⟨h6, 0, none⟩) m c2)
    have N7 : NatAt w6 (.slice (some ⟨g6, 0, none⟩) n c1) g6 (lv X n) 4194304 := ⟨_, _, _, X, rfl, v1, by omega, fun h => (by cases h), N6, FN, R.lX, R.pX, rfl⟩
    have D7 : NatAt w6 (.slice (some ⟨h6, 0, none⟩) m c2) h6 (lv Y m) 4194304 := ⟨_, _, _, Y, rfl, v2, by omega, fun h => (by cases h), D6, FD, R.lY, R.pY, rfl⟩
    exact ⟨_, rfl, ⟨_, _, g6, h6, rfl, N7.marked M (by omega), D7.marked M (by omega), by omega, by omega, by omega⟩, S6.trans (M.since (by omega))⟩

theorem l1Add_opt (f f' : Bool) (a b a' b' : Option Addr) (ba oa n ca bb ob m cb ba' oa' n' ca' bb' ob' m' cb' : Nat) (X Y X' Y' : Nat → Nat) (w : World) (hn : n + n' + m + m' ≤ 1048576)
    (R : RIn w a b ba oa n ca bb ob m cb X Y) (R' : RIn w a' b' ba' oa' n' ca' bb' ob' m' cb' X' Y') (ok : ratOkB f X n Y m = true) (ok' : ratOkB f' X' n' Y' m' = true) :
    Calls Try.prog 58 #[.agg #[.bool f, .slice a n ca, .slice b m cb], .agg #[.bool f', .slice a' n' ca', .slice b' m' cb']] w fun e w' => ∃ v, e = .returned v ∧
      RatV w' v (sumNeg f f' (lv X n * lv Y' m') (lv X' n' * lv Y m) && sumTop f f' (lv X n * lv Y' m') (lv X' n' * lv Y m) != 0) (sumTop f f' (lv X n * lv Y' m') (lv X' n' * lv Y m) / Nat.gcd (sumTop f f' (lv X n * lv Y' m') (lv X' n' * lv Y m)) (lv Y m * lv Y' m')) ((lv Y m * lv Y' m') / Nat.gcd (sumTop f f' (lv X n * lv Y' m') (lv X' n' * lv Y m)) (lv Y m * lv Y' m')) w.heap.size 4194304 ∧ w.Since w.heap.size w' := by
  by_cases h0 : n = 0 ∨ n' = 0
  · exact l1Add_zeroOpt f f' a b a' b' ba oa n ca bb ob m cb ba' oa' n' ca' bb' ob' m' cb' X Y X' Y' w hn R R' ok ok' h0
  · obtain rfl : a = some ⟨ba, oa, none⟩ := by have := (R.LX 0 (by omega)).1; simpa using this
    obtain rfl : b = some ⟨bb, ob, none⟩ := by have := (R.LY 0 R.m0).1; simpa using this
    obtain rfl : a' = some ⟨ba', oa', none⟩ := by have := (R'.LX 0 (by omega)).1; simpa using this
    obtain rfl : b' = some ⟨bb', ob', none⟩ := by have := (R'.LY 0 R'.m0).1; simpa using this
    exact l1Add_any f f' _ _ _ _ ba oa n ca bb ob m cb ba' oa' n' ca' bb' ob' m' cb' X Y X' Y' w hn R R' ok ok'

end Go.Proofs.Ytdfcckifbbeoiaa

namespace Go.Proofs.Ytdfcckifbbeoiaa
open Go.RowKit

theorem sign_cmp (f f' : Bool) (x y n' q : Nat) (hf : f = true → 0 < x) (hf' : f' = true → 0 < y) (hy : 0 < n' ↔ 0 < y) (hq : q = 0 ↔ sumTop f (!f' && decide (0 < n')) x y = 0) :
    (if (q : Int) = 0 then (0 : Int) else if (sumNeg f (!f' && decide (0 < n')) x y && sumTop f (!f' && decide (0 < n')) x y != 0) = true then -1 else 1) = cmpR f f' x y := by
  have hd : decide (0 < n') = decide (0 < y) := by simp [hy]
  rw [hd] at hq ⊢
  clear hd hy
  have hq' : ((q : Int) = 0) ↔ sumTop f (!f' && decide (0 < y)) x y = 0 := by omega
  simp only [hq']
  clear hq hq'
  rcases Nat.lt_trichotomy x y with h1 | h1 | h1
  · cases f <;> cases f' <;> rcases Nat.eq_zero_or_pos y with h0 | h0 <;> simp_all [sumNeg, sumTop, cmpR, cmpN] <;> (try omega)
  · cases f <;> cases f' <;> rcases Nat.eq_zero_or_pos y with h0 | h0 <;> simp_all [sumNeg, sumTop, cmpR, cmpN] <;> (try omega)
  · have h2 : ¬ x < y := by omega
    have h3 : ¬ x - y = 0 := by omega
    have h6 : 0 < x := by omega
    have h7 : ¬ x = 0 := by omega
    clear hf
    cases f <;> cases f' <;> rcases Nat.eq_zero_or_pos y with h0 | h0 <;> simp [sumNeg, sumTop, cmpR, cmpN, h0, h1, h2, h3, h6, h7] <;> (try (have := hf' rfl; omega)) <;> (try omega)

set_option maxHeartbeats 800000 in
set_option maxRecDepth 100000 in
theorem l1Sign_any (f : Bool) (a b : Option Addr) (n ca m cb : Nat) (w : World) :
    Calls Try.prog 99 #[.agg #[.bool f, .slice a n ca, .slice b m cb]] w fun e w' => e = .returned (.int .i64 (if (n : Int) = 0 then (0 : Int) else if f = true then -1 else 1)) ∧ w.Since w.heap.size w' := by
  have sA : w.Since w.heap.size (w.alloc (.cells #[.bool f, .slice a n ca, .slice b m cb] 27)) := (World.Since.refl _ _).alloc (Nat.le_refl _) _
  by_cases h0 : n = 0
  · subst h0
    go_enter Try.func99, Try.ntmps99
    go_wp2
    go_ret
    exact ⟨rfl, sA⟩
  · have q1 : ((n : Int) == 0) = false := by simp; omega
    have q2 : ¬ ((n : Int) = 0) := by omega
    rw [if_neg q2]
    cases f
    · go_enter Try.func99, Try.ntmps99
      go_wp2
      go_ret
      exact ⟨rfl, sA⟩
    · go_enter Try.func99, Try.ntmps99
      go_wp2
      go_ret
      exact ⟨rfl, sA⟩

theorem ratOk_neg {f' : Bool} {X' Y' : Nat → Nat} {n' m' : Nat} (ok' : ratOkB f' X' n' Y' m' = true) : ratOkB (!f' && decide (0 < n')) X' n' Y' m' = true := by
  unfold ratOkB at *
  cases f' <;> rcases Nat.eq_zero_or_pos n' with h | h <;> simp_all <;> (try omega)

set_option maxHeartbeats 3200000 in
set_option maxRecDepth 100000 in
theorem l1Sub_any (f f' : Bool) (a b a' b' : Addr) (ba oa n ca bb ob m cb ba' oa' n' ca' bb' ob' m' cb' : Nat) (X Y X' Y' : Nat → Nat) (w : World) (hn : n + n' + m + m' ≤ 1048576)
    (R : RIn w (some a) (some b) ba oa n ca bb ob m cb X Y) (R' : RIn w (some a') (some b') ba' oa' n' ca' bb' ob' m' cb' X' Y') (ok : ratOkB f X n Y m = true) (ok' : ratOkB f' X' n' Y' m' = true) :
    Calls Try.prog 100 #[.agg #[.bool f, .slice (some a) n ca, .slice (some b) m cb], .agg #[.bool f', .slice (some a') n' ca', .slice (some b') m' cb']] w fun e w' => ∃ v, e = .returned v ∧
      RatV w' v (sumNeg f (!f' && decide (0 < n')) (lv X n * lv Y' m') (lv X' n' * lv Y m) && sumTop f (!f' && decide (0 < n')) (lv X n * lv Y' m') (lv X' n' * lv Y m) != 0) (sumTop f (!f' && decide (0 < n')) (lv X n * lv Y' m') (lv X' n' * lv Y m) / Nat.gcd (sumTop f (!f' && decide (0 < n')) (lv X n * lv Y' m') (lv X' n' * lv Y m)) (lv Y m * lv Y' m')) ((lv Y m * lv Y' m') / Nat.gcd (sumTop f (!f' && decide (0 < n')) (lv X n * lv Y' m') (lv X' n' * lv Y m)) (lv Y m * lv Y' m')) w.heap.size 4194304 ∧ w.Since w.heap.size w' := by
  have hne2 : w.heap.size + 1 + 1 ≠ w.heap.size := by omega
  have sA : w.Since w.heap.size (((w.alloc (.cells #[.bool f, .slice (some a) n ca, .slice (some b) m cb] 27)).alloc (.cells #[.bool f', .slice (some a') n' ca', .slice (some b') m' cb'] 27)).alloc (.cells #[.bool false, .slice none 0 0, .slice none 0 0] 27)) := (((World.Since.refl _ _).alloc (Nat.le_refl _) _).alloc (by simp) _).alloc (by simp; omega) _
  have zA : (((w.alloc (.cells #[.bool f, .slice (some a) n ca, .slice (some b) m cb] 27)).alloc (.cells #[.bool f', .slice (some a') n' ca', .slice (some b') m' cb'] 27)).alloc (.cells #[.bool false, .slice none 0 0, .slice none 0 0] 27)).heap.size = w.heap.size + 1 + 1 + 1 := by simp
  have oA : Box3 (((w.alloc (.cells #[.bool f, .slice (some a) n ca, .slice (some b) m cb] 27)).alloc (.cells #[.bool f', .slice (some a') n' ca', .slice (some b') m' cb'] 27)).alloc (.cells #[.bool false, .slice none 0 0, .slice none 0 0] 27)) w.heap.size (.bool f) (.slice (some a) n ca) (.slice (some b) m cb) := ((Box3.new w _ _ _ _).keep ((World.Since.refl _ _).alloc (Nat.le_refl _) _)).keep ((World.Since.refl _ _).alloc (Nat.le_refl _) _)
  have pA : Box3 (((w.alloc (.cells #[.bool f, .slice (some a) n ca, .slice (some b) m cb] 27)).alloc (.cells #[.bool f', .slice (some a') n' ca', .slice (some b') m' cb'] 27)).alloc (.cells #[.bool false, .slice none 0 0, .slice none 0 0] 27)) (w.heap.size + 1) (.bool f') (.slice (some a') n' ca') (.slice (some b') m' cb') := by
    have := (Box3.new (w.alloc (.cells #[.bool f, .slice (some a) n ca, .slice (some b) m cb] 27)) (.bool f') (.slice (some a') n' ca') (.slice (some b') m' cb') 27).keep ((World.Since.refl _ _).alloc (Nat.le_refl _) (.cells #[.bool false, .slice none 0 0, .slice none 0 0] 27))
    simpa using this
  have rA : Box3 (((w.alloc (.cells #[.bool f, .slice (some a) n ca, .slice (some b) m cb] 27)).alloc (.cells #[.bool f', .slice (some a') n' ca', .slice (some b') m' cb'] 27)).alloc (.cells #[.bool false, .slice none 0 0, .slice none 0 0] 27)) (w.heap.size + 1 + 1) (.bool false) (.slice none 0 0) (.slice none 0 0) := by
    have := Box3.new ((w.alloc (.cells #[.bool f, .slice (some a) n ca, .slice (some b) m cb] 27)).alloc (.cells #[.bool f', .slice (some a') n' ca', .slice (some b') m' cb'] 27)) (.bool false) (.slice none 0 0) (.slice none 0 0) 27
    simpa using this
  have m1 := R.m0
  have m1' := R'.m0
  obtain ⟨NN, hNN⟩ : ∃ z, z = (sumNeg f (!f' && decide (0 < n')) (lv X n * lv Y' m') (lv X' n' * lv Y m) && sumTop f (!f' && decide (0 < n')) (lv X n * lv Y' m') (lv X' n' * lv Y m) != 0) := ⟨_, rfl⟩
  have HNN := hide hNN
  clear hNN
  have J1 := l1Neg_any f' a' b' ba' oa' n' ca' bb' ob' m' cb' X' Y' (((w.alloc (.cells #[.bool f, .slice (some a) n ca, .slice (some b) m cb] 27)).alloc (.cells #[.bool f', .slice (some a') n' ca', .slice (some b') m' cb'] 27)).alloc (.cells #[.bool false, .slice none 0 0, .slice none 0 0] 27)).drew (by omega) (by omega) R'.nc R'.mc (R'.keep (since_drew sA)).LX (R'.keep (since_drew sA)).LY
  go_enter Try.func100, Try.ntmps100
  have k := And.intro oA.cells pA.cells
  go_wp2_with fail
  generalize (((w.alloc (.cells #[.bool f, .slice (some a) n ca, .slice (some b) m cb] 27)).alloc (.cells #[.bool f', .slice (some a') n' ca', .slice (some b') m' cb'] 27)).alloc (.cells #[.bool false, .slice none 0 0, .slice none 0 0] 27)) = w1 at *
  go_region_held3 (fun w' => w'.cell? ⟨w.heap.size, 0, none⟩ = some (.bool f) ∧ w'.cell? ⟨w.heap.size, 1, none⟩ = some (.slice (some a) n ca) ∧ w'.cell? ⟨w.heap.size, 2, none⟩ = some (.slice (some b) m cb) ∧ w'.cell? ⟨w.heap.size + 1, 0, none⟩ = some (.bool f') ∧ w'.cell? ⟨w.heap.size + 1, 1, none⟩ = some (.slice (some a') n' ca') ∧ w'.cell? ⟨w.heap.size + 1, 2, none⟩ = some (.slice (some b') m' cb')) (go_keep)
    (first
      | (go_at_call 106
         with_reducible refine J1.mono ?_
         rintro e w2 ⟨g, h, c1, c2, rfl, v1, v2, L1, L2, b1, b2, b3, s2⟩
         have S2 : w.Since w.heap.size w2 := (since_drew sA).trans (sinceMono s2 sA.size)
         have o2 := oA.drew.keep s2
         have p2 := pA.drew.keep s2
         have r2 := rA.drew.keep s2
         have kk := And.intro o2.cells p2.cells
         have R2 : RIn w2 (some ⟨g, 0, none⟩) (some ⟨h, 0, none⟩) g 0 n' c1 h 0 m' c2 X' Y' := ⟨v1, v2, fun h => (by cases h), fun h => (by cases h), L1, L2, R'.lX, R'.lY, R'.pX, R'.pY, R'.m0⟩
         have J2 := l1Add_any f (!f' && decide (0 < n')) a b ⟨g, 0, none⟩ ⟨h, 0, none⟩ ba oa n ca bb ob m cb g 0 n' c1 h 0 m' c2 X Y X' Y' w2 hn (R.keep S2) R2 ok (ratOk_neg ok')
         rw [← HNN.out] at J2)
      | (go_at_call 58
         with_reducible refine J2.mono ?_
         rintro e w6 ⟨v, rfl, ⟨x1, x2, g6, h6, rfl, N6, D6, y1, y2, y3⟩, s6⟩
         have N6' := N6
         have D6' := D6
         obtain ⟨a1, q1, d1, Y1, rfl, -⟩ := N6
         obtain ⟨a2, q2, d2, Y2, rfl, -⟩ := D6
         have kk := And.intro (o2.keep s6).cells (p2.keep s6).cells
         have rB := r2.keep s6
         have u0 := rB.c0
         have u1 := rB.c1
         have u2 := rB.c2
         have uf0 := rB.f 0
         have uf1 := rB.f 1
         have uf2 := rB.f 2))
  all_goals go_wp2
  all_goals
    have S6 : w.Since w.heap.size w6 := S2.trans (sinceMono s6 S2.size)
    have zr := r2.lt
    have rC := ((rB.set0 (.bool NN)).set1 (.slice a1 q1 d1)).set2 (.slice a2 q2 d2)
    refine bodyPost_ret (results_box3 rfl _ _ _ _ _ _ rfl rC) rfl ?_
    have M : Marked w6 _ (w.heap.size + 1 + 1) := (((Marked.refl w6 _).setCell 0 (.bool NN)).setCell 1 (.slice a1 q1 d1)).setCell 2 (.slice a2 q2 d2)
    exact ⟨_, rfl, ⟨_, _, g6, h6, by rw [HNN.out], N6'.marked M (by omega), D6'.marked M (by omega), by omega, by omega, y3⟩, S6.trans (M.since (by omega))⟩

end Go.Proofs.Ytdfcckifbbeoiaa

namespace Go.Proofs.Ytdfcckifbbeoiaa
open Go.RowKit

theorem rat_pos {f : Bool} {X Y : Nat → Nat} {n m : Nat} (ok : ratOkB f X n Y m = true) (e : f = true) (pX : 0 < n → X (n - 1) ≠ 0) : 0 < lv X n := by
  subst e
  unfold ratOkB at ok
  rcases Nat.eq_zero_or_pos (lv X n) with h | h
  · have := (lv_zero pX).2 h
    subst this
    simp at ok
  · exact h

set_option maxHeartbeats 3200000 in
set_option maxRecDepth 100000 in
theorem l1Cmp_any (f f' : Bool) (a b a' b' : Addr) (ba oa n ca bb ob m cb ba' oa' n' ca' bb' ob' m' cb' : Nat) (X Y X' Y' : Nat → Nat) (w : World) (hn : n + n' + m + m' ≤ 1048576)
    (R : RIn w (some a) (some b) ba oa n ca bb ob m cb X Y) (R' : RIn w (some a') (some b') ba' oa' n' ca' bb' ob' m' cb' X' Y') (ok : ratOkB f X n Y m = true) (ok' : ratOkB f' X' n' Y' m' = true) :
    Calls Try.prog 61 #[.agg #[.bool f, .slice (some a) n ca, .slice (some b) m cb], .agg #[.bool f', .slice (some a') n' ca', .slice (some b') m' cb']] w fun e w' => e = .returned (.int .i64 (cmpR f f' (lv X n * lv Y' m') (lv X' n' * lv Y m))) ∧ w.Since w.heap.size w' := by
  have sA : w.Since w.heap.size ((w.alloc (.cells #[.bool f, .slice (some a) n ca, .slice (some b) m cb] 27)).alloc (.cells #[.bool f', .slice (some a') n' ca', .slice (some b') m' cb'] 27)) := ((World.Since.refl _ _).alloc (Nat.le_refl _) _).alloc (by simp) _
  have zA : ((w.alloc (.cells #[.bool f, .slice (some a) n ca, .slice (some b) m cb] 27)).alloc (.cells #[.bool f', .slice (some a') n' ca', .slice (some b') m' cb'] 27)).heap.size = w.heap.size + 1 + 1 := by simp
  have oA : Box3 ((w.alloc (.cells #[.bool f, .slice (some a) n ca, .slice (some b) m cb] 27)).alloc (.cells #[.bool f', .slice (some a') n' ca', .slice (some b') m' cb'] 27)) w.heap.size (.bool f) (.slice (some a) n ca) (.slice (some b) m cb) := (Box3.new w _ _ _ _).keep ((World.Since.refl _ _).alloc (Nat.le_refl _) _)
  have pA : Box3 ((w.alloc (.cells #[.bool f, .slice (some a) n ca, .slice (some b) m cb] 27)).alloc (.cells #[.bool f', .slice (some a') n' ca', .slice (some b') m' cb'] 27)) (w.heap.size + 1) (.bool f') (.slice (some a') n' ca') (.slice (some b') m' cb') := by
    have := Box3.new (w.alloc (.cells #[.bool f, .slice (some a) n ca, .slice (some b) m cb] 27)) (.bool f') (.slice (some a') n' ca') (.slice (some b') m' cb') 27
    simpa using this
  have hX0 : f = true → 0 < lv X n * lv Y' m' := fun e => Nat.mul_pos (rat_pos ok e R.pX) R'.den
  have hX1 : f' = true → 0 < lv X' n' * lv Y m := fun e => Nat.mul_pos (rat_pos ok' e R'.pX) R.den
  have hX2 : 0 < n' ↔ 0 < lv X' n' * lv Y m := by
    have h1 := lv_zero R'.pX
    constructor
    · intro h; exact Nat.mul_pos (by omega) R.den
    · intro h
      rcases Nat.eq_zero_or_pos n' with e | e
      · rw [h1.1 e, Nat.zero_mul] at h; omega
      · exact e
  have hDD := Nat.mul_pos R.den R'.den
  obtain ⟨z, hz⟩ : ∃ z, z = cmpR f f' (lv X n * lv Y' m') (lv X' n' * lv Y m) := ⟨_, rfl⟩
  have HZ := hide hz
  clear hz
  have k := And.intro oA.cells pA.cells
  have J1 := l1Sub_any f f' a b a' b' ba oa n ca bb ob m cb ba' oa' n' ca' bb' ob' m' cb' X Y X' Y' ((w.alloc (.cells #[.bool f, .slice (some a) n ca, .slice (some b) m cb] 27)).alloc (.cells #[.bool f', .slice (some a') n' ca', .slice (some b') m' cb'] 27)) hn (R.keep sA) (R'.keep sA) ok ok'
  go_enter Try.func61, Try.ntmps61
  go_wp2_with fail
  generalize ((w.alloc (.cells #[.bool f, .slice (some a) n ca, .slice (some b) m cb] 27)).alloc (.cells #[.bool f', .slice (some a') n' ca', .slice (some b') m' cb'] 27)) = w1 at *
  refine J1.mono ?_
  rintro e w2 ⟨v, rfl, ⟨x1, x2, g6, h6, rfl, N6, D6, y1, y2, y3⟩, s2⟩
  have S2 : w.Since w.heap.size w2 := sA.trans (sinceMono s2 sA.size)
  obtain ⟨a1, q1, d1, Y1, rfl, -, -, -, -, -, -, tp, ev⟩ := N6
  obtain ⟨a2, q2, d2, Y2, rfl, -⟩ := D6
  have hq : q1 = 0 ↔ sumTop f (!f' && decide (0 < n')) (lv X n * lv Y' m') (lv X' n' * lv Y m) = 0 := (lv_zero tp).trans (by rw [ev]; exact div_gcd_zero hDD)
  have HC := hide (sign_cmp f f' _ _ n' q1 hX0 hX1 hX2 hq)
  have J2 := l1Sign_any (sumNeg f (!f' && decide (0 < n')) (lv X n * lv Y' m') (lv X' n' * lv Y m) && sumTop f (!f' && decide (0 < n')) (lv X n * lv Y' m') (lv X' n' * lv Y m) != 0) a1 a2 q1 d1 q2 d2 w2
  rw [HC.out, ← HZ.out] at J2
  clear J1 HC hq hX0 hX1 hX2 tp ev k
  go_wp2_with fail
  refine J2.mono ?_
  rintro e w3 ⟨rfl, s3⟩
  go_wp2
  go_ret
  exact ⟨ret_int HZ.out, S2.trans (sinceMono s3 S2.size)⟩

set_option maxHeartbeats 1600000 in
set_option maxRecDepth 100000 in
theorem specRatCmp_ok (f f' : Bool) (a b a' b' : Addr) (ba oa n ca bb ob m cb ba' oa' n' ca' bb' ob' m' cb' : Nat) (X Y X' Y' : Nat → Nat) (w : World) (hn : n + n' + m + m' ≤ 1048576)
    (R : RIn w (some a) (some b) ba oa n ca bb ob m cb X Y) (R' : RIn w (some a') (some b') ba' oa' n' ca' bb' ob' m' cb' X' Y') (ok : ratOkB f X n Y m = true) (ok' : ratOkB f' X' n' Y' m' = true) :
    Calls Try.prog 18 #[.agg #[.bool f, .slice (some a) n ca, .slice (some b) m cb], .agg #[.bool f', .slice (some a') n' ca', .slice (some b') m' cb']] w fun e w' => e = .returned (.int .i64 (cmpR f f' (lv X n * lv Y' m') (lv X' n' * lv Y m))) ∧ w.Since w.heap.size w' := by
  have sA : w.Since w.heap.size ((w.alloc (.cells #[.bool f, .slice (some a) n ca, .slice (some b) m cb] 27)).alloc (.cells #[.bool f', .slice (some a') n' ca', .slice (some b') m' cb'] 27)) := ((World.Since.refl _ _).alloc (Nat.le_refl _) _).alloc (by simp) _
  have zA : ((w.alloc (.cells #[.bool f, .slice (some a) n ca, .slice (some b) m cb] 27)).alloc (.cells #[.bool f', .slice (some a') n' ca', .slice (some b') m' cb'] 27)).heap.size = w.heap.size + 1 + 1 := by simp
  have oA : Box3 ((w.alloc (.cells #[.bool f, .slice (some a) n ca, .slice (some b) m cb] 27)).alloc (.cells #[.bool f', .slice (some a') n' ca', .slice (some b') m' cb'] 27)) w.heap.size (.bool f) (.slice (some a) n ca) (.slice (some b) m cb) := (Box3.new w _ _ _ _).keep ((World.Since.refl _ _).alloc (Nat.le_refl _) _)
  have pA : Box3 ((w.alloc (.cells #[.bool f, .slice (some a) n ca, .slice (some b) m cb] 27)).alloc (.cells #[.bool f', .slice (some a') n' ca', .slice (some b') m' cb'] 27)) (w.heap.size + 1) (.bool f') (.slice (some a') n' ca') (.slice (some b') m' cb') := by
    have := Box3.new (w.alloc (.cells #[.bool f, .slice (some a) n ca, .slice (some b) m cb] 27)) (.bool f') (.slice (some a') n' ca') (.slice (some b') m' cb') 27
    simpa using this
  have m1 := R.m0
  have m1' := R'.m0
  go_enter Try.func18, Try.ntmps18
  go_wp2_with fail
  generalize ((w.alloc (.cells #[.bool f, .slice (some a) n ca, .slice (some b) m cb] 27)).alloc (.cells #[.bool f', .slice (some a') n' ca', .slice (some b') m' cb'] 27)) = w1 at *
  have I1 := specRatOk_any f (some a) (some b) ba oa n ca bb ob m cb X Y w1 (by omega) (by omega) (R.keep sA).LX (R.keep sA).LY R.lX R.lY
  rw [ok] at I1
  refine I1.mono ?_
  rintro e w2 ⟨rfl, s2⟩
  have S2 : w.Since w.heap.size w2 := sA.trans (sinceMono s2 sA.size)
  have o2 := oA.keep s2
  have p2 := pA.keep s2
  have I2 := specRatOk_any f' (some a') (some b') ba' oa' n' ca' bb' ob' m' cb' X' Y' w2 (by omega) (by omega) (R'.keep S2).LX (R'.keep S2).LY R'.lX R'.lY
  rw [ok'] at I2
  clear I1 oA pA
  have k0 := p2.c0
  have k1 := p2.c1
  have k2 := p2.c2
  go_wp2_with fail
  refine I2.mono ?_
  rintro e w3 ⟨rfl, s3⟩
  have S3 : w.Since w.heap.size w3 := S2.trans (sinceMono s3 S2.size)
  have o3 := o2.keep s3
  have p3 := p2.keep s3
  clear I2 k0 k1 k2 o2 p2
  have k0 := p3.c0
  have k1 := p3.c1
  have k2 := p3.c2
  have j0 := o3.c0
  have j1 := o3.c1
  have j2 := o3.c2
  have J := l1Cmp_any f f' a b a' b' ba oa n ca bb ob m cb ba' oa' n' ca' bb' ob' m' cb' X Y X' Y' w3 hn (R.keep S3) (R'.keep S3) ok ok'
  obtain ⟨z, hz⟩ : ∃ z, z = cmpR f f' (lv X n * lv Y' m') (lv X' n' * lv Y m) := ⟨_, rfl⟩
  rw [← hz] at J
  have HZ := hide hz
  clear hz
  go_wp2_with fail
  refine J.mono ?_
  rintro e w4 ⟨rfl, s4⟩
  go_wp2
  go_ret
  exact ⟨ret_int HZ.out, S3.trans (sinceMono s4 S3.size)⟩

set_option maxHeartbeats 1600000 in
set_option maxRecDepth 100000 in
theorem specRatCmp_no (f f' : Bool) (a b a' b' : Option Addr) (ba oa n ca bb ob m cb ba' oa' n' ca' bb' ob' m' cb' : Nat) (X Y X' Y' : Nat → Nat) (w : World) (hn : n + n' + m + m' ≤ 1048576)
    (R : RRaw w a b ba oa n ca bb ob m cb X Y) (R' : RRaw w a' b' ba' oa' n' ca' bb' ob' m' cb' X' Y') (ok : ¬ (ratOkB f X n Y m = true ∧ ratOkB f' X' n' Y' m' = true)) :
    Calls Try.prog 18 #[.agg #[.bool f, .slice a n ca, .slice b m cb], .agg #[.bool f', .slice a' n' ca', .slice b' m' cb']] w fun e w' => e = .returned (.int .i64 2) ∧ w.Since w.heap.size w' := by
  have sA : w.Since w.heap.size ((w.alloc (.cells #[.bool f, .slice a n ca, .slice b m cb] 27)).alloc (.cells #[.bool f', .slice a' n' ca', .slice b' m' cb'] 27)) := ((World.Since.refl _ _).alloc (Nat.le_refl _) _).alloc (by simp) _
  have zA : ((w.alloc (.cells #[.bool f, .slice a n ca, .slice b m cb] 27)).alloc (.cells #[.bool f', .slice a' n' ca', .slice b' m' cb'] 27)).heap.size = w.heap.size + 1 + 1 := by simp
  have oA : Box3 ((w.alloc (.cells #[.bool f, .slice a n ca, .slice b m cb] 27)).alloc (.cells #[.bool f', .slice a' n' ca', .slice b' m' cb'] 27)) w.heap.size (.bool f) (.slice a n ca) (.slice b m cb) := (Box3.new w _ _ _ _).keep ((World.Since.refl _ _).alloc (Nat.le_refl _) _)
  have pA : Box3 ((w.alloc (.cells #[.bool f, .slice a n ca, .slice b m cb] 27)).alloc (.cells #[.bool f', .slice a' n' ca', .slice b' m' cb'] 27)) (w.heap.size + 1) (.bool f') (.slice a' n' ca') (.slice b' m' cb') := by
    have := Box3.new (w.alloc (.cells #[.bool f, .slice a n ca, .slice b m cb] 27)) (.bool f') (.slice a' n' ca') (.slice b' m' cb') 27
    simpa using this
  go_enter Try.func18, Try.ntmps18
  go_wp2_with fail
  generalize ((w.alloc (.cells #[.bool f, .slice a n ca, .slice b m cb] 27)).alloc (.cells #[.bool f', .slice a' n' ca', .slice b' m' cb'] 27)) = w1 at *
  have I1 := specRatOk_any f a b ba oa n ca bb ob m cb X Y w1 (by omega) (by omega) (R.keep sA).LX (R.keep sA).LY R.lX R.lY
  by_cases h1 : ratOkB f X n Y m = true
  · have h2 : ratOkB f' X' n' Y' m' = false := by
      cases e : ratOkB f' X' n' Y' m'
      · rfl
      · exact absurd ⟨h1, e⟩ ok
    rw [h1] at I1
    clear h1 ok
    refine I1.mono ?_
    rintro e w2 ⟨rfl, s2⟩
    have S2 : w.Since w.heap.size w2 := sA.trans (sinceMono s2 sA.size)
    have o2 := oA.keep s2
    have p2 := pA.keep s2
    have I2 := specRatOk_any f' a' b' ba' oa' n' ca' bb' ob' m' cb' X' Y' w2 (by omega) (by omega) (R'.keep S2).LX (R'.keep S2).LY R'.lX R'.lY
    rw [h2] at I2
    clear I1 oA pA
    have k0 := p2.c0
    have k1 := p2.c1
    have k2 := p2.c2
    go_wp2_with fail
    refine I2.mono ?_
    rintro e w3 ⟨rfl, s3⟩
    have S3 : w.Since w.heap.size w3 := S2.trans (sinceMono s3 S2.size)
    have o3 := o2.keep s3
    have p3 := p2.keep s3
    clear I2 k0 k1 k2 o2 p2
    go_wp2
    go_ret
    exact ⟨rfl, S3⟩
  · rw [show ratOkB f X n Y m = false by simpa using h1] at I1
    clear h1 ok
    refine I1.mono ?_
    rintro e w2 ⟨rfl, s2⟩
    go_wp2
    go_ret
    exact ⟨rfl, sA.trans (sinceMono s2 sA.size)⟩

end Go.Proofs.Ytdfcckifbbeoiaa

namespace Go.Proofs.Ytdfcckifbbeoiaa
open Go.RowKit

set_option maxHeartbeats 3200000 in
set_option maxRecDepth 100000 in
theorem l1Sub_opt (f f' : Bool) (a b a' b' : Option Addr) (ba oa n ca bb ob m cb ba' oa' n' ca' bb' ob' m' cb' : Nat) (X Y X' Y' : Nat → Nat) (w : World) (hn : n + n' + m + m' ≤ 1048576)
    (R : RIn w a b ba oa n ca bb ob m cb X Y) (R' : RIn w a' b' ba' oa' n' ca' bb' ob' m' cb' X' Y') (ok : ratOkB f X n Y m = true) (ok' : ratOkB f' X' n' Y' m' = true) :
    Calls Try.prog 100 #[.agg #[.bool f, .slice a n ca, .slice b m cb], .agg #[.bool f', .slice a' n' ca', .slice b' m' cb']] w fun e w' => ∃ v, e = .returned v ∧
      RatV w' v (sumNeg f (!f' && decide (0 < n')) (lv X n * lv Y' m') (lv X' n' * lv Y m) && sumTop f (!f' && decide (0 < n')) (lv X n * lv Y' m') (lv X' n' * lv Y m) != 0) (sumTop f (!f' && decide (0 < n')) (lv X n * lv Y' m') (lv X' n' * lv Y m) / Nat.gcd (sumTop f (!f' && decide (0 < n')) (lv X n * lv Y' m') (lv X' n' * lv Y m)) (lv Y m * lv Y' m')) ((lv Y m * lv Y' m') / Nat.gcd (sumTop f (!f' && decide (0 < n')) (lv X n * lv Y' m') (lv X' n' * lv Y m)) (lv Y m * lv Y' m')) w.heap.size 4194304 ∧ w.Since w.heap.size w' := by
  have hne2 : w.heap.size + 1 + 1 ≠ w.heap.size := by omega
  have sA : w.Since w.heap.size (((w.alloc (.cells #[.bool f, .slice a n ca, .slice b m cb] 27)).alloc (.cells #[.bool f', .slice a' n' ca', .slice b' m' cb'] 27)).alloc (.cells #[.bool false, .slice none 0 0, .slice none 0 0] 27)) := (((World.Since.refl _ _).alloc (Nat.le_refl _) _).alloc (by simp) _).alloc (by simp; omega) _
  have zA : (((w.alloc (.cells #[.bool f, .slice a n ca, .slice b m cb] 27)).alloc (.cells #[.bool f', .slice a' n' ca', .slice b' m' cb'] 27)).alloc (.cells #[.bool false, .slice none 0 0, .slice none 0 0] 27)).heap.size = w.heap.size + 1 + 1 + 1 := by simp
  have oA : Box3 (((w.alloc (.cells #[.bool f, .slice a n ca, .slice b m cb] 27)).alloc (.cells #[.bool f', .slice a' n' ca', .slice b' m' cb'] 27)).alloc (.cells #[.bool false, .slice none 0 0, .slice none 0 0] 27)) w.heap.size (.bool f) (.slice a n ca) (.slice b m cb) := ((Box3.new w _ _ _ _).keep ((World.Since.refl _ _).alloc (Nat.le_refl _) _)).keep ((World.Since.refl _ _).alloc (Nat.le_refl _) _)
  have pA : Box3 (((w.alloc (.cells #[.bool f, .slice a n ca, .slice b m cb] 27)).alloc (.cells #[.bool f', .slice a' n' ca', .slice b' m' cb'] 27)).alloc (.cells #[.bool false, .slice none 0 0, .slice none 0 0] 27)) (w.heap.size + 1) (.bool f') (.slice a' n' ca') (.slice b' m' cb') := by
    have := (Box3.new (w.alloc (.cells #[.bool f, .slice a n ca, .slice b m cb] 27)) (.bool f') (.slice a' n' ca') (.slice b' m' cb') 27).keep ((World.Since.refl _ _).alloc (Nat.le_refl _) (.cells #[.bool false, .slice none 0 0, .slice none 0 0] 27))
    simpa using this
  have rA : Box3 (((w.alloc (.cells #[.bool f, .slice a n ca, .slice b m cb] 27)).alloc (.cells #[.bool f', .slice a' n' ca', .slice b' m' cb'] 27)).alloc (.cells #[.bool false, .slice none 0 0, .slice none 0 0] 27)) (w.heap.size + 1 + 1) (.bool false) (.slice none 0 0) (.slice none 0 0) := by
    have := Box3.new ((w.alloc (.cells #[.bool f, .slice a n ca, .slice b m cb] 27)).alloc (.cells #[.bool f', .slice a' n' ca', .slice b' m' cb'] 27)) (.bool false) (.slice none 0 0) (.slice none 0 0) 27
    simpa using this
  have m1 := R.m0
  have m1' := R'.m0
  obtain ⟨NN, hNN⟩ : ∃ z, z = (sumNeg f (!f' && decide (0 < n')) (lv X n * lv Y' m') (lv X' n' * lv Y m) && sumTop f (!f' && decide (0 < n')) (lv X n * lv Y' m') (lv X' n' * lv Y m) != 0) := ⟨_, rfl⟩
  have HNN := hide hNN
  clear hNN
  have J1 := l1Neg_opt f' a' b' ba' oa' n' ca' bb' ob' m' cb' X' Y' (((w.alloc (.cells #[.bool f, .slice a n ca, .slice b m cb] 27)).alloc (.cells #[.bool f', .slice a' n' ca', .slice b' m' cb'] 27)).alloc (.cells #[.bool false, .slice none 0 0, .slice none 0 0] 27)).drew (by omega) (by omega) R'.nc R'.mc R'.ac R'.bc (R'.keep (since_drew sA)).LX (R'.keep (since_drew sA)).LY
  go_enter Try.func100, Try.ntmps100
  have k := And.intro oA.cells pA.cells
  go_wp2_with fail
  generalize (((w.alloc (.cells #[.bool f, .slice a n ca, .slice b m cb] 27)).alloc (.cells #[.bool f', .slice a' n' ca', .slice b' m' cb'] 27)).alloc (.cells #[.bool false, .slice none 0 0, .slice none 0 0] 27)) = w1 at *
  go_region_held3 (fun w' => w'.cell? ⟨w.heap.size, 0, none⟩ = some (.bool f) ∧ w'.cell? ⟨w.heap.size, 1, none⟩ = some (.slice a n ca) ∧ w'.cell? ⟨w.heap.size, 2, none⟩ = some (.slice b m cb) ∧ w'.cell? ⟨w.heap.size + 1, 0, none⟩ = some (.bool f') ∧ w'.cell? ⟨w.heap.size + 1, 1, none⟩ = some (.slice a' n' ca') ∧ w'.cell? ⟨w.heap.size + 1, 2, none⟩ = some (.slice b' m' cb')) (go_keep)
    (first
      | (go_at_call 106
         with_reducible refine J1.mono ?_
         rintro e w2 ⟨g, h, c1, c2, rfl, v1, v2, L1, L2, b1, b2, b3, s2⟩
         have S2 : w.Since w.heap.size w2 := (since_drew sA).trans (sinceMono s2 sA.size)
         have o2 := oA.drew.keep s2
         have p2 := pA.drew.keep s2
         have r2 := rA.drew.keep s2
         have kk := And.intro o2.cells p2.cells
         have R2 : RIn w2 (some ⟨g, 0, none⟩) (some ⟨h, 0, none⟩) g 0 n' c1 h 0 m' c2 X' Y' := ⟨v1, v2, fun h => (by cases h), fun h => (by cases h), L1, L2, R'.lX, R'.lY, R'.pX, R'.pY, R'.m0⟩
         have J2 := l1Add_opt f (!f' && decide (0 < n')) a b (some ⟨g, 0, none⟩) (some ⟨h, 0, none⟩) ba oa n ca bb ob m cb g 0 n' c1 h 0 m' c2 X Y X' Y' w2 hn (R.keep S2) R2 ok (ratOk_neg ok')
         rw [← HNN.out] at J2)
      | (go_at_call 58
         with_reducible refine J2.mono ?_
         rintro e w6 ⟨v, rfl, ⟨x1, x2, g6, h6, rfl, N6, D6, y1, y2, y3⟩, s6⟩
         have N6' := N6
         have D6' := D6
         obtain ⟨a1, q1, d1, Y1, rfl, -⟩ := N6
         obtain ⟨a2, q2, d2, Y2, rfl, -⟩ := D6
         have kk := And.intro (o2.keep s6).cells (p2.keep s6).cells
         have rB := r2.keep s6
         have u0 := rB.c0
         have u1 := rB.c1
         have u2 := rB.c2
         have uf0 := rB.f 0
         have uf1 := rB.f 1
         have uf2 := rB.f 2))
  all_goals go_wp2
  all_goals
    have S6 : w.Since w.heap.size w6 := S2.trans (sinceMono s6 S2.size)
    have zr := r2.lt
    have rC := ((rB.set0 (.bool NN)).set1 (.slice a1 q1 d1)).set2 (.slice a2 q2 d2)
    refine bodyPost_ret (results_box3 rfl _ _ _ _ _ _ rfl rC) rfl ?_
    have M : Marked w6 _ (w.heap.size + 1 + 1) := (((Marked.refl w6 _).setCell 0 (.bool NN)).setCell 1 (.slice a1 q1 d1)).setCell 2 (.slice a2 q2 d2)
    exact ⟨_, rfl, ⟨_, _, g6, h6, by rw [HNN.out], N6'.marked M (by omega), D6'.marked M (by omega), by omega, by omega, y3⟩, S6.trans (M.since (by omega))⟩

set_option maxHeartbeats 3200000 in
set_option maxRecDepth 100000 in
theorem l1Cmp_opt (f f' : Bool) (a b a' b' : Option Addr) (ba oa n ca bb ob m cb ba' oa' n' ca' bb' ob' m' cb' : Nat) (X Y X' Y' : Nat → Nat) (w : World) (hn : n + n' + m + m' ≤ 1048576)
    (R : RIn w a b ba oa n ca bb ob m cb X Y) (R' : RIn w a' b' ba' oa' n' ca' bb' ob' m' cb' X' Y') (ok : ratOkB f X n Y m = true) (ok' : ratOkB f' X' n' Y' m' = true) :
    Calls Try.prog 61 #[.agg #[.bool f, .slice a n ca, .slice b m cb], .agg #[.bool f', .slice a' n' ca', .slice b' m' cb']] w fun e w' => e = .returned (.int .i64 (cmpR f f' (lv X n * lv Y' m') (lv X' n' * lv Y m))) ∧ w.Since w.heap.size w' := by
  have sA : w.Since w.heap.size ((w.alloc (.cells #[.bool f, .slice a n ca, .slice b m cb] 27)).alloc (.cells #[.bool f', .slice a' n' ca', .slice b' m' cb'] 27)) := ((World.Since.refl _ _).alloc (Nat.le_refl _) _).alloc (by simp) _
  have zA : ((w.alloc (.cells #[.bool f, .slice a n ca, .slice b m cb] 27)).alloc (.cells #[.bool f', .slice a' n' ca', .slice b' m' cb'] 27)).heap.size = w.heap.size + 1 + 1 := by simp
  have oA : Box3 ((w.alloc (.cells #[.bool f, .slice a n ca, .slice b m cb] 27)).alloc (.cells #[.bool f', .slice a' n' ca', .slice b' m' cb'] 27)) w.heap.size (.bool f) (.slice a n ca) (.slice b m cb) := (Box3.new w _ _ _ _).keep ((World.Since.refl _ _).alloc (Nat.le_refl _) _)
  have pA : Box3 ((w.alloc (.cells #[.bool f, .slice a n ca, .slice b m cb] 27)).alloc (.cells #[.bool f', .slice a' n' ca', .slice b' m' cb'] 27)) (w.heap.size + 1) (.bool f') (.slice a' n' ca') (.slice b' m' cb') := by
    have := Box3.new (w.alloc (.cells #[.bool f, .slice a n ca, .slice b m cb] 27)) (.bool f') (.slice a' n' ca') (.slice b' m' cb') 27
    simpa using this
  have hX0 : f = true → 0 < lv X n * lv Y' m' := fun e => Nat.mul_pos (rat_pos ok e R.pX) R'.den
  have hX1 : f' = true → 0 < lv X' n' * lv Y m := fun e => Nat.mul_pos (rat_pos ok' e R'.pX) R.den
  have hX2 : 0 < n' ↔ 0 < lv X' n' * lv Y m := by
    have h1 := lv_zero R'.pX
    constructor
    · intro h; exact Nat.mul_pos (by omega) R.den
    · intro h
      rcases Nat.eq_zero_or_pos n' with e | e
      · rw [h1.1 e, Nat.zero_mul] at h; omega
      · exact e
  have hDD := Nat.mul_pos R.den R'.den
  obtain ⟨z, hz⟩ : ∃ z, z = cmpR f f' (lv X n * lv Y' m') (lv X' n' * lv Y m) := ⟨_, rfl⟩
  have HZ := hide hz
  clear hz
  have k := And.intro oA.cells pA.cells
  have J1 := l1Sub_opt f f' a b a' b' ba oa n ca bb ob m cb ba' oa' n' ca' bb' ob' m' cb' X Y X' Y' ((w.alloc (.cells #[.bool f, .slice a n ca, .slice b m cb] 27)).alloc (.cells #[.bool f', .slice a' n' ca', .slice b' m' cb'] 27)) hn (R.keep sA) (R'.keep sA) ok ok'
  go_enter Try.func61, Try.ntmps61
  go_wp2_with fail
  generalize ((w.alloc (.cells #[.bool f, .slice a n ca, .slice b m cb] 27)).alloc (.cells #[.bool f', .slice a' n' ca', .slice b' m' cb'] 27)) = w1 at *
  refine J1.mono ?_
  rintro e w2 ⟨v, rfl, ⟨x1, x2, g6, h6, rfl, N6, D6, y1, y2, y3⟩, s2⟩
  have S2 : w.Since w.heap.size w2 := sA.trans (sinceMono s2 sA.size)
  obtain ⟨a1, q1, d1, Y1, rfl, -, -, -, -, -, -, tp, ev⟩ := N6
  obtain ⟨a2, q2, d2, Y2, rfl, -⟩ := D6
  have hq : q1 = 0 ↔ sumTop f (!f' && decide (0 < n')) (lv X n * lv Y' m') (lv X' n' * lv Y m) = 0 := (lv_zero tp).trans (by rw [ev]; exact div_gcd_zero hDD)
  have HC := hide (sign_cmp f f' _ _ n' q1 hX0 hX1 hX2 hq)
  have J2 := l1Sign_any (sumNeg f (!f' && decide (0 < n')) (lv X n * lv Y' m') (lv X' n' * lv Y m) && sumTop f (!f' && decide (0 < n')) (lv X n * lv Y' m') (lv X' n' * lv Y m) != 0) a1 a2 q1 d1 q2 d2 w2
  rw [HC.out, ← HZ.out] at J2
  clear J1 HC hq hX0 hX1 hX2 tp ev k
  go_wp2_with fail
  refine J2.mono ?_
  rintro e w3 ⟨rfl, s3⟩
  go_wp2
  go_ret
  exact ⟨ret_int HZ.out, S2.trans (sinceMono s3 S2.size)⟩

set_option maxHeartbeats 1600000 in
set_option maxRecDepth 100000 in
theorem specRatCmp_opt (f f' : Bool) (a b a' b' : Option Addr) (ba oa n ca bb ob m cb ba' oa' n' ca' bb' ob' m' cb' : Nat) (X Y X' Y' : Nat → Nat) (w : World) (hn : n + n' + m + m' ≤ 1048576)
    (R : RIn w a b ba oa n ca bb ob m cb X Y) (R' : RIn w a' b' ba' oa' n' ca' bb' ob' m' cb' X' Y') (ok : ratOkB f X n Y m = true) (ok' : ratOkB f' X' n' Y' m' = true) :
    Calls Try.prog 18 #[.agg #[.bool f, .slice a n ca, .slice b m cb], .agg #[.bool f', .slice a' n' ca', .slice b' m' cb']] w fun e w' => e = .returned (.int .i64 (cmpR f f' (lv X n * lv Y' m') (lv X' n' * lv Y m))) ∧ w.Since w.heap.size w' := by
  have sA : w.Since w.heap.size ((w.alloc (.cells #[.bool f, .slice a n ca, .slice b m cb] 27)).alloc (.cells #[.bool f', .slice a' n' ca', .slice b' m' cb'] 27)) := ((World.Since.refl _ _).alloc (Nat.le_refl _) _).alloc (by simp) _
  have zA : ((w.alloc (.cells #[.bool f, .slice a n ca, .slice b m cb] 27)).alloc (.cells #[.bool f', .slice a' n' ca', .slice b' m' cb'] 27)).heap.size = w.heap.size + 1 + 1 := by simp
  have oA : Box3 ((w.alloc (.cells #[.bool f, .slice a n ca, .slice b m cb] 27)).alloc (.cells #[.bool f', .slice a' n' ca', .slice b' m' cb'] 27)) w.heap.size (.bool f) (.slice a n ca) (.slice b m cb) := (Box3.new w _ _ _ _).keep ((World.Since.refl _ _).alloc (Nat.le_refl _) _)
  have pA : Box3 ((w.alloc (.cells #[.bool f, .slice a n ca, .slice b m cb] 27)).alloc (.cells #[.bool f', .slice a' n' ca', .slice b' m' cb'] 27)) (w.heap.size + 1) (.bool f') (.slice a' n' ca') (.slice b' m' cb') := by
    have := Box3.new (w.alloc (.cells #[.bool f, .slice a n ca, .slice b m cb] 27)) (.bool f') (.slice a' n' ca') (.slice b' m' cb') 27
    simpa using this
  have m1 := R.m0
  have m1' := R'.m0
  go_enter Try.func18, Try.ntmps18
  go_wp2_with fail
  generalize ((w.alloc (.cells #[.bool f, .slice a n ca, .slice b m cb] 27)).alloc (.cells #[.bool f', .slice a' n' ca', .slice b' m' cb'] 27)) = w1 at *
  have I1 := specRatOk_any f a b ba oa n ca bb ob m cb X Y w1 (by omega) (by omega) (R.keep sA).LX (R.keep sA).LY R.lX R.lY
  rw [ok] at I1
  refine I1.mono ?_
  rintro e w2 ⟨rfl, s2⟩
  have S2 : w.Since w.heap.size w2 := sA.trans (sinceMono s2 sA.size)
  have o2 := oA.keep s2
  have p2 := pA.keep s2
  have I2 := specRatOk_any f' a' b' ba' oa' n' ca' bb' ob' m' cb' X' Y' w2 (by omega) (by omega) (R'.keep S2).LX (R'.keep S2).LY R'.lX R'.lY
  rw [ok'] at I2
  clear I1 oA pA
  have k0 := p2.c0
  have k1 := p2.c1
  have k2 := p2.c2
  go_wp2_with fail
  refine I2.mono ?_
  rintro e w3 ⟨rfl, s3⟩
  have S3 : w.Since w.heap.size w3 := S2.trans (sinceMono s3 S2.size)
  have o3 := o2.keep s3
  have p3 := p2.keep s3
  clear I2 k0 k1 k2 o2 p2
  have k0 := p3.c0
  have k1 := p3.c1
  have k2 := p3.c2
  have j0 := o3.c0
  have j1 := o3.c1
  have j2 := o3.c2
  have J := l1Cmp_opt f f' a b a' b' ba oa n ca bb ob m cb ba' oa' n' ca' bb' ob' m' cb' X Y X' Y' w3 hn (R.keep S3) (R'.keep S3) ok ok'
  obtain ⟨z, hz⟩ : ∃ z, z = cmpR f f' (lv X n * lv Y' m') (lv X' n' * lv Y m) := ⟨_, rfl⟩
  rw [← hz] at J
  have HZ := hide hz
  clear hz
  go_wp2_with fail
  refine J.mono ?_
  rintro e w4 ⟨rfl, s4⟩
  go_wp2
  go_ret
  exact ⟨ret_int HZ.out, S3.trans (sinceMono s4 S3.size)⟩

end Go.Proofs.Ytdfcckifbbeoiaa

namespace Go.Proofs.Ytdfcckifbbeoiaa
open Go.RowKit

/-- The sign of a rational, as the programs hold it. -/
def qn (q : Rat) : Bool := decide (q.num < 0)

theorem q_norm (s : Int) (d : Nat) (hd : d ≠ 0) : qn (Rat.normalize s d hd) = decide (s < 0) ∧ (Rat.normalize s d hd).num.natAbs = s.natAbs / Nat.gcd s.natAbs d ∧ (Rat.normalize s d hd).den = d / Nat.gcd s.natAbs d := by
  have hg : 0 < Nat.gcd s.natAbs d := Nat.gcd_pos_of_pos_right _ (by omega)
  rw [Rat.normalize_eq]
  obtain ⟨k, hk⟩ := Nat.gcd_dvd_left s.natAbs d
  have hs : ∃ t : Int, s = (Nat.gcd s.natAbs d : Int) * t := by
    have : ((Nat.gcd s.natAbs d : Nat) : Int) ∣ s := Int.ofNat_dvd_left.2 (Nat.gcd_dvd_left _ _)
    exact this
  obtain ⟨t, ht⟩ := hs
  have hgi : (0 : Int) < (Nat.gcd s.natAbs d : Int) := by omega
  have hq : s / (Nat.gcd s.natAbs d : Int) = t := by
    have h1 := Int.mul_ediv_cancel_left t (show (Nat.gcd s.natAbs d : Int) ≠ 0 by omega)
    rw [← ht] at h1
    exact h1
  refine ⟨?_, ?_, rfl⟩
  · unfold qn
    show decide (s / (Nat.gcd s.natAbs d : Int) < 0) = _
    rw [hq, decide_eq_decide]
    constructor
    · intro h
      rw [ht]
      exact Int.mul_neg_of_pos_of_neg hgi h
    · intro h
      rcases Int.lt_or_le t 0 with e | e
      · exact e
      · have := Int.mul_nonneg (Int.le_of_lt hgi) e
        omega
  · show (s / (Nat.gcd s.natAbs d : Int)).natAbs = _
    rw [hq]
    have h2 : s.natAbs = Nat.gcd s.natAbs d * t.natAbs := by
      have := congrArg Int.natAbs ht
      rw [Int.natAbs_mul, Int.natAbs_natCast] at this
      exact this
    rw [Nat.div_eq_of_eq_mul_right hg h2]

/-- A numerator out of its sign and size. -/
theorem num_of (q : Rat) : q.num = if qn q then -(q.num.natAbs : Int) else (q.num.natAbs : Int) := by
  unfold qn
  by_cases h : q.num < 0
  · simp [h]; omega
  · simp [h]; omega

theorem qn_pos {q : Rat} (h : qn q = true) : 0 < q.num.natAbs := by
  unfold qn at h
  have := of_decide_eq_true h
  omega

theorem mulInt (f f' : Bool) (x y : Nat) : decide ((if f then -(x : Int) else x) * (if f' then -(y : Int) else y) < 0) = ((f != f') && x * y != 0) ∧ ((if f then -(x : Int) else x) * (if f' then -(y : Int) else y)).natAbs = x * y := by
  constructor
  · rw [Bool.eq_iff_iff, decide_eq_true_iff]
    have hc : (x : Int) * (y : Int) = ((x * y : Nat) : Int) := by simp
    cases f <;> cases f' <;> simp only [if_true, if_false, Bool.false_eq_true, Int.neg_mul, Int.mul_neg, Int.neg_neg, hc] <;> generalize x * y = z <;> simp <;> omega
  · rw [Int.natAbs_mul]
    cases f <;> cases f' <;> simp

theorem sumInt (f f' : Bool) (x y : Nat) (hf : f = true → 0 < x) (hf' : f' = true → 0 < y) : decide ((if f then -(x : Int) else x) + (if f' then -(y : Int) else y) < 0) = (sumNeg f f' x y && sumTop f f' x y != 0) ∧ ((if f then -(x : Int) else x) + (if f' then -(y : Int) else y)).natAbs = sumTop f f' x y := by
  unfold sumNeg sumTop
  constructor
  · rw [Bool.eq_iff_iff, decide_eq_true_iff]
    cases f <;> cases f' <;> simp
    · omega
    · by_cases h : x < y <;> simp [h] <;> omega
    · by_cases h : x < y <;> simp [h] <;> omega
    · have := hf rfl; omega
  · cases f <;> cases f' <;> simp
    · omega
    · by_cases h : x < y <;> simp [h] <;> omega
    · by_cases h : x < y <;> simp [h] <;> omega
    · omega

theorem q_mul (p q : Rat) : qn (p * q) = ((qn p != qn q) && p.num.natAbs * q.num.natAbs != 0) ∧ (p * q).num.natAbs = p.num.natAbs * q.num.natAbs / Nat.gcd (p.num.natAbs * q.num.natAbs) (p.den * q.den) ∧ (p * q).den = p.den * q.den / Nat.gcd (p.num.natAbs * q.num.natAbs) (p.den * q.den) := by
  rw [Rat.mul_def]
  have h := q_norm (p.num * q.num) (p.den * q.den) (Nat.mul_ne_zero p.den_nz q.den_nz)
  have hm := mulInt (qn p) (qn q) p.num.natAbs q.num.natAbs
  rw [← num_of, ← num_of] at hm
  rw [hm.1, hm.2] at h
  exact h

theorem q_add (p q : Rat) : qn (p + q) = (sumNeg (qn p) (qn q) (p.num.natAbs * q.den) (q.num.natAbs * p.den) && sumTop (qn p) (qn q) (p.num.natAbs * q.den) (q.num.natAbs * p.den) != 0) ∧
    (p + q).num.natAbs = sumTop (qn p) (qn q) (p.num.natAbs * q.den) (q.num.natAbs * p.den) / Nat.gcd (sumTop (qn p) (qn q) (p.num.natAbs * q.den) (q.num.natAbs * p.den)) (p.den * q.den) ∧
    (p + q).den = p.den * q.den / Nat.gcd (sumTop (qn p) (qn q) (p.num.natAbs * q.den) (q.num.natAbs * p.den)) (p.den * q.den) := by
  rw [Rat.add_def]
  have h := q_norm (p.num * q.den + q.num * p.den) (p.den * q.den) (Nat.mul_ne_zero p.den_nz q.den_nz)
  have hm := sumInt (qn p) (qn q) (p.num.natAbs * q.den) (q.num.natAbs * p.den) (fun e => Nat.mul_pos (qn_pos e) (Nat.pos_of_ne_zero q.den_nz)) (fun e => Nat.mul_pos (qn_pos e) (Nat.pos_of_ne_zero p.den_nz))
  have e1 : p.num * (q.den : Int) = if qn p then -((p.num.natAbs * q.den : Nat) : Int) else ((p.num.natAbs * q.den : Nat) : Int) := by
    conv => lhs; rw [num_of p]
    cases qn p <;> simp [Int.neg_mul]
  have e2 : q.num * (p.den : Int) = if qn q then -((q.num.natAbs * p.den : Nat) : Int) else ((q.num.natAbs * p.den : Nat) : Int) := by
    conv => lhs; rw [num_of q]
    cases qn q <;> simp [Int.neg_mul]
  rw [← e1, ← e2] at hm
  rw [hm.1, hm.2] at h
  exact h

theorem q_inv (q : Rat) (h : q.num.natAbs ≠ 0) : qn q⁻¹ = qn q ∧ q⁻¹.num.natAbs = q.den ∧ q⁻¹.den = q.num.natAbs := by
  have h0 : q.num ≠ 0 := by omega
  refine ⟨?_, ?_, ?_⟩
  · unfold qn
    rw [Rat.num_inv, decide_eq_decide]
    have hd : (0 : Int) < q.den := by have := q.den_nz; omega
    rcases Int.lt_or_lt_of_ne h0 with e | e
    · rw [Int.sign_eq_neg_one_of_neg e]; omega
    · rw [Int.sign_eq_one_of_pos e]; omega
  · rw [Rat.num_inv, Int.natAbs_mul, Int.natAbs_natCast]
    rcases Int.lt_or_lt_of_ne h0 with e | e
    · rw [Int.sign_eq_neg_one_of_neg e]; simp
    · rw [Int.sign_eq_one_of_pos e]; simp
  · rw [Rat.den_inv, if_neg h0]

theorem q_div (p q : Rat) (h : q.num.natAbs ≠ 0) : qn (p / q) = ((qn p != qn q) && p.num.natAbs * q.den != 0) ∧ (p / q).num.natAbs = p.num.natAbs * q.den / Nat.gcd (p.num.natAbs * q.den) (p.den * q.num.natAbs) ∧ (p / q).den = p.den * q.num.natAbs / Nat.gcd (p.num.natAbs * q.den) (p.den * q.num.natAbs) := by
  rw [Rat.div_def]
  have h1 := q_mul p q⁻¹
  obtain ⟨i1, i2, i3⟩ := q_inv q h
  rw [i1, i2, i3] at h1
  exact h1

/-- The order of two rationals. -/
def qcmp (p q : Rat) : Int := if p < q then -1 else if q < p then 1 else 0

theorem q_cmp (p q : Rat) : cmpR (qn p) (qn q) (p.num.natAbs * q.den) (q.num.natAbs * p.den) = qcmp p q := by
  have e1 : p.num * (q.den : Int) = if qn p then -((p.num.natAbs * q.den : Nat) : Int) else ((p.num.natAbs * q.den : Nat) : Int) := by
    conv => lhs; rw [num_of p]
    cases qn p <;> simp [Int.neg_mul]
  have e2 : q.num * (p.den : Int) = if qn q then -((q.num.natAbs * p.den : Nat) : Int) else ((q.num.natAbs * p.den : Nat) : Int) := by
    conv => lhs; rw [num_of q]
    cases qn q <;> simp [Int.neg_mul]
  have h1 : qn p = true → 0 < p.num.natAbs * q.den := fun e => Nat.mul_pos (qn_pos e) (Nat.pos_of_ne_zero q.den_nz)
  have h2 : qn q = true → 0 < q.num.natAbs * p.den := fun e => Nat.mul_pos (qn_pos e) (Nat.pos_of_ne_zero p.den_nz)
  unfold qcmp cmpR
  simp only [Rat.lt_iff, e1, e2]
  generalize p.num.natAbs * q.den = x at *
  generalize q.num.natAbs * p.den = y at *
  clear e1 e2
  unfold cmpN
  cases hp : qn p <;> cases hq : qn q <;> simp [hp, hq] at h1 h2 ⊢ <;> (repeat' split) <;> omega

end Go.Proofs.Ytdfcckifbbeoiaa

namespace Go.Proofs.Ytdfcckifbbeoiaa
open Go.RowKit

/-- A value holds the rational q, to be read. -/
def RatR (w : World) (v : Value) (q : Rat) : Prop :=
  ∃ a n ca b m cb ba oa bb ob X Y, v = .agg #[.bool (qn q), .slice a n ca, .slice b m cb] ∧ RIn w a b ba oa n ca bb ob m cb X Y ∧ lv X n = q.num.natAbs ∧ lv Y m = q.den

theorem RatR.keep {w w' : World} {v : Value} {q : Rat} (h : RatR w v q) (s : w.Since w.heap.size w') : RatR w' v q := by
  obtain ⟨a, n, ca, b, m, cb, ba, oa, bb, ob, X, Y, h1, h2, h3⟩ := h
  exact ⟨a, n, ca, b, m, cb, ba, oa, bb, ob, X, Y, h1, h2.keep s, h3⟩

/-- The size of a rational: its parts are shorter than k limbs. -/
def Qb (q : Rat) (k : Nat) : Prop := q.num.natAbs < 4294967296 ^ k ∧ q.den < 4294967296 ^ k

theorem Qb.more {q : Rat} {k l : Nat} (h : Qb q k) (hk : k ≤ l) : Qb q l :=
  ⟨Nat.lt_of_lt_of_le h.1 (Nat.pow_le_pow_right (by decide) hk), Nat.lt_of_lt_of_le h.2 (Nat.pow_le_pow_right (by decide) hk)⟩

theorem lv_lim {X : Nat → Nat} {n k : Nat} (h0 : 0 < n → X (n - 1) ≠ 0) (h : lv X n < 4294967296 ^ k) : n ≤ k := by
  rcases Nat.lt_or_ge k n with e | e
  · exfalso
    have h1 : 0 < n := by omega
    have h2 := lv_ge X n h1 (h0 h1)
    rw [Nat.pow_mul, show (2 : Nat) ^ 32 = 4294967296 by decide] at h2
    have h3 : (4294967296 : Nat) ^ k ≤ 4294967296 ^ (n - 1) := Nat.pow_le_pow_right (by decide) (by omega)
    omega
  · exact e

theorem div_le_of (a b : Nat) : a / b ≤ a := Nat.div_le_self a b

theorem Qb.mul {p q : Rat} {k l : Nat} (h : Qb p k) (h' : Qb q l) : Qb (p * q) (k + l) := by
  obtain ⟨-, e2, e3⟩ := q_mul p q
  unfold Qb
  rw [e2, e3, Nat.pow_add]
  exact ⟨Nat.lt_of_le_of_lt (Nat.div_le_self _ _) (Nat.mul_lt_mul'' h.1 h'.1), Nat.lt_of_le_of_lt (Nat.div_le_self _ _) (Nat.mul_lt_mul'' h.2 h'.2)⟩

theorem sumTop_le (f f' : Bool) (x y : Nat) : sumTop f f' x y ≤ x + y := by
  unfold sumTop
  split
  · omega
  · split <;> omega

theorem Qb.add {p q : Rat} {k l : Nat} (h : Qb p k) (h' : Qb q l) : Qb (p + q) (k + l + 1) := by
  obtain ⟨-, e2, e3⟩ := q_add p q
  unfold Qb
  rw [e2, e3, Nat.pow_succ, Nat.pow_add]
  have h1 := Nat.mul_lt_mul'' h.1 h'.2
  have h2 := Nat.mul_lt_mul'' h'.1 h.2
  have h3 := Nat.mul_lt_mul'' h.2 h'.2
  rw [Nat.mul_comm (4294967296 ^ l)] at h2
  generalize 4294967296 ^ k * 4294967296 ^ l = B at *
  have h4 := sumTop_le (qn p) (qn q) (p.num.natAbs * q.den) (q.num.natAbs * p.den)
  refine ⟨Nat.lt_of_le_of_lt (Nat.div_le_self _ _) (by omega), Nat.lt_of_le_of_lt (Nat.div_le_self _ _) (by omega)⟩

theorem Qb.div {p q : Rat} {k l : Nat} (h : Qb p k) (h' : Qb q l) (h0 : q.num.natAbs ≠ 0) : Qb (p / q) (k + l) := by
  obtain ⟨-, e2, e3⟩ := q_div p q h0
  unfold Qb
  rw [e2, e3, Nat.pow_add]
  exact ⟨Nat.lt_of_le_of_lt (Nat.div_le_self _ _) (Nat.mul_lt_mul'' h.1 h'.2), Nat.lt_of_le_of_lt (Nat.div_le_self _ _) (Nat.mul_lt_mul'' h.2 h'.1)⟩

theorem RIn.ok {w : World} {a b : Option Addr} {ba oa n ca bb ob m cb : Nat} {X Y : Nat → Nat} {q : Rat} (R : RIn w a b ba oa n ca bb ob m cb X Y) (h1 : lv X n = q.num.natAbs) (h2 : lv Y m = q.den) : ratOkB (qn q) X n Y m = true := by
  have p1 := plainB_iff.2 R.pX
  have p2 := plainB_iff.2 R.pY
  have m0 := R.m0
  have g : Nat.gcd (lv X n) (lv Y m) = 1 := by rw [h1, h2]; exact q.reduced
  have hz : (qn q && n == 0) = false := by
    cases hq : qn q
    · rfl
    · have := qn_pos hq
      rw [← h1] at this
      have h3 := lv_zero R.pX
      have : n ≠ 0 := by intro e; have := h3.1 e; omega
      simp [this]
  unfold ratOkB
  rw [p1, p2, g, hz]
  simp
  omega

/-- A valid Rat holds a rational. -/
theorem rat_of_ok {w : World} {f : Bool} {a b : Option Addr} {ba oa n ca bb ob m cb : Nat} {X Y : Nat → Nat} (R : RIn w a b ba oa n ca bb ob m cb X Y) (ok : ratOkB f X n Y m = true) : ∃ q : Rat, RatR w (.agg #[.bool f, .slice a n ca, .slice b m cb]) q ∧ q.num.natAbs = lv X n ∧ q.den = lv Y m := by
  have hd := R.den
  have hg : Nat.gcd (lv X n) (lv Y m) = 1 := by unfold ratOkB at ok; simp at ok; exact ok.2
  have hf : f = true → 0 < lv X n := fun e => by
    rcases Nat.eq_zero_or_pos (lv X n) with h | h
    · have := (lv_zero R.pX).2 h
      subst e this
      simp [ratOkB] at ok
    · exact h
  have hq : qn (⟨if f then -(lv X n : Int) else (lv X n : Int), lv Y m, by omega, by cases f <;> simpa [Nat.Coprime] using hg⟩ : Rat) = f := by
    unfold qn
    cases f
    · simp
    · have := hf rfl
      simp
      omega
  refine ⟨⟨if f then -(lv X n : Int) else (lv X n : Int), lv Y m, by omega, by cases f <;> simpa [Nat.Coprime] using hg⟩, ⟨a, n, ca, b, m, cb, ba, oa, bb, ob, X, Y, ?_, R, ?_, rfl⟩, ?_, rfl⟩
  · rw [hq]
  · cases f <;> simp
  · cases f <;> simp

/-- What a function gives back can be read. -/
theorem RatV.read {w : World} {v : Value} {q : Rat} {B M : Nat} (h : RatV w v (qn q) q.num.natAbs q.den B M) : RatR w v q := by
  obtain ⟨v1, v2, g, k, rfl, ⟨a, n, ca, X, rfl, n1, -, n3, n4, -, n6, n7, n8⟩, ⟨b, m, cb, Y, rfl, m1, -, m3, m4, -, m6, m7, m8⟩, -⟩ := h
  refine ⟨a, n, ca, b, m, cb, g, 0, k, 0, X, Y, rfl, ⟨n1, m1, n3, m3, n4, m4, n6, m6, n7, m7, ?_⟩, n8, m8⟩
  rcases Nat.eq_zero_or_pos m with e | e
  · subst e
    have := q.den_nz
    rw [← m8] at this
    exact absurd rfl this
  · exact e

theorem implRatAdd_q {v v' : Value} {p q : Rat} {k l : Nat} {w : World} (hw : 0 ≤ w.heap.size) (hT : Tab w) (hp : Qb p k) (hq : Qb q l) (hk : 2 * k + 2 * l ≤ 1048576) (R : RatR w v p) (R' : RatR w v' q) :
    Calls Try.prog 23 #[v, v'] w fun e w' => ∃ u, e = .returned u ∧ RatV w' u (qn (p + q)) (p + q).num.natAbs (p + q).den w.heap.size 1048578 ∧ w.Since w.heap.size w' := by
  obtain ⟨a, n, ca, b, m, cb, ba, oa, bb, ob, X, Y, rfl, R, x1, x2⟩ := R
  obtain ⟨a', n', ca', b', m', cb', ba', oa', bb', ob', X', Y', rfl, R', y1, y2⟩ := R'
  have n1 := lv_lim R.pX (by rw [x1]; exact hp.1)
  have n2 := lv_lim R.pY (by rw [x2]; exact hp.2)
  have n3 := lv_lim R'.pX (by rw [y1]; exact hq.1)
  have n4 := lv_lim R'.pY (by rw [y2]; exact hq.2)
  have J := implRatAdd_ok (qn p) (qn q) a b a' b' ba oa n ca bb ob m cb ba' oa' n' ca' bb' ob' m' cb' X Y X' Y' w hw hT (by omega) R R' (R.ok x1 x2) (R'.ok y1 y2)
  obtain ⟨e1, e2, e3⟩ := q_add p q
  rw [x1, x2, y1, y2, ← e1, ← e2, ← e3] at J
  exact J

theorem implRatMul_q {v v' : Value} {p q : Rat} {k l : Nat} {w : World} (hw : 0 ≤ w.heap.size) (hT : Tab w) (hp : Qb p k) (hq : Qb q l) (hk : 2 * k + 2 * l ≤ 1048576) (R : RatR w v p) (R' : RatR w v' q) :
    Calls Try.prog 24 #[v, v'] w fun e w' => ∃ u, e = .returned u ∧ RatV w' u (qn (p * q)) (p * q).num.natAbs (p * q).den w.heap.size 1048578 ∧ w.Since w.heap.size w' := by
  obtain ⟨a, n, ca, b, m, cb, ba, oa, bb, ob, X, Y, rfl, R, x1, x2⟩ := R
  obtain ⟨a', n', ca', b', m', cb', ba', oa', bb', ob', X', Y', rfl, R', y1, y2⟩ := R'
  have n1 := lv_lim R.pX (by rw [x1]; exact hp.1)
  have n2 := lv_lim R.pY (by rw [x2]; exact hp.2)
  have n3 := lv_lim R'.pX (by rw [y1]; exact hq.1)
  have n4 := lv_lim R'.pY (by rw [y2]; exact hq.2)
  have J := implRatMul_ok (qn p) (qn q) a b a' b' ba oa n ca bb ob m cb ba' oa' n' ca' bb' ob' m' cb' X Y X' Y' w hw hT (by omega) (by omega) R R' (R.ok x1 x2) (R'.ok y1 y2)
  obtain ⟨e1, e2, e3⟩ := q_mul p q
  rw [x1, x2, y1, y2, ← e1, ← e2, ← e3] at J
  exact J

theorem implRatDiv_q {v v' : Value} {p q : Rat} {k l : Nat} {w : World} (hw : 0 ≤ w.heap.size) (hT : Tab w) (hp : Qb p k) (hq : Qb q l) (hk : 2 * k + 2 * l ≤ 1048576) (h0 : q.num.natAbs ≠ 0) (R : RatR w v p) (R' : RatR w v' q) :
    Calls Try.prog 28 #[v, v'] w fun e w' => ∃ u, e = .returned (.tuple #[u, .bool true]) ∧ RatV w' u (qn (p / q)) (p / q).num.natAbs (p / q).den w.heap.size 1048578 ∧ w.Since w.heap.size w' := by
  obtain ⟨a, n, ca, b, m, cb, ba, oa, bb, ob, X, Y, rfl, R, x1, x2⟩ := R
  obtain ⟨a', n', ca', b', m', cb', ba', oa', bb', ob', X', Y', rfl, R', y1, y2⟩ := R'
  have n1 := lv_lim R.pX (by rw [x1]; exact hp.1)
  have n2 := lv_lim R.pY (by rw [x2]; exact hp.2)
  have n3 := lv_lim R'.pX (by rw [y1]; exact hq.1)
  have n4 := lv_lim R'.pY (by rw [y2]; exact hq.2)
  have n5 : 0 < n' := by
    rcases Nat.eq_zero_or_pos n' with e | e
    · exact absurd ((lv_zero R'.pX).1 e) (by rw [y1]; exact h0)
    · exact e
  have J := implRatDiv_ok (qn p) (qn q) a b a' b' ba oa n ca bb ob m cb ba' oa' n' ca' bb' ob' m' cb' X Y X' Y' w hw hT (by omega) (by omega) n5 R R' (R.ok x1 x2) (R'.ok y1 y2)
  obtain ⟨e1, e2, e3⟩ := q_div p q h0
  rw [x1, x2, y1, y2, ← e1, ← e2, ← e3] at J
  exact J

theorem implRatCmp_q {v v' : Value} {p q : Rat} {k l : Nat} {w : World} (hw : 0 ≤ w.heap.size) (hT : Tab w) (hp : Qb p k) (hq : Qb q l) (hk : 2 * k + 2 * l ≤ 1048576) (R : RatR w v p) (R' : RatR w v' q) :
    Calls Try.prog 26 #[v, v'] w fun e w' => e = .returned (.int .i64 (qcmp p q)) ∧ w.Since w.heap.size w' := by
  obtain ⟨a, n, ca, b, m, cb, ba, oa, bb, ob, X, Y, rfl, R, x1, x2⟩ := R
  obtain ⟨a', n', ca', b', m', cb', ba', oa', bb', ob', X', Y', rfl, R', y1, y2⟩ := R'
  have n1 := lv_lim R.pX (by rw [x1]; exact hp.1)
  have n2 := lv_lim R.pY (by rw [x2]; exact hp.2)
  have n3 := lv_lim R'.pX (by rw [y1]; exact hq.1)
  have n4 := lv_lim R'.pY (by rw [y2]; exact hq.2)
  have J := implRatCmp_ok (qn p) (qn q) a b a' b' ba oa n ca bb ob m cb ba' oa' n' ca' bb' ob' m' cb' X Y X' Y' w hw hT (by omega) R R' (R.ok x1 x2) (R'.ok y1 y2)
  rw [x1, x2, y1, y2, q_cmp] at J
  exact J

theorem specRatCmp_q {v v' : Value} {p q : Rat} {k l : Nat} {w : World} (hp : Qb p k) (hq : Qb q l) (hk : 2 * k + 2 * l ≤ 1048576) (R : RatR w v p) (R' : RatR w v' q) :
    Calls Try.prog 18 #[v, v'] w fun e w' => e = .returned (.int .i64 (qcmp p q)) ∧ w.Since w.heap.size w' := by
  obtain ⟨a, n, ca, b, m, cb, ba, oa, bb, ob, X, Y, rfl, R, x1, x2⟩ := R
  obtain ⟨a', n', ca', b', m', cb', ba', oa', bb', ob', X', Y', rfl, R', y1, y2⟩ := R'
  have n1 := lv_lim R.pX (by rw [x1]; exact hp.1)
  have n2 := lv_lim R.pY (by rw [x2]; exact hp.2)
  have n3 := lv_lim R'.pX (by rw [y1]; exact hq.1)
  have n4 := lv_lim R'.pY (by rw [y2]; exact hq.2)
  have J := specRatCmp_opt (qn p) (qn q) a b a' b' ba oa n ca bb ob m cb ba' oa' n' ca' bb' ob' m' cb' X Y X' Y' w (by omega) R R' (R.ok x1 x2) (R'.ok y1 y2)
  rw [x1, x2, y1, y2, q_cmp] at J
  exact J

theorem l1Add_q {v v' : Value} {p q : Rat} {k l : Nat} {w : World} (hp : Qb p k) (hq : Qb q l) (hk : 2 * k + 2 * l ≤ 1048576) (R : RatR w v p) (R' : RatR w v' q) :
    Calls Try.prog 58 #[v, v'] w fun e w' => ∃ u, e = .returned u ∧ RatV w' u (qn (p + q)) (p + q).num.natAbs (p + q).den w.heap.size 4194304 ∧ w.Since w.heap.size w' := by
  obtain ⟨a, n, ca, b, m, cb, ba, oa, bb, ob, X, Y, rfl, R, x1, x2⟩ := R
  obtain ⟨a', n', ca', b', m', cb', ba', oa', bb', ob', X', Y', rfl, R', y1, y2⟩ := R'
  have n1 := lv_lim R.pX (by rw [x1]; exact hp.1)
  have n2 := lv_lim R.pY (by rw [x2]; exact hp.2)
  have n3 := lv_lim R'.pX (by rw [y1]; exact hq.1)
  have n4 := lv_lim R'.pY (by rw [y2]; exact hq.2)
  have J := l1Add_opt (qn p) (qn q) a b a' b' ba oa n ca bb ob m cb ba' oa' n' ca' bb' ob' m' cb' X Y X' Y' w (by omega) R R' (R.ok x1 x2) (R'.ok y1 y2)
  obtain ⟨e1, e2, e3⟩ := q_add p q
  rw [x1, x2, y1, y2, ← e1, ← e2, ← e3] at J
  exact J

theorem implRatOk_q {v : Value} {p : Rat} {k : Nat} {w : World} (hw : 0 ≤ w.heap.size) (hT : Tab w) (hp : Qb p k) (hk : k ≤ 1048576) (R : RatR w v p) :
    Calls Try.prog 25 #[v] w fun e w' => e = .returned (.bool true) ∧ w.Since w.heap.size w' := by
  obtain ⟨a, n, ca, b, m, cb, ba, oa, bb, ob, X, Y, rfl, R, x1, x2⟩ := R
  have n1 := lv_lim R.pX (by rw [x1]; exact hp.1)
  have n2 := lv_lim R.pY (by rw [x2]; exact hp.2)
  have J := implRatOk_any (qn p) a b ba oa n ca bb ob m cb X Y w hw (by omega) (by omega) R.nc R.mc R.ac R.bc R.LX R.LY R.lX R.lY hT
  rw [R.ok x1 x2] at J
  exact J

theorem specRatOk_q {v : Value} {p : Rat} {k : Nat} {w : World} (hp : Qb p k) (hk : k ≤ 1048576) (R : RatR w v p) :
    Calls Try.prog 22 #[v] w fun e w' => e = .returned (.bool true) ∧ w.Since w.heap.size w' := by
  obtain ⟨a, n, ca, b, m, cb, ba, oa, bb, ob, X, Y, rfl, R, x1, x2⟩ := R
  have n1 := lv_lim R.pX (by rw [x1]; exact hp.1)
  have n2 := lv_lim R.pY (by rw [x2]; exact hp.2)
  have J := specRatOk_any (qn p) a b ba oa n ca bb ob m cb X Y w (by omega) (by omega) R.LX R.LY R.lX R.lY
  rw [R.ok x1 x2] at J
  exact J

end Go.Proofs.Ytdfcckifbbeoiaa
