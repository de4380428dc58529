import Derived.Test.YtkhpggnnpfckdaaGreatDoorOwnP17
import Derived.Test.YtkhpggnnpfckdaaGreatDoorOwnP3
import Derived.Maps.AppendAt
import Derived.Deep.AppendLies
import Derived.Test.YtkhpggnnpfckdaaGreatDoorOwnP9
import Derived.Test.YtkhpggnnpfckdaaGreatDoorOwnP18
import Derived.Test.YtkhpggnnpfckdaaGreatDoorOwnP10
import Derived.Deep.RegionHeld3
namespace Go.Proofs.YtkhpggnnpfckdaaGreatDoor
open Go.RowKit

theorem RatRP.blocks {w w' : World} {p : Nat → Prop} {v : Value} {q : Rat} (h : RatRP w p v q) (hb : ∀ g, g < w.heap.size → p g → w'.heap[g]? = w.heap[g]?) : RatRP w' p v q := by
  obtain ⟨a, n, ca, b, m, cb, ba, oa, bb, ob, X, Y, h1, R, h3, h4, h5, h6⟩ := h
  have LX : Limbs w' a ba oa n X := fun j hj => ⟨(R.LX j hj).1, (World.cell?_of_block (w := w) (a := ⟨ba, oa + j, none⟩) (hb ba (R.LX.lt (by omega)) (h5 (by omega)))).trans (R.LX j hj).2⟩
  have LY : Limbs w' b bb ob m Y := fun j hj => ⟨(R.LY j hj).1, (World.cell?_of_block (w := w) (a := ⟨bb, ob + j, none⟩) (hb bb (R.LY.lt (by omega)) (h6 (by omega)))).trans (R.LY j hj).2⟩
  exact ⟨a, n, ca, b, m, cb, ba, oa, bb, ob, X, Y, h1, ⟨R.nc, R.mc, R.ac, R.bc, LX, LY, R.lX, R.lY, R.pX, R.pY, R.m0⟩, h3, h4, h5, h6⟩

/-- A list of rationals that is grown by append. -/
structure OutL (w : World) (base : Nat) (v : Value) (k : Nat) (Q : Nat → Rat) (xs : List Value) : Prop where
  own : w.ownsRow base 70 3 v k xs
  at_ : ∀ i, i < k → ∃ x y, xs[i * 3]? = some (.bool (qn (Q i))) ∧ xs[i * 3 + 1]? = some x ∧ xs[i * 3 + 2]? = some y ∧ RatRP w (fun g => v.ownBlock ≠ some g) (.agg #[.bool (qn (Q i)), x, y]) (Q i)

theorem OutL.keep {w w' : World} {base k : Nat} {v : Value} {Q : Nat → Rat} {xs : List Value} (h : OutL w base v k Q xs) (s : w.Since w.heap.size w') : OutL w' base v k Q xs := by
  refine ⟨h.own.kept (row := none) ⟨s.os, s.tape, s.output, s.size, fun k hk _ => s.block k hk⟩ (Classical.em _), fun i hi => ?_⟩
  obtain ⟨x, y, h1, h2, h3, h4⟩ := h.at_ i hi
  exact ⟨x, y, h1, h2, h3, h4.keep s⟩

theorem OutL.snoc {w w1 w' : World} {base k : Nat} {v v' : Value} {Q : Nat → Rat} {xs : List Value} {x y : Value} (h : OutL w base v k Q xs) (s1 : w.Since w.heap.size w1) (hs : w.heap.size < w1.heap.size) (g : w1.grownBy w' v.ownBlock) (own : w'.ownsRow base 70 3 v' (k + 1) (xs ++ [.bool (qn (Q k)), x, y]))
    (hat : v'.ownBlock = v.ownBlock ∨ v'.ownBlock = some w1.heap.size) (R : RatRP w (fun g => v.ownBlock ≠ some g) (.agg #[.bool (qn (Q k)), x, y]) (Q k)) : OutL w' base v' (k + 1) Q (xs ++ [.bool (qn (Q k)), x, y]) := by
  have hl : xs.length = k * 3 := h.own.1
  have mv : ∀ {u : Value} {q : Rat}, RatRP w (fun g => v.ownBlock ≠ some g) u q → RatRP w' (fun g => v'.ownBlock ≠ some g) u q := fun {u q} r => by
    have r2 : RatRP w (fun g => v.ownBlock ≠ some g ∧ v'.ownBlock ≠ some g) u q := r.imp (fun j hj hp => ⟨hp, fun e => by
      rcases hat with h | h
      · exact hp (h.symm.trans e)
      · rw [e] at h; simp at h; omega⟩)
    have r3 : RatRP w' (fun g => v.ownBlock ≠ some g ∧ v'.ownBlock ≠ some g) u q := r2.blocks (fun j hj hp => (g.block j (by omega) (fun e => hp.1 e.symm)).trans (s1.block j hj))
    exact r3.imp (fun _ _ hp => hp.2)
  refine ⟨own, fun i hi => ?_⟩
  by_cases e : i = k
  · subst e
    refine ⟨x, y, ?_, ?_, ?_, mv R⟩
    · rw [List.getElem?_append_right (by omega), hl]; simp
    · rw [List.getElem?_append_right (by omega), hl]; simp
    · rw [List.getElem?_append_right (by omega), hl]; simp
  · obtain ⟨x', y', h1, h2, h3, h4⟩ := h.at_ i (by omega)
    exact ⟨x', y', by rw [List.getElem?_append_left (by omega)]; exact h1, by rw [List.getElem?_append_left (by omega)]; exact h2, by rw [List.getElem?_append_left (by omega)]; exact h3, mv h4⟩

theorem OutL.qs {w : World} {base k : Nat} {v : Value} {Q : Nat → Rat} {xs : List Value} (h : OutL w base v k Q xs) : ∃ a b cap, v = .slice a k cap ∧ RatQs w (fun _ => True) a b 0 k Q := by
  have hc := @World.ownsRow.cells _ _ _ _ _ _ _ h.own
  have h2 := h.own
  have hat := h.at_
  obtain ⟨_, ⟨rfl, rfl⟩ | ⟨g, cap, cur, rfl, hg, hb, hn, _⟩⟩ := h2
  · exact ⟨none, 0, 0, rfl, fun i hi => absurd hi (by omega)⟩
  · refine ⟨_, g, cap, rfl, fun i hi => ⟨rfl, ?_⟩⟩
    obtain ⟨x, y, h1, h2, h3, h4⟩ := hat i hi
    have e1 := hc (g := g) rfl _ _ h1
    have e2 := hc (g := g) rfl _ _ h2
    have e3 := hc (g := g) rfl _ _ h3
    rw [Go.WideShapes.add_plain] at e1 e2 e3
    exact ⟨x, y, e1, by rw [Nat.add_assoc]; exact e2, by rw [Nat.add_assoc]; exact e3, h4.imp (fun _ _ _ => trivial)⟩

/-- The three cells of a new element. -/
theorem new3 (w : World) (x y z : Value) (t : TypeId) : ∀ j u, ([x, y, z] : List Value)[j]? = some u → (w.alloc (.cells #[x, y, z] t)).cell? ((⟨w.heap.size, 0, none⟩ : Addr).add j) = some u := fun j u hu => by
  rw [Go.WideShapes.add_plain, Nat.zero_add]
  rcases j with _ | _ | _ | j
  · simp at hu; subst hu; simp [go_sem]
  · simp at hu; subst hu; simp [go_sem]
  · simp at hu; subst hu; simp [go_sem]
  · simp at hu

theorem one3 (f : Bool) (a b : Option Addr) (n c m d : Nat) : ∀ u ∈ ([.bool f, .slice a n c, .slice b m d] : List Value), u.oneCell' = true := by
  intro u hu
  simp at hu
  rcases hu with rfl | rfl | rfl <;> rfl

theorem infoRat : ∃ i, Tryz.prog.info? 70 = some i ∧ i.zero = some (.agg #[.bool false, .slice none 0 0, .slice none 0 0]) ∧ i.size = 3 ∧ i.bytes = 56 := by
  obtain ⟨i, hi, h⟩ := Option.map_eq_some_iff.1 info_Rat
  simp only [Prod.mk.injEq] at h
  exact ⟨i, hi, h.1, h.2.1, h.2.2⟩

set_option maxHeartbeats 6400000 in
set_option maxRecDepth 100000 in
theorem l3Relu_any (ax : Option Addr) (bx ox n cx : Nat) (v : Nat → Rat) (w : World) (hn : n ≤ 1048576) (HX : RatQs w (fun _ => True) ax bx ox n v) (hq : ∀ i, i < n → Qb (v i) 1048577) :
    Calls Tryz.prog 66 #[.slice ax n cx] w fun e w' => ∃ a b cap, e = .returned (.slice a n cap) ∧ RatQs w' (fun _ => True) a b 0 n (fun i => qrelu (v i)) ∧ w.Since w.heap.size w' := by
  obtain ⟨i0, hi, hz0, hz1, hz2⟩ := infoRat
  have sA : w.Since w.heap.size (w.alloc (.cells #[] 70)) := (World.Since.refl _ _).alloc (Nat.le_refl _) _
  have oA : OutL (w.alloc (.cells #[] 70)) w.heap.size (.slice (some ⟨w.heap.size, 0, none⟩) 0 0) 0 (fun i => qrelu (v i)) [] := ⟨World.ownsRow_made w #[] 0 (Nat.le_refl _) (Nat.zero_le _) rfl, fun i hi => absurd hi (by omega)⟩
  go_enter Tryz.func66, Tryz.ntmps66
  go_wp2
  go_loopw [3, 4] (fun u i wr => ∃ k : Nat, k ≤ n ∧ i = .int .i64 k ∧ w.Since w.heap.size wr ∧ w.heap.size < wr.heap.size ∧ ∃ g cap xs, u = .slice (some ⟨g, 0, none⟩) k cap ∧ OutL wr w.heap.size (.slice (some ⟨g, 0, none⟩) k cap) k (fun i => qrelu (v i)) xs) (fun _ i _ => n - (intOf i).toNat)
  case atStart => exact ⟨0, Nat.zero_le _, rfl, sA, by simp, w.heap.size, 0, [], rfl, oA⟩
  case round =>
    obtain ⟨k, hk, rfl, s, hsz, g, cap, xs, rfl, O⟩ := hrel
    by_cases hlt : k < n
    · obtain ⟨rfl, x, y, M⟩ := HX k hlt
      have HR := M.R.read
      obtain ⟨a6, n6, c6, b6, m6, d6, -, -, -, -, -, -, e6, -⟩ := M.R
      simp only [Value.agg.injEq, Array.mk.injEq, List.cons.injEq, and_true, true_and] at e6
      obtain ⟨rfl, rfl⟩ := e6
      have M' := M.keep s
      have g0 := M'.c0
      have g1 := M'.c1
      have g2 := M'.c2
      have hz : (k : Int) < (n : Int) := by omega
      have bl := M.lt
      have dr : wr.Since wr.heap.size wr.drew := (World.Since.refl _ _).drew
      have S1 : w.Since w.heap.size wr.drew := s.trans (sinceMono dr s.size)
      have g0' := (M.keep S1).c0
      have g1' := (M.keep S1).c1
      have g2' := (M.keep S1).c2
      have J1 := l1Zero_any wr.drew
      have gl := O.own.lt g rfl
      go_wp2_with fail
      go_region_held3 (fun w' => w'.cell? ⟨bx, ox + k * 3, none⟩ = some (.bool (qn (v k))) ∧ w'.cell? ⟨bx, ox + k * 3 + 1, none⟩ = some (.slice a6 n6 c6) ∧ w'.cell? ⟨bx, ox + k * 3 + 2, none⟩ = some (.slice b6 m6 d6)) (go_keep)
        (first
          | (go_at_call 109
             with_reducible refine J1.mono ?_
             rintro e w4 ⟨u4, rfl, RV, s4⟩
             have RP : RatRP w4 (fun g => wr.drew.heap.size ≤ g) u4 (0 : Rat) := RatV.rp (q := 0) RV
             have RZ := RP.read
             obtain ⟨a7, n7, c7, b7, m7, d7, -, -, -, -, -, -, e7, -⟩ := RP
             subst e7
             have S4 : w.Since w.heap.size w4 := S1.trans (sinceMono s4 S1.size)
             have J2 := l1Max_relu (.slice a6 n6 c6) (.slice b6 m6 d6) (.slice a7 n7 c7) (.slice b7 m7 d7) (v k) w4 (hq k hlt) (HR.keep S4) RZ
             have j0 := (M.keep S4).c0
             have j1 := (M.keep S4).c1
             have j2 := (M.keep S4).c2)
          | (go_at_call 108
             with_reducible refine J2.mono ?_
             rintro e w5 ⟨u5, rfl, RP5, s5⟩
             have RQ5 := RP5
             obtain ⟨a8, n8, c8, b8, m8, d8, -, -, -, -, -, -, e8, -⟩ := RQ5
             subst e8
             have u45 : wr.Since wr.heap.size w5 := dr.trans (sinceMono (s4.trans (sinceMono s5 s4.size)) dr.size)
             have S5 : w.Since w.heap.size w5 := s.trans (sinceMono u45 s.size)
             have O5 := O.keep u45
             have z4 := s4.size
             have R5 : RatRP w5 (fun q => (Value.slice (some ⟨g, 0, none⟩) k cap).ownBlock ≠ some q) (.agg #[.bool (qn (qrelu (v k))), .slice a8 n8 c8, .slice b8 m8 d8]) (qrelu (v k)) := RP5.imp (fun q _ hq e => by simp [Value.ownBlock] at e; have := z4; have : wr.drew.heap.size = wr.heap.size := rfl; omega)
             have i0' := (M.keep S5).c0
             have i1' := (M.keep S5).c1
             have i2' := (M.keep S5).c2
             have zw5 := u45.size)
          | (refine step_append_lies _ rfl _ _ 28 rfl w.heap.size 70 i0 _ 3 56 Tryz.underlying28 hi hz0 hz1 hz2 rfl (by decide) _ k xs rfl (O5.own.alloc _) ⟨w5.heap.size, 0, none⟩ 1 1 [.bool (qn (qrelu (v k))), .slice a8 n8 c8, .slice b8 m8 d8] rfl rfl (new3 _ _ _ _ _) (one3 _ _ _ _ _ _ _) (by decide) (by unfold maxLen; omega) (by omega) (by simp; omega) (w5.heap.size + 1) (by simp) ?_
             intro g' cap' w6 hown hgrow hat hlt6
             have sW := (World.Since.refl w5.heap.size w5).alloc (Nat.le_refl _) (.cells #[.bool (qn (qrelu (v k))), .slice a8 n8 c8, .slice b8 m8 d8] 70)
             have hne : some bx ≠ (Value.slice (some ⟨g, 0, none⟩) k cap).ownBlock := fun e => by simp [Value.ownBlock] at e; omega
             have y0 := hgrow.cell ((sW.cell (a := ⟨bx, ox + k * 3, none⟩) (show bx < w5.heap.size by omega)).trans i0') hne
             have y1 := hgrow.cell ((sW.cell (a := ⟨bx, ox + k * 3 + 1, none⟩) (show bx < w5.heap.size by omega)).trans i1') hne
             have y2 := hgrow.cell ((sW.cell (a := ⟨bx, ox + k * 3 + 2, none⟩) (show bx < w5.heap.size by omega)).trans i2') hne))
      all_goals go_wp2
      all_goals go_roundw
      case rel =>
        have zz : (w5.alloc (.cells #[.bool (qn (qrelu (v k))), .slice a8 n8 c8, .slice b8 m8 d8] 70)).heap.size = w5.heap.size + 1 := by simp
        have hat' : (Value.slice (some ⟨g', 0, none⟩) (k + 1) cap').ownBlock = (Value.slice (some ⟨g, 0, none⟩) k cap).ownBlock ∨ (Value.slice (some ⟨g', 0, none⟩) (k + 1) cap').ownBlock = some (w5.alloc (.cells #[.bool (qn (qrelu (v k))), .slice a8 n8 c8, .slice b8 m8 d8] 70)).heap.size := by
          rcases hat with h | h
          · exact Or.inl h.symm
          · right; rw [zz, h]; rfl
        have O6 := OutL.snoc (Q := fun i => qrelu (v i)) O5 sW (by omega) hgrow hown hat' R5
        have S6 : w.Since w.heap.size w6 := (S5.trans (sinceMono sW S5.size)).grown hgrow (by omega) (fun q hq => (O5.own.lt q hq).1)
        have z6 := hgrow.size
        exact ⟨k + 1, by omega, by go_num, S6, by omega, g', cap', _, rfl, O6⟩
      case measure => simp [intOf]; omega
    · have e : k = n := by omega
      subst e
      obtain ⟨a, b, c, e, Q⟩ := O.qs
      simp only [Value.slice.injEq, true_and] at e
      obtain ⟨rfl, rfl⟩ := e
      go_wp2
      go_ret
      exact ⟨_, b, cap, rfl, Q, s⟩

end Go.Proofs.YtkhpggnnpfckdaaGreatDoor

namespace Go.Proofs.YtkhpggnnpfckdaaGreatDoor
open Go.RowKit

theorem Box4.ofBlock {w w' : World} {c : Nat} {x y z u : Value} (h : Box4 w c x y z u) (e : w'.heap[c]? = w.heap[c]?) : Box4 w' c x y z u :=
  ⟨(World.cell?_of_block (w := w) (a := ⟨c, 0, none⟩) e).trans h.c0, (World.cell?_of_block (w := w) (a := ⟨c, 1, none⟩) e).trans h.c1, (World.cell?_of_block (w := w) (a := ⟨c, 2, none⟩) e).trans h.c2, (World.cell?_of_block (w := w) (a := ⟨c, 3, none⟩) e).trans h.c3, fun k => (World.frozen?_of_block (w := w) (a := ⟨c, k, none⟩) e).trans (h.f k)⟩

set_option maxHeartbeats 6400000 in
set_option maxRecDepth 100000 in
theorem l3Apply_any (d : AffD) (lo : Nat) (a1 a2 : Option Addr) (k1 k2 : Nat) (ax : Option Addr) (bx ox cx : Nat) (v : Nat → Rat) (w : World) (hd : d.shape) (hv : d.vals) (H : AffL w lo d a1 a2 k1 k2)
    (HX : RatQs w (fun _ => True) ax bx ox d.cols.toNat v) (hB : RowB d v) (hBq : ∀ i, i < d.nb → Qb (d.B i).q 1048577) :
    Calls Tryz.prog 67 #[.agg #[.int .i64 d.rows, .int .i64 d.cols, .slice a1 d.nw k1, .slice a2 d.nb k2], .slice ax d.cols.toNat cx] w fun e w' => ∃ a b cap, e = .returned (.slice a d.rows.toNat cap) ∧
      RatQs w' (fun _ => True) a b 0 d.rows.toNat (qApply d v) ∧ w.Since w.heap.size w' := by
  obtain ⟨i0, hi, hz0, hz1, hz2⟩ := infoRat
  obtain ⟨⟨hr0, hr1, hc0, hc1⟩, hnw, hnb⟩ := hd
  obtain ⟨R, hR⟩ : ∃ R, R = d.rows.toNat := ⟨_, rfl⟩
  obtain ⟨C, hC⟩ : ∃ C, C = d.cols.toNat := ⟨_, rfl⟩
  have eR : d.rows = (R : Int) := by omega
  have eC : d.cols = (C : Int) := by omega
  have hnw' : d.nw = R * C := by rw [eR, eC, ← Int.natCast_mul] at hnw; exact Int.ofNat_inj.1 hnw
  have hnb' : d.nb = R := by omega
  have QB := hide hB
  have EQ := hide (show ∀ r, qApply d v r = psum (d.B r).q (fun j => (d.W (r * C + j)).q) v C by intro r; rw [hC]; rfl)
  rw [← hC] at HX
  rw [← hR, ← hC, eR, eC]
  have HR := hide hR
  have HCc := hide hC
  obtain ⟨b1, o1, -, LW⟩ := H.LW
  obtain ⟨b2, o2, -, LB⟩ := H.LB
  have QW := LW.qs hv.1
  have QQ := LB.qs hv.2
  rw [hnw'] at QW
  rw [hnb'] at QQ hBq
  have hRb : R ≤ 20000 := by omega
  have hCb : C ≤ 20000 := by omega
  have hRC : R * C ≤ 20000 * 20000 := Nat.mul_le_mul hRb hCb
  have HNW := hide hnw'
  rw [hnb']
  clear hr0 hr1 hc0 hc1 hnw hnb hR hC hB hv eR eC H LW LB hnw' hnb'
  obtain ⟨wA, eA⟩ : ∃ wA : World, wA = (w.alloc (.cells #[.int .i64 R, .int .i64 C, .slice a1 d.nw k1, .slice a2 R k2] 66)).alloc (.cells #[] 70) := ⟨_, rfl⟩
  have sA : w.Since w.heap.size wA := by rw [eA]; exact ((World.Since.refl _ _).alloc (Nat.le_refl _) _).alloc (by simp) _
  have zA : wA.heap.size = w.heap.size + 1 + 1 := by rw [eA]; simp
  have bA : Box4 wA w.heap.size (.int .i64 R) (.int .i64 C) (.slice a1 d.nw k1) (.slice a2 R k2) := by rw [eA]; exact (Box4.new w _ _ _ _ _).keep ((World.Since.refl _ _).alloc (Nat.le_refl _) _)
  have oA : OutL wA (w.heap.size + 1) (.slice (some ⟨w.heap.size + 1, 0, none⟩) 0 0) 0 (qApply d v) [] := by
    rw [eA]
    have := World.ownsRow_made (base := w.heap.size + 1) (e := 70) (size := 3) (w.alloc (.cells #[.int .i64 R, .int .i64 C, .slice a1 d.nw k1, .slice a2 R k2] 66)) #[] 0 (by simp) (Nat.zero_le _) rfl
    rw [show (w.alloc (.cells #[.int .i64 R, .int .i64 C, .slice a1 d.nw k1, .slice a2 R k2] 66)).heap.size = w.heap.size + 1 by simp] at this
    exact ⟨this, fun i hi => absurd hi (by omega)⟩
  have EA := hide eA
  clear eA
  go_enter Tryz.func67, Tryz.ntmps67
  go_wp2_with fail
  rw [← EA.out]
  clear EA
  go_loopw [5, 6] (fun u i wr => ∃ k : Nat, k ≤ R ∧ i = .int .i64 k ∧ w.Since w.heap.size wr ∧ w.heap.size + 1 < wr.heap.size ∧ Box4 wr w.heap.size (.int .i64 R) (.int .i64 C) (.slice a1 d.nw k1) (.slice a2 R k2) ∧ ∃ g cap xs, u = .slice (some ⟨g, 0, none⟩) k cap ∧ OutL wr (w.heap.size + 1) (.slice (some ⟨g, 0, none⟩) k cap) k (qApply d v) xs) (fun _ i _ => R - (intOf i).toNat)
  case atStart => exact ⟨0, Nat.zero_le _, rfl, sA, by omega, bA, w.heap.size + 1, 0, [], rfl, oA⟩
  case round =>
    rename World => wo
    obtain ⟨r, hr, rfl, s, hsz, B, g, cap, xs, rfl, O⟩ := hrel
    have q0 := B.c0
    by_cases hlt : r < R
    · obtain ⟨rfl, xb, yb, MB⟩ := QQ r hlt
      have HRB := MB.R.read
      obtain ⟨a6, n6, c6, b6, m6, d6, -, -, -, -, -, -, e6, -⟩ := MB.R
      simp only [Value.agg.injEq, Array.mk.injEq, List.cons.injEq, and_true, true_and] at e6
      obtain ⟨rfl, rfl⟩ := e6
      have q3 := B.c3
      have g0 := (MB.keep s).c0
      have g1 := (MB.keep s).c1
      have g2 := (MB.keep s).c2
      have hz : (r : Int) < (R : Int) := by omega
      have qS : ∀ k, k ≤ C → Qb (psum (d.B r).q (fun j => (d.W (r * C + j)).q) v k) 1048577 := fun j hj => by have := QB.out.s r (by rw [← HR.out]; exact hlt) j (by rw [← HCc.out]; exact hj); rw [← HCc.out] at this; exact this
      have hrow : r * C + C ≤ R * C := by rw [← Nat.succ_mul]; exact Nat.mul_le_mul_right _ hlt
      have qW : ∀ j, j < C → Qb (d.W (r * C + j)).q 1048577 := fun j hj => QB.out.W _ (by rw [HNW.out]; omega)
      have qX : ∀ j, j < C → Qb (v j) 1048577 := fun j hj => QB.out.v j (by rw [← HCc.out]; exact hj)
      go_wp2_with fail
      refine (l1Copy_q (hBq r hlt) (by omega) (HRB.keep s)).mono ?_
      rintro e w2 ⟨u2, rfl, RP2, s2⟩
      have RQ2 := RP2
      obtain ⟨a7, n7, c7, b7, m7, d7, -, -, -, -, -, -, e7, -⟩ := RQ2
      subst e7
      have t3 : w2.Since w2.heap.size (w2.alloc (.cells #[.bool (qn (d.B r).q), .slice a7 n7 c7, .slice b7 m7 d7] 70)) := (World.Since.refl _ _).alloc (Nat.le_refl _) _
      have D3 := Box3.new w2 (.bool (qn (d.B r).q)) (.slice a7 n7 c7) (.slice b7 m7 d7) 70
      clear g0 g1 g2 q3 q0
      go_wp2_with fail
      have u3 : wo.Since wo.heap.size (w2.alloc (.cells #[.bool (qn (d.B r).q), .slice a7 n7 c7, .slice b7 m7 d7] 70)) := s2.trans (sinceMono t3 s2.size)
      have R3 : RatRP (w2.alloc (.cells #[.bool (qn (d.B r).q), .slice a7 n7 c7, .slice b7 m7 d7] 70)) (fun q => wo.heap.size ≤ q ∧ q ≠ w2.heap.size) (.agg #[.bool (qn (d.B r).q), .slice a7 n7 c7, .slice b7 m7 d7]) (d.B r).q := (RP2.imp (fun q hq h => ⟨h, by omega⟩)).keep t3
      have z2 := s2.size
      generalize w2.alloc (.cells #[.bool (qn (d.B r).q), .slice a7 n7 c7, .slice b7 m7 d7] 70) = w3 at *
      have gl := O.own.lt g rfl
      go_loopw [8] (fun i wi => ∃ j : Nat, j ≤ C ∧ i = .int .i64 j ∧ wo.Since wo.heap.size wi ∧ w2.heap.size < wi.heap.size ∧ ∃ a9 n9 c9 b9 m9 d9, Box3 wi w2.heap.size (.bool (qn (psum (d.B r).q (fun j => (d.W (r * C + j)).q) v j))) (.slice a9 n9 c9) (.slice b9 m9 d9) ∧
          RatRP wi (fun q => wo.heap.size ≤ q ∧ q ≠ w2.heap.size) (.agg #[.bool (qn (psum (d.B r).q (fun j => (d.W (r * C + j)).q) v j)), .slice a9 n9 c9, .slice b9 m9 d9]) (psum (d.B r).q (fun j => (d.W (r * C + j)).q) v j)) (fun i _ => C - (intOf i).toNat)
      case atStart => exact ⟨0, Nat.zero_le _, rfl, u3, D3.lt, a7, n7, c7, b7, m7, d7, D3, R3⟩
      case round =>
        obtain ⟨j, hjC, rfl, u4, z4, y1, y2, y3, y4, y5, y6, D4, T4⟩ := hrel
        have S4 : w.Since w.heap.size wr := s.trans (sinceMono u4 s.size)
        have qc1 := (B.keep u4).c1
        by_cases hj : j < C
        · obtain ⟨G, hG⟩ : ∃ G, G = r * C + j := ⟨_, rfl⟩
          obtain ⟨F, hF⟩ : ∃ F, F = r * C := ⟨_, rfl⟩
          have hGn : G < R * C := by omega
          obtain ⟨rfl, xw, yw, MW⟩ := QW G hGn
          obtain ⟨rfl, xv, yv, MX⟩ := HX j hj
          have RW := MW.R.read
          have RX := MX.R.read
          obtain ⟨aw, nw, cw, bw, mw, dw, -, -, -, -, -, -, ew, -⟩ := MW.R
          obtain ⟨av, nv, cv, bv, mv, dv, -, -, -, -, -, -, ev, -⟩ := MX.R
          simp only [Value.agg.injEq, Array.mk.injEq, List.cons.injEq, and_true, true_and] at ew ev
          obtain ⟨rfl, rfl⟩ := ew
          obtain ⟨rfl, rfl⟩ := ev
          have dr : wr.Since wr.heap.size wr.drew := (World.Since.refl _ _).drew
          have u5 : wo.Since wo.heap.size wr.drew := u4.trans (sinceMono dr u4.size)
          have S5 : w.Since w.heap.size wr.drew := s.trans (sinceMono u5 s.size)
          have D5 := D4.keep dr
          have T5 := T4.keep dr
          have qWj := qW j hj
          rw [← hG] at qWj
          have JM := l1Mul_q qWj (qX j hj) (by omega) (RW.keep S5) (RX.keep S5)
          have HPS := hide (show psum (d.B r).q (fun j => (d.W (r * C + j)).q) v (j + 1) = psum (d.B r).q (fun j => (d.W (r * C + j)).q) v j + (d.W G).q * v j by rw [hG]; rfl)
          have eF : (r : Int) * (C : Int) = (F : Int) := by rw [hF, Int.natCast_mul]
          have eG : (F : Int) + (j : Int) = (G : Int) := by omega
          have hF1 : (F : Int) ≤ 400000000 := by omega
          have hG1 : (G : Int) ≤ 400000000 := by omega
          have hG2 : (G : Int) < (d.nw : Int) := by rw [HNW.out]; omega
          have hj1 : (j : Int) < (C : Int) := by omega
          clear hG hF
          go_wp2_with fail
          -- REGION
          refine wp_region_held_drew (S := (fun w' => w'.cell? ⟨w.heap.size, 2, none⟩ = some (.slice (some ⟨b1, o1, none⟩) d.nw k1) ∧ w'.cell? ⟨w.heap.size, 1, none⟩ = some (.int .i64 C) ∧ w'.cell? ⟨b1, o1 + G * 3, none⟩ = some (.bool (qn (d.W G).q)) ∧ w'.cell? ⟨b1, o1 + G * 3 + 1, none⟩ = some (.slice aw nw cw) ∧ w'.cell? ⟨b1, o1 + G * 3 + 2, none⟩ = some (.slice bw mw dw) ∧ w'.cell? ⟨bx, ox + j * 3, none⟩ = some (.bool (qn (v j))) ∧ w'.cell? ⟨bx, ox + j * 3 + 1, none⟩ = some (.slice av nv cv) ∧ w'.cell? ⟨bx, ox + j * 3 + 2, none⟩ = some (.slice bv mv dv))) (by kernel_rfl) ⟨(B.keep u5).c2, (B.keep u5).c1, (MW.keep S5).c0, (MW.keep S5).c1, (MW.keep S5).c2, (MX.keep S5).c0, (MX.keep S5).c1, (MX.keep S5).c2⟩ (fun hHeld => ?_)
          refine take_at 1 (some 29) (.pointer (some ⟨w.heap.size, 2, none⟩)) rfl (by kernel_rfl) (by kernel_rfl) (by kernel_rfl) (by kernel_rfl) (fun _ _ _ h => h) (by kernel_rfl) (by assumption) ?_ ?_
          · intro w' hSw
            clear hSw
            kernel_rfl
          simp only [Act.put, List.setIfInBounds_toArray, List.set_cons_zero, List.set_cons_succ]
          refine take_at 2 (some 30) (.slice (some ⟨b1, o1, none⟩) d.nw k1) rfl (by kernel_rfl) (by kernel_rfl) (by kernel_rfl) (by kernel_rfl) (fun _ _ _ h => h) (by kernel_rfl) (by assumption) ?_ ?_
          · intro w' hSw
            try dsimp only at hSw
            go_simp
          simp only [Act.put, List.setIfInBounds_toArray, List.set_cons_zero, List.set_cons_succ]
          refine take_at 3 (some 31) (.int .i64 r) rfl (by kernel_rfl) (by kernel_rfl) (by kernel_rfl) (by kernel_rfl) (fun _ _ _ h => h) (by kernel_rfl) (by assumption) ?_ ?_
          · intro w' hSw
            clear hSw
            kernel_rfl
          simp only [Act.put, List.setIfInBounds_toArray, List.set_cons_zero, List.set_cons_succ]
          refine take_at 4 (some 32) (.pointer (some ⟨w.heap.size, 1, none⟩)) rfl (by kernel_rfl) (by kernel_rfl) (by kernel_rfl) (by kernel_rfl) (fun _ _ _ h => h) (by kernel_rfl) (by assumption) ?_ ?_
          · intro w' hSw
            clear hSw
            kernel_rfl
          simp only [Act.put, List.setIfInBounds_toArray, List.set_cons_zero, List.set_cons_succ]
          refine take_at 5 (some 33) (.int .i64 C) rfl (by kernel_rfl) (by kernel_rfl) (by kernel_rfl) (by kernel_rfl) (fun _ _ _ h => h) (by kernel_rfl) (by assumption) ?_ ?_
          · intro w' hSw
            try dsimp only at hSw
            go_simp
          simp only [Act.put, List.setIfInBounds_toArray, List.set_cons_zero, List.set_cons_succ]
          refine take_at 6 (some 34) (.int .i64 F) rfl (by kernel_rfl) (by kernel_rfl) (by kernel_rfl) (by kernel_rfl) (fun _ _ _ h => h) (by kernel_rfl) (by assumption) ?_ ?_
          · intro w' hSw
            try dsimp only at hSw
            go_simp
            rw [IntKind.wrap_i64]
            omega
          simp only [Act.put, List.setIfInBounds_toArray, List.set_cons_zero, List.set_cons_succ]
          refine take_at 7 (some 35) (.int .i64 j) rfl (by kernel_rfl) (by kernel_rfl) (by kernel_rfl) (by kernel_rfl) (fun _ _ _ h => h) (by kernel_rfl) (by assumption) ?_ ?_
          · intro w' hSw
            clear hSw
            kernel_rfl
          simp only [Act.put, List.setIfInBounds_toArray, List.set_cons_zero, List.set_cons_succ]
          refine take_at 8 (some 36) (.int .i64 G) rfl (by kernel_rfl) (by kernel_rfl) (by kernel_rfl) (by kernel_rfl) (fun _ _ _ h => h) (by kernel_rfl) (by assumption) ?_ ?_
          · intro w' hSw
            try dsimp only at hSw
            go_simp
            rw [IntKind.wrap_i64]
            omega
          simp only [Act.put, List.setIfInBounds_toArray, List.set_cons_zero, List.set_cons_succ]
          refine take_at 9 (some 37) (.pointer (some ⟨b1, o1 + G * 3, none⟩)) rfl (by kernel_rfl) (by kernel_rfl) (by kernel_rfl) (by kernel_rfl) (fun _ _ _ h => h) (by kernel_rfl) (by assumption) ?_ ?_
          · intro w' hSw
            try dsimp only at hSw
            go_simp
          simp only [Act.put, List.setIfInBounds_toArray, List.set_cons_zero, List.set_cons_succ]
          refine take_at 10 (some 38) (.agg #[.bool (qn (d.W G).q), .slice aw nw cw, .slice bw mw dw]) rfl (by kernel_rfl) (by kernel_rfl) (by kernel_rfl) (by kernel_rfl) (fun _ _ _ h => h) (by kernel_rfl) (by assumption) ?_ ?_
          · intro w' hSw
            try dsimp only at hSw
            go_simp
          simp only [Act.put, List.setIfInBounds_toArray, List.set_cons_zero, List.set_cons_succ]
          refine take_at 11 (some 39) (.slice (some ⟨bx, ox, none⟩) C cx) rfl (by kernel_rfl) (by kernel_rfl) (by kernel_rfl) (by kernel_rfl) (fun _ _ _ h => h) (by kernel_rfl) (by assumption) ?_ ?_
          · intro w' hSw
            clear hSw
            kernel_rfl
          simp only [Act.put, List.setIfInBounds_toArray, List.set_cons_zero, List.set_cons_succ]
          refine take_at 12 (some 40) (.int .i64 j) rfl (by kernel_rfl) (by kernel_rfl) (by kernel_rfl) (by kernel_rfl) (fun _ _ _ h => h) (by kernel_rfl) (by assumption) ?_ ?_
          · intro w' hSw
            clear hSw
            kernel_rfl
          simp only [Act.put, List.setIfInBounds_toArray, List.set_cons_zero, List.set_cons_succ]
          refine take_at 13 (some 41) (.pointer (some ⟨bx, ox + j * 3, none⟩)) rfl (by kernel_rfl) (by kernel_rfl) (by kernel_rfl) (by kernel_rfl) (fun _ _ _ h => h) (by kernel_rfl) (by assumption) ?_ ?_
          · intro w' hSw
            try dsimp only at hSw
            go_simp
          simp only [Act.put, List.setIfInBounds_toArray, List.set_cons_zero, List.set_cons_succ]
          refine take_at 14 (some 42) (.agg #[.bool (qn (v j)), .slice av nv cv, .slice bv mv dv]) rfl (by kernel_rfl) (by kernel_rfl) (by kernel_rfl) (by kernel_rfl) (fun _ _ _ h => h) (by kernel_rfl) (by assumption) ?_ ?_
          · intro w' hSw
            try dsimp only at hSw
            go_simp
          simp only [Act.put, List.setIfInBounds_toArray, List.set_cons_zero, List.set_cons_succ]
          refine wpAnyH_ready (rs := [0, 15]) (by kernel_rfl) (by simp) ?_
          refine AllReadyH.cons rfl (fun K hK => ?_) (AllReadyH.cons rfl (fun K hK => ?_) AllReadyH.nil)
          · have l0 := D5.c0
            have l1 := D5.c1
            have l2 := D5.c2
            go_simp
            clear l0 l1 l2
            refine hK.out _ _ ⟨(B.keep u5).c2, (B.keep u5).c1, (MW.keep S5).c0, (MW.keep S5).c1, (MW.keep S5).c2, (MX.keep S5).c0, (MX.keep S5).c1, (MX.keep S5).c2⟩ (fun h1 => ?_)
            clear hK K hHeld
            refine wpAnyH_ready (rs := [15]) (by kernel_rfl) (by simp) ?_
            refine AllReadyH.cons rfl (fun K hK => ?_) AllReadyH.nil
            go_simp
            go_wp2_with (go_at_call 111; with_reducible refine JM.mono ?_; rintro e w6 ⟨u6, rfl, RP6, s6⟩)
            have RQ6 := RP6
            obtain ⟨a9, n9, c9, b9, m9, d9, -, -, -, -, -, -, e9, -⟩ := RQ6
            subst e9
            have u6 : wo.Since wo.heap.size w6 := u5.trans (sinceMono s6 u5.size)
            have S6 : w.Since w.heap.size w6 := s.trans (sinceMono u6 s.size)
            have D6 := D5.keep s6
            have T6 := T5.keep s6
            have JA := l1Add_rp (qS j (by omega)) (qWj.mul (qX j hj)) (by omega) T6.read RP6.read
            refine hK.out _ _ ⟨(B.keep u6).c2, (B.keep u6).c1, (MW.keep S6).c0, (MW.keep S6).c1, (MW.keep S6).c2, (MX.keep S6).c0, (MX.keep S6).c1, (MX.keep S6).c2⟩ (fun h2 => ?_)
            clear hK K h1
            refine wpAnyH_ready (rs := [16]) (by kernel_rfl) (by simp) ?_
            refine AllReadyH.cons rfl (fun K hK => ?_) AllReadyH.nil
            go_simp
            go_wp2_with (go_at_call 110; with_reducible refine JA.mono ?_; rintro e w7 ⟨u7, rfl, RP7, s7⟩)
            have RQ7 := RP7
            obtain ⟨aa, na, ca, ba, ma, da, -, -, -, -, -, -, ea, -⟩ := RQ7
            subst ea
            have u7 : wo.Since wo.heap.size w7 := u6.trans (sinceMono s7 u6.size)
            have S7 : w.Since w.heap.size w7 := s.trans (sinceMono u7 s.size)
            have D7 := D6.keep s7
            refine hK.out _ _ ⟨(B.keep u7).c2, (B.keep u7).c1, (MW.keep S7).c0, (MW.keep S7).c1, (MW.keep S7).c2, (MX.keep S7).c0, (MX.keep S7).c1, (MX.keep S7).c2⟩ (fun h3 => ?_)
            clear hK K h2
            refine wpAnyH_ready (rs := [17]) (by kernel_rfl) (by simp) ?_
            refine AllReadyH.cons rfl (fun K hK => ?_) AllReadyH.nil
            have l0 := D7.c0
            have l1 := D7.c1
            have l2 := D7.c2
            have lf0 := D7.f 0
            have lf1 := D7.f 1
            have lf2 := D7.f 2
            go_simp
            clear l0 l1 l2 lf0 lf1 lf2
            have D8 := ((D7.set0 (.bool (qn (psum (d.B r).q (fun j => (d.W (r * C + j)).q) v j + (d.W G).q * v j)))).set1 (.slice aa na ca)).set2 (.slice ba ma da)
            have M8 : Marked w7 _ w2.heap.size := (((Marked.refl w7 _).setCell 0 (.bool (qn (psum (d.B r).q (fun j => (d.W (r * C + j)).q) v j + (d.W G).q * v j)))).setCell 1 (.slice aa na ca)).setCell 2 (.slice ba ma da)
            have R8 := (RP7.imp (p' := fun q => wo.heap.size ≤ q ∧ q ≠ w2.heap.size) (fun q _ h => by have := u6.size; have := D6.lt; omega)).marked M8 (fun h => h.2 rfl)
            have U8 := u7.trans (M8.since (B := wo.heap.size) z2)
            have S8 := s.trans (sinceMono U8 s.size)
            have z8 := M8.size
            have z7 := u7.size
            have zD := D7.lt
            refine hK.out _ _ ⟨(B.keep U8).c2, (B.keep U8).c1, (MW.keep S8).c0, (MW.keep S8).c1, (MW.keep S8).c2, (MX.keep S8).c0, (MX.keep S8).c1, (MX.keep S8).c2⟩ (fun hH9 => ?_)
            clear hK K hH9 h3
            refine wpAnyH_done (by kernel_rfl) ?_ _
            go_wp2
            go_roundw
            case rel =>
              go_light
              refine ⟨j + 1, by omega, by go_num, U8, by omega, aa, na, ca, ba, ma, da, ?_, ?_⟩
              · rw [HPS.out]; exact D8
              · rw [HPS.out]; exact R8
            case measure => simp [intOf]; omega
          · go_simp
            go_wp2_with (go_at_call 111; with_reducible refine JM.mono ?_; rintro e w6 ⟨u6, rfl, RP6, s6⟩)
            have RQ6 := RP6
            obtain ⟨a9, n9, c9, b9, m9, d9, -, -, -, -, -, -, e9, -⟩ := RQ6
            subst e9
            have u6 : wo.Since wo.heap.size w6 := u5.trans (sinceMono s6 u5.size)
            have S6 : w.Since w.heap.size w6 := s.trans (sinceMono u6 s.size)
            have D6 := D5.keep s6
            have T6 := T5.keep s6
            have JA := l1Add_rp (qS j (by omega)) (qWj.mul (qX j hj)) (by omega) T6.read RP6.read
            refine hK.out _ _ ⟨(B.keep u6).c2, (B.keep u6).c1, (MW.keep S6).c0, (MW.keep S6).c1, (MW.keep S6).c2, (MX.keep S6).c0, (MX.keep S6).c1, (MX.keep S6).c2⟩ (fun h1 => ?_)
            clear hK K hHeld
            refine wpAnyH_ready (rs := [0]) (by kernel_rfl) (by simp) ?_
            refine AllReadyH.cons rfl (fun K hK => ?_) AllReadyH.nil
            have l0 := D6.c0
            have l1 := D6.c1
            have l2 := D6.c2
            go_simp
            clear l0 l1 l2
            refine hK.out _ _ ⟨(B.keep u6).c2, (B.keep u6).c1, (MW.keep S6).c0, (MW.keep S6).c1, (MW.keep S6).c2, (MX.keep S6).c0, (MX.keep S6).c1, (MX.keep S6).c2⟩ (fun h2 => ?_)
            clear hK K h1
            refine wpAnyH_ready (rs := [16]) (by kernel_rfl) (by simp) ?_
            refine AllReadyH.cons rfl (fun K hK => ?_) AllReadyH.nil
            go_simp
            go_wp2_with (go_at_call 110; with_reducible refine JA.mono ?_; rintro e w7 ⟨u7, rfl, RP7, s7⟩)
            have RQ7 := RP7
            obtain ⟨aa, na, ca, ba, ma, da, -, -, -, -, -, -, ea, -⟩ := RQ7
            subst ea
            have u7 : wo.Since wo.heap.size w7 := u6.trans (sinceMono s7 u6.size)
            have S7 : w.Since w.heap.size w7 := s.trans (sinceMono u7 s.size)
            have D7 := D6.keep s7
            refine hK.out _ _ ⟨(B.keep u7).c2, (B.keep u7).c1, (MW.keep S7).c0, (MW.keep S7).c1, (MW.keep S7).c2, (MX.keep S7).c0, (MX.keep S7).c1, (MX.keep S7).c2⟩ (fun h3 => ?_)
            clear hK K h2
            refine wpAnyH_ready (rs := [17]) (by kernel_rfl) (by simp) ?_
            refine AllReadyH.cons rfl (fun K hK => ?_) AllReadyH.nil
            have l0 := D7.c0
            have l1 := D7.c1
            have l2 := D7.c2
            have lf0 := D7.f 0
            have lf1 := D7.f 1
            have lf2 := D7.f 2
            go_simp
            clear l0 l1 l2 lf0 lf1 lf2
            have D8 := ((D7.set0 (.bool (qn (psum (d.B r).q (fun j => (d.W (r * C + j)).q) v j + (d.W G).q * v j)))).set1 (.slice aa na ca)).set2 (.slice ba ma da)
            have M8 : Marked w7 _ w2.heap.size := (((Marked.refl w7 _).setCell 0 (.bool (qn (psum (d.B r).q (fun j => (d.W (r * C + j)).q) v j + (d.W G).q * v j)))).setCell 1 (.slice aa na ca)).setCell 2 (.slice ba ma da)
            have R8 := (RP7.imp (p' := fun q => wo.heap.size ≤ q ∧ q ≠ w2.heap.size) (fun q _ h => by have := u6.size; have := D6.lt; omega)).marked M8 (fun h => h.2 rfl)
            have U8 := u7.trans (M8.since (B := wo.heap.size) z2)
            have S8 := s.trans (sinceMono U8 s.size)
            have z8 := M8.size
            have z7 := u7.size
            have zD := D7.lt
            refine hK.out _ _ ⟨(B.keep U8).c2, (B.keep U8).c1, (MW.keep S8).c0, (MW.keep S8).c1, (MW.keep S8).c2, (MX.keep S8).c0, (MX.keep S8).c1, (MX.keep S8).c2⟩ (fun hH9 => ?_)
            clear hK K hH9 h3
            refine wpAnyH_done (by kernel_rfl) ?_ _
            go_wp2
            go_roundw
            case rel =>
              go_light
              refine ⟨j + 1, by omega, by go_num, U8, by omega, aa, na, ca, ba, ma, da, ?_, ?_⟩
              · rw [HPS.out]; exact D8
              · rw [HPS.out]; exact R8
            case measure => simp [intOf]; omega
        · have e : j = C := by omega
          subst e
          have HPC := hide (EQ.out r)
          have l0 := D4.c0
          have l1 := D4.c1
          have l2 := D4.c2
          have O4 := O.keep u4
          rw [← HPC.out] at D4 T4 l0
          have gr : (Value.slice (some ⟨g, 0, none⟩) r cap).ownBlock = some g := rfl
          have R4 : RatRP wr (fun q => (Value.slice (some ⟨g, 0, none⟩) r cap).ownBlock ≠ some q) (.agg #[.bool (qn (qApply d v r)), .slice y1 y2 y3, .slice y4 y5 y6]) (qApply d v r) := T4.imp (fun q _ hq e => by simp [Value.ownBlock] at e; omega)
          go_wp2_with (at_builtin; refine wpList_append_own_at _ rfl _ _ 28 rfl (w.heap.size + 1) 70 i0 _ 3 56 Tryz.underlying28 hi hz0 hz1 hz2 rfl (by decide) _ r xs rfl (O4.own.alloc _) ⟨wr.heap.size, 0, none⟩ 1 1 [.bool (qn (qApply d v r)), .slice y1 y2 y3, .slice y4 y5 y6] rfl rfl (new3 _ _ _ _ _) (one3 _ _ _ _ _ _ _) (by unfold maxLen; omega) (by omega) (by simp; omega) ?_)
          intro v' w6 hown hgrow _ hat
          have hown' := hown
          obtain ⟨_, ⟨_, hbad⟩ | ⟨g', cap', cur, rfl, -⟩⟩ := hown'
          · omega
          have zz : (wr.alloc (.cells #[.bool (qn (qApply d v r)), .slice y1 y2 y3, .slice y4 y5 y6] 70)).heap.size = wr.heap.size + 1 := by simp
          have sW := (World.Since.refl wr.heap.size wr).alloc (Nat.le_refl _) (.cells #[.bool (qn (qApply d v r)), .slice y1 y2 y3, .slice y4 y5 y6] 70)
          have O6 := OutL.snoc (Q := qApply d v) O4 sW (by omega) hgrow hown (by rw [zz]; exact hat) R4
          have S6 : w.Since w.heap.size w6 := (S4.trans (sinceMono sW S4.size)).grown hgrow (by have := S4.size; omega) (fun q hq => by have := (O4.own.lt q hq).1; omega)
          have z6 := hgrow.size
          have zr := u4.size
          have B4 := B.keep u4
          have B6 : Box4 w6 w.heap.size _ _ _ _ := B4.ofBlock ((hgrow.block w.heap.size (by have := B4.lt; omega) (fun e => by have := (O4.own.lt _ e.symm).1; omega)).trans (sW.block _ B4.lt))
          clear l0 l1 l2 qc1
          go_wp2
          go_roundw
          case rel => exact ⟨r + 1, by omega, by go_num, S6, by omega, B6, g', cap', _, rfl, O6⟩
          case measure => simp [intOf]; omega
    · have e : r = R := by omega
      subst e
      obtain ⟨a, b, c, e, Q⟩ := O.qs
      simp only [Value.slice.injEq, true_and] at e
      obtain ⟨rfl, rfl⟩ := e
      go_wp2
      go_ret
      exact ⟨_, b, cap, rfl, Q, s⟩

end Go.Proofs.YtkhpggnnpfckdaaGreatDoor

namespace Go.Proofs.YtkhpggnnpfckdaaGreatDoor
open Go.RowKit

/-- What leaves map i - 1; the input for i = 0. -/
def qO (A : Nat → AffD) (x : Nat → Rat) : Nat → Nat → Rat
  | 0 => x
  | k + 1 => qLay A x k

def nO (A : Nat → AffD) (nx : Nat) : Nat → Nat
  | 0 => nx
  | k + 1 => (A k).rows.toNat

theorem net_qB {A : Nat → AffD} {n : Nat} (P : NetP n A) (l : ∀ k, k < n → (A k).lim) (hz : szA A n ≤ 1048576) {k : Nat} (hk : k < n) : ∀ i, i < (A k).nb → Qb ((A k).B i).q 1048577 := fun i hi => by
  obtain ⟨h1, h2⟩ := q_small ((P.vals k hk).2 i hi) ((l k hk).B i hi)
  have h3 := szR_at (R := (A k).B) hi
  have h4 := szA_at (A := A) hk
  unfold AffD.size at h4
  exact qb_of h1 h2 (by omega) (by omega)

set_option maxHeartbeats 6400000 in
set_option maxRecDepth 100000 in
theorem l3Before_any (a ax : Option Addr) (lo b off n cap bx ox nx cx : Nat) (A : Nat → AffD) (x : Nat → Rat) (w : World) (P : NetP n A) (H : Affs w lo a b off n A) (HX : RatQs w (fun _ => True) ax bx ox nx x) (hnx : nx = (A 0).cols.toNat)
    (RB : ∀ k, k < n → RowB (A k) (qIn A x k)) (QB : ∀ k, k < n → ∀ i, i < (A k).nb → Qb ((A k).B i).q 1048577) :
    Calls Tryz.prog 32 #[.agg #[.slice a n cap], .slice ax nx cx, .int .i64 ((n - 1 : Nat) : Int)] w fun e w' => ∃ a' b' o' cap', e = .returned (.slice a' (A (n - 1)).rows.toNat cap') ∧ RatQs w' (fun _ => True) a' b' o' (A (n - 1)).rows.toNat (qLay A x (n - 1)) ∧ w.Since w.heap.size w' := by
  have sA : w.Since w.heap.size (w.alloc (.cells #[.slice a n cap] 33)) := (World.Since.refl _ _).alloc (Nat.le_refl _) _
  have bA := Box1.new w (.slice a n cap) 33
  have n0 := P.n0
  have n1 := P.n1
  have NP := hide P
  have HRB := hide RB
  have HQB := hide QB
  have HNX := hide hnx
  clear P RB QB hnx
  go_enter Tryz.func32, Tryz.ntmps32
  go_wp2_with fail
  generalize w.alloc (.cells #[.slice a n cap] 33) = wA at *
  go_loopw [7, 8] (fun u i wr => ∃ k : Nat, k ≤ n ∧ i = .int .i64 k ∧ wA.Since wA.heap.size wr ∧ ∃ av bv ov nv cv, u = .slice av nv cv ∧ nv = nO A nx k ∧ RatQs wr (fun _ => True) av bv ov nv (qO A x k)) (fun _ i _ => n - (intOf i).toNat)
  case atStart => exact ⟨0, Nat.zero_le _, rfl, World.Since.refl _ _, ax, bx, ox, nx, cx, rfl, rfl, HX.keep sA⟩
  case round =>
    obtain ⟨k, hk, rfl, s, av, bv, ov, nv, cv, rfl, hnv, Q⟩ := hrel
    have S1 : w.Since w.heap.size wr := sA.trans (sinceMono s sA.size)
    by_cases hlt : k < n
    · have hz : (k : Int) ≤ ((n - 1 : Nat) : Int) := by omega
      have hz2 : (k : Int) < (n : Int) := by omega
      obtain ⟨rfl, a1, a2, k1, k2, M⟩ := H k hlt
      rcases Nat.eq_zero_or_pos k with h00 | hpos
      · subst h00
        have hg : ¬ (0 : Int) < ((0 : Nat) : Int) := by omega
        have M' := M.keep S1
        have g0 := M'.c0
        have g1 := M'.c1
        have g2 := M'.c2
        have g3 := M'.c3
        simp only [Nat.zero_mul, Nat.add_zero] at g0 g1 g2 g3
        have b0 := (bA.keep s).c0
        have HNV := hide (show nv = (A 0).cols.toNat by rw [hnv]; exact HNX.out)
        clear hnv
        go_wp2_with fail
        rw [HNV.out]
        refine (l3Apply_any (A 0) lo a1 a2 k1 k2 av bv ov cv x wr (NP.out.shape 0 (by omega)) (NP.out.vals 0 (by omega)) M'.L (by rw [← HNV.out]; exact Q) (HRB.out 0 (by omega)) (HQB.out 0 (by omega))).mono ?_
        rintro e w3 ⟨a4, b4, c4, rfl, Q4, s4⟩
        go_wp2
        go_roundw
        case rel => exact ⟨0 + 1, by omega, rfl, s.trans (sinceMono s4 s.size), a4, b4, 0, (A 0).rows.toNat, c4, rfl, rfl, Q4⟩
        case measure => simp [intOf]; omega
      · obtain ⟨p, rfl⟩ : ∃ p, k = p + 1 := ⟨k - 1, by omega⟩
        have hg : (0 : Int) < ((p + 1 : Nat) : Int) := by omega
        have hch := NP.out.chain (p + 1) hlt (by omega)
        rw [Nat.add_sub_cancel] at hch
        have HNV := hide (show nv = (A (p + 1)).cols.toNat by rw [hnv, hch]; rfl)
        have HNR := hide (show nv = (A p).rows.toNat from hnv)
        have hsh := (NP.out.shape p (by omega)).1
        have hnb : nv ≤ 20000 := by rw [hnv]; show (A p).rows.toNat ≤ 20000; have := hsh.2.1; omega
        clear hnv hch hsh
        have hqq : ∀ i, i < nv → Qb (qO A x (p + 1) i) 1048577 := fun i hi => by
          show Qb (qLay A x p i) 1048577
          rw [qLay_eq]
          exact (HRB.out p (by omega)).s i (by rw [← HNR.out]; exact hi) _ (Nat.le_refl _)
        have J1 := l3Relu_any av bv ov nv cv (qO A x (p + 1)) wr (by omega) Q hqq
        clear hqq
        go_wp2_with fail
        refine J1.mono ?_
        rintro e w2 ⟨a3, b3, c3, rfl, Q3, s3⟩
        have s2 := s.trans (sinceMono s3 s.size)
        have S2 : w.Since w.heap.size w2 := sA.trans (sinceMono s2 sA.size)
        have M' := M.keep S2
        have g0 := M'.c0
        have g1 := M'.c1
        have g2 := M'.c2
        have g3 := M'.c3
        have b0 := (bA.keep s2).c0
        clear J1
        go_wp2_with fail
        rw [HNV.out]
        refine (l3Apply_any (A (p + 1)) lo a1 a2 k1 k2 a3 b3 0 c3 (fun i => qrelu (qLay A x p i)) w2 (NP.out.shape (p + 1) hlt) (NP.out.vals (p + 1) hlt) M'.L (by rw [← HNV.out]; exact Q3) (HRB.out (p + 1) hlt) (HQB.out (p + 1) hlt)).mono ?_
        rintro e w3 ⟨a4, b4, c4, rfl, Q4, s4⟩
        go_wp2
        go_roundw
        case rel => exact ⟨p + 1 + 1, by omega, by go_num, s2.trans (sinceMono s4 s2.size), a4, b4, 0, (A (p + 1)).rows.toNat, c4, rfl, rfl, Q4⟩
        case measure => simp [intOf]; omega
    · have e : k = n := by omega
      obtain ⟨p, rfl⟩ : ∃ p, n = p + 1 := ⟨n - 1, by omega⟩
      subst e
      have hz : ¬ ((p + 1 : Nat) : Int) ≤ (p : Int) := by omega
      have HNR := hide (show nv = (A p).rows.toNat from hnv)
      clear hnv
      simp only [Nat.add_sub_cancel] at *
      go_wp2
      go_ret
      refine ⟨av, ⟨cv, ?_⟩, ⟨bv, ov, ?_⟩, S1⟩
      · show Ending.returned (.slice av nv cv) = _
        rw [HNR.out]
      · rw [← HNR.out]; exact Q

set_option maxHeartbeats 6400000 in
set_option maxRecDepth 100000 in
theorem specEvalNet_no (a ax : Option Addr) (lo b off n cap lox bx ox nx cx : Nat) (A : Nat → AffD) (X : Nat → RatD) (w : World) (hz : n + szA A n + (nx + szR X nx) ≤ 1048576) (H : Affs w lo a b off n A) (HX : Rats w lox ax bx ox nx X) (hno : ¬ EvP n A nx X) :
    Calls Tryz.prog 8 #[.agg #[.slice a n cap], .slice ax nx cx] w fun e w' => ∃ c, e = .returned (.tuple #[.slice (some c) 0 0, .bool false]) ∧ w.Since w.heap.size w' := by
  have sA : w.Since w.heap.size (w.alloc (.cells #[.slice a n cap] 33)) := (World.Since.refl _ _).alloc (Nat.le_refl _) _
  have bA := Box1.new w (.slice a n cap) 33
  go_enter Tryz.func8, Tryz.ntmps8
  go_wp2_with fail
  generalize w.alloc (.cells #[.slice a n cap] 33) = wA at *
  refine (specNetOk_any a lo b off n cap A wA (by omega) (by omega) (H.keep sA)).mono ?_
  rintro e w1 ⟨r1, rfl, i1, s1⟩
  have I1 := hide i1
  have S1 : w.Since w.heap.size w1 := sA.trans (sinceMono s1 sA.size)
  have B1 := bA.keep s1
  have b0 := B1.c0
  clear i1
  cases r1
  · go_wp2
    go_ret2
    exact ⟨_, rfl, S1.alloc S1.size _⟩
  have NP := hide (I1.out.1 (by simp))
  have n0 := NP.out.n0
  obtain ⟨rfl, a1, a2, k1, k2, M⟩ := H 0 (by omega)
  have g1 := (M.keep S1).c1
  have hz0 : (0 : Int) < (n : Int) := by omega
  simp only [Nat.zero_mul, Nat.add_zero] at g1
  by_cases hl : (nx : Int) = (A 0).cols
  rotate_left
  · have q : ((nx : Int) != (A 0).cols) = true := by simpa using hl
    clear hl I1
    go_wp2
    go_ret2
    exact ⟨_, rfl, S1.alloc S1.size _⟩
  have q : ((nx : Int) != (A 0).cols) = false := by simpa using hl
  have HL := hide hl
  have HN := hide hno
  clear hl I1 hno
  go_wp2_with fail
  refine (l1AllOk_any ax lox bx ox nx cx X w1 (by omega) (by omega) (HX.keep S1)).mono ?_
  rintro e w2 ⟨r2, rfl, i2, s2⟩
  have I2 := hide i2
  have S2 := S1.trans (sinceMono s2 S1.size)
  clear i2
  cases r2
  · go_wp2
    go_ret2
    exact ⟨_, rfl, S2.alloc S2.size _⟩
  exact absurd ⟨NP.out, HL.out, I2.out.1 (by simp)⟩ HN.out

set_option maxHeartbeats 6400000 in
set_option maxRecDepth 100000 in
theorem specEvalNet_ok (a ax : Option Addr) (lo b off n cap lox bx ox nx cx : Nat) (A : Nat → AffD) (X : Nat → RatD) (w : World) (hz : n + szA A n + (nx + szR X nx) ≤ 1048576) (H : Affs w lo a b off n A) (HX : Rats w lox ax bx ox nx X) (hev : EvP n A nx X) :
    Calls Tryz.prog 8 #[.agg #[.slice a n cap], .slice ax nx cx] w fun e w' => ∃ a' b' o' cap', e = .returned (.tuple #[.slice a' (A (n - 1)).rows.toNat cap', .bool true]) ∧ RatQs w' (fun _ => True) a' b' o' (A (n - 1)).rows.toNat (qLay A (fun i => (X i).q) (n - 1)) ∧ w.Since w.heap.size w' := by
  have sA : w.Since w.heap.size (w.alloc (.cells #[.slice a n cap] 33)) := (World.Since.refl _ _).alloc (Nat.le_refl _) _
  have bA := Box1.new w (.slice a n cap) 33
  obtain ⟨NP0, hl, hok⟩ := hev
  have NP := hide NP0
  have n0 := NP0.n0
  have lims := H.aff
  have hC0 : nx = (A 0).cols.toNat := by omega
  have RB : ∀ k, k < n → RowB (A k) (qIn A (fun i => (X i).q) k) := fun k hk => net_rowB NP0 lims (by rw [← hC0]; exact hok) (by rw [← hC0]; exact HX.lim) (by rw [← hC0]; omega) hk
  have HRB := hide RB
  have HQB := hide (fun k (hk : k < n) => net_qB NP0 lims (by omega) hk)
  have QX := (HX.qs hok).imp (p' := fun _ => True) (fun _ _ _ => trivial)
  have HC0 := hide hC0
  have HOK := hide hok
  have q : ((nx : Int) != (A 0).cols) = false := by simpa using hl
  clear hl hok RB NP0 hC0 lims
  go_enter Tryz.func8, Tryz.ntmps8
  go_wp2_with fail
  generalize w.alloc (.cells #[.slice a n cap] 33) = wA at *
  refine (specNetOk_any a lo b off n cap A wA (by omega) (by omega) (H.keep sA)).mono ?_
  rintro e w1 ⟨r1, rfl, i1, s1⟩
  obtain rfl : r1 = true := i1.2 NP.out
  have S1 : w.Since w.heap.size w1 := sA.trans (sinceMono s1 sA.size)
  have B1 := bA.keep s1
  have b0 := B1.c0
  clear i1 bA
  obtain ⟨rfl, a1, a2, k1, k2, M⟩ := H 0 (by omega)
  have g1 := (M.keep S1).c1
  have hz0 : (0 : Int) < (n : Int) := by omega
  simp only [Nat.zero_mul, Nat.add_zero] at g1
  go_wp2_with fail
  refine (l1AllOk_any ax lox bx ox nx cx X w1 (by omega) (by omega) (HX.keep S1)).mono ?_
  rintro e w2 ⟨r2, rfl, i2, s2⟩
  obtain rfl : r2 = true := i2.2 HOK.out
  have S2 : w.Since w.heap.size w2 := S1.trans (sinceMono s2 S1.size)
  have b0' := (B1.keep s2).c0
  have hn1 : (n : Int) - 1 = ((n - 1 : Nat) : Int) := by omega
  clear i2 b0 g1 q
  go_wp2_with fail
  refine (l3Before_any _ ax lo b off n cap bx ox nx cx A (fun i => (X i).q) w2 NP.out (H.keep S2) (QX.keep S2) HC0.out HRB.out HQB.out).mono ?_
  rintro e w3 ⟨a', b', o', cap', rfl, Q, s3⟩
  go_wp2
  go_ret2
  exact ⟨a', b', o', cap', rfl, Q, S2.trans (sinceMono s3 S2.size)⟩

end Go.Proofs.YtkhpggnnpfckdaaGreatDoor

namespace Go.Proofs.YtkhpggnnpfckdaaGreatDoor
open Go.RowKit

/-- eqRat at two values of the same rational. -/
theorem eqRat_q {v v' : Value} {q : Rat} {k : Nat} {w : World} (hq : Qb q k) (hk : k ≤ 4194304) (R : RatR w v q) (R' : RatR w v' q) :
    Calls Tryz.prog 40 #[v, v'] w fun e w' => e = .returned (.bool true) ∧ w.Since w.heap.size w' := by
  obtain ⟨a, n, ca, b, m, cb, ba, oa, bb, ob, X, Y, rfl, R, x1, x2⟩ := R
  obtain ⟨a', n', ca', b', m', cb', ba', oa', bb', ob', X', Y', rfl, R', y1, y2⟩ := R'
  have n1 := lv_lim R.pX (by rw [x1]; exact hq.1)
  have n2 := lv_lim R.pY (by rw [x2]; exact hq.2)
  obtain ⟨rfl, eX⟩ := lv_inj R'.lX R.lX R'.pX R.pX (y1.trans x1.symm)
  obtain ⟨rfl, eY⟩ := lv_inj R'.lY R.lY R'.pY R.pY (y2.trans x2.symm)
  exact eqRat_true (qn q) a a' b b' ba oa ba' oa' _ ca ca' bb ob bb' ob' _ cb cb' X Y w (by omega) (by omega) R.LX (R'.LX.congr eX) R.LY (R'.LY.congr eY)

set_option maxHeartbeats 3200000 in
set_option maxRecDepth 100000 in
/-- eqRatS at two lists of the same rationals. -/
theorem eqRatS_q (a a' : Option Addr) (b off cap b' off' cap' n : Nat) (Q : Nat → Rat) (w : World) (hn : n ≤ 1048576) (hq : ∀ i, i < n → Qb (Q i) 1048577) (H : RatQs w (fun _ => True) a b off n Q) (H' : RatQs w (fun _ => True) a' b' off' n Q) :
    Calls Tryz.prog 12 #[.slice a n cap, .slice a' n cap'] w fun e w' => e = .returned (.bool true) ∧ w.Since w.heap.size w' := by
  go_enter Tryz.func12, Tryz.ntmps12
  go_wp2
  go_loopw [5] (fun i wr => ∃ k : Nat, k ≤ n ∧ i = .int .i64 k ∧ w.Since w.heap.size wr) (fun i _ => n - (intOf i).toNat)
  case atStart => exact ⟨0, Nat.zero_le _, rfl, World.Since.refl _ _⟩
  case round =>
    obtain ⟨k, hk, rfl, s⟩ := hrel
    by_cases hlt : k < n
    · obtain ⟨rfl, x, y, M⟩ := H k hlt
      obtain ⟨rfl, x', y', M'⟩ := H' k hlt
      have R1 := M.R.read
      have R2 := M'.R.read
      obtain ⟨a5, n5, c5, b5, m5, d5, -, -, -, -, -, -, e5, -⟩ := M.R
      obtain ⟨a6, n6, c6, b6, m6, d6, -, -, -, -, -, -, e6, -⟩ := M'.R
      simp only [Value.agg.injEq, Array.mk.injEq, List.cons.injEq, and_true, true_and] at e5 e6
      obtain ⟨rfl, rfl⟩ := e5
      obtain ⟨rfl, rfl⟩ := e6
      have dr : wr.Since wr.heap.size wr.drew := (World.Since.refl _ _).drew
      have sd : w.Since w.heap.size wr.drew := s.trans (sinceMono dr s.size)
      have g0 := (M.keep s).c0
      have g1 := (M.keep s).c1
      have g2 := (M.keep s).c2
      have g0' := (M'.keep s).c0
      have g1' := (M'.keep s).c1
      have g2' := (M'.keep s).c2
      have hz : (k : Int) < (n : Int) := by omega
      have J1 := eqRat_q (hq k hlt) (by omega) (R1.keep sd) (R2.keep sd)
      go_wp2_with fail
      go_region_held3 (fun w' => w'.cell? ⟨b, off + k * 3, none⟩ = some (.bool (qn (Q k))) ∧ w'.cell? ⟨b, off + k * 3 + 1, none⟩ = some (.slice a5 n5 c5) ∧ w'.cell? ⟨b, off + k * 3 + 2, none⟩ = some (.slice b5 m5 d5) ∧ w'.cell? ⟨b', off' + k * 3, none⟩ = some (.bool (qn (Q k))) ∧ w'.cell? ⟨b', off' + k * 3 + 1, none⟩ = some (.slice a6 n6 c6) ∧ w'.cell? ⟨b', off' + k * 3 + 2, none⟩ = some (.slice b6 m6 d6)) (go_keep)
        (first
          | (go_at_call 40
             with_reducible refine J1.mono ?_
             rintro e w1 ⟨rfl, s1⟩
             have S1 : w.Since w.heap.size w1 := sd.trans (sinceMono s1 sd.size)
             have i0 := (M.keep S1).c0
             have i1 := (M.keep S1).c1
             have i2 := (M.keep S1).c2
             have i0' := (M'.keep S1).c0
             have i1' := (M'.keep S1).c1
             have i2' := (M'.keep S1).c2))
      all_goals go_wp2
      all_goals go_roundw
      case rel => exact ⟨k + 1, by omega, by go_num, S1⟩
      case measure => simp [intOf]; omega
    · go_wp2
      go_ret
      exact ⟨rfl, s⟩

theorem RatOs.qs {w : World} {b n : Nat} {Q : Nat → Rat} {E : Nat → Nat} (T : RatOs w b n Q E) : RatQs w (fun _ => True) (some ⟨b, 0, none⟩) b 0 n Q := fun i hi => by
  obtain ⟨g, h, a1, n1, k1, a2, n2, k2, X, Y, r⟩ := T.at_ i hi
  refine ⟨rfl, .slice a1 n1 k1, .slice a2 n2 k2, by rw [Nat.zero_add]; exact r.c0, by rw [Nat.zero_add]; exact r.c1, by rw [Nat.zero_add]; exact r.c2, ?_⟩
  exact ⟨a1, n1, k1, a2, n2, k2, g, 0, h, 0, X, Y, rfl, r.R, r.v1, r.v2, fun _ => trivial, fun _ => trivial⟩

set_option maxHeartbeats 800000 in
set_option maxRecDepth 100000 in
/-- markUint32S, the marks taken modulo 2^32. -/
theorem markU_any (a : Option Addr) (b n cap : Nat) (X : Nat → Nat) (k0 : Nat) (w : World) (hn : n ≤ 4194304) (hk0 : k0 ≤ 1152921504606846976) (hX : Limbs w a b 0 n X) (hf : 0 < n → ∀ o, w.frozen? ⟨b, o, none⟩ = false) :
    Calls Tryz.prog 43 #[.slice a n cap, .int .i64 k0] w fun e w' => e = .returned (.int .i64 ((k0 + n : Nat) : Int)) ∧ Marked w w' b ∧ (n = 0 → w' = w) ∧ Limbs w' a b 0 n (fun j => (k0 + j) % 4294967296) := by
  go_enter Tryz.func43, Tryz.ntmps43
  go_wp2
  go_loopw [1, 5] (fun q i wr => ∃ k : Nat, k ≤ n ∧ i = .int .i64 k ∧ q = .int .i64 ((k0 + k : Nat) : Int) ∧ Marked w wr b ∧ (k = 0 → wr = w) ∧ Limbs wr a b 0 n (fun j => if j < k then (k0 + j) % 4294967296 else X j)) (fun _ i _ => n - (intOf i).toNat)
  case atStart => exact ⟨0, Nat.zero_le _, rfl, rfl, Marked.refl _ _, fun _ => rfl, fun j hj => by simpa using hX j hj⟩
  case round =>
    obtain ⟨k, hk, rfl, rfl, hs, hz, hr⟩ := hrel
    by_cases hlt : k < n
    · obtain ⟨rfl, hc⟩ := hr k hlt
      have g0 : wr.cell? ⟨b, k, none⟩ = some (.int .u32 ((X k : Nat) : Int)) := by simpa using hc
      have g1 : wr.frozen? ⟨b, k, none⟩ = false := by rw [hs.frozen]; exact hf (by omega) k
      have em : ((k0 + k : Nat) : Int) % 4294967296 = (((k0 + k) % 4294967296 : Nat) : Int) := by omega
      clear hc
      go_wp2
      go_roundw
      case rel =>
        refine ⟨k + 1, by omega, by go_num, by go_num, hs.setCell _ _, fun h0 => absurd h0 (by omega), fun j hj => ⟨rfl, ?_⟩⟩
        go_light
        by_cases e : j = k
        · subst e
          rw [Nat.zero_add, World.cell?_setCell_same _ _ _ g0]
          simp
        · rw [World.cell?_setCell_other _ _ _ _ (fun h => by have := congrArg Addr.off h; simp at this; omega)]
          have := (hr j hj).2
          simp only [this]
          by_cases e2 : j < k
          · rw [if_pos e2, if_pos (by omega)]
          · rw [if_neg e2, if_neg (by omega)]
      case measure => simp [intOf]; omega
    · have e : k = n := by omega
      subst e
      go_wp2
      go_ret
      exact ⟨rfl, hs, hz, fun j hj => by have := hr j hj; simpa [hj] using this⟩

set_option maxHeartbeats 800000 in
set_option maxRecDepth 100000 in
theorem heldU_any (a : Option Addr) (b off n cap : Nat) (k0 : Nat) (w : World) (hn : n ≤ 4194304) (hk0 : k0 ≤ 1152921504606846976) (hX : Limbs w a b off n (fun j => (k0 + j) % 4294967296)) :
    Calls Tryz.prog 44 #[.slice a n cap, .int .i64 k0] w fun e w' => e = .returned (.int .i64 ((k0 + n : Nat) : Int)) ∧ w' = w := by
  go_enter Tryz.func44, Tryz.ntmps44
  go_wp2
  go_loop [1, 5] (fun q i => ∃ k : Nat, k ≤ n ∧ i = .int .i64 k ∧ q = .int .i64 ((k0 + k : Nat) : Int)) (fun _ i => n - (intOf i).toNat)
  case atStart => exact ⟨0, Nat.zero_le _, rfl, rfl⟩
  case round =>
    obtain ⟨k, hk, rfl, rfl⟩ := hrel
    by_cases hlt : k < n
    · obtain ⟨rfl, hc⟩ := hX k hlt
      go_wp2
      go_round
      case rel => exact ⟨k + 1, by omega, by go_num, by go_num⟩
      case measure => simp [intOf]; omega
    · have e : k = n := by omega
      subst e
      go_wp2
      go_ret
      exact ⟨rfl, rfl⟩

end Go.Proofs.YtkhpggnnpfckdaaGreatDoor

namespace Go.Proofs.YtkhpggnnpfckdaaGreatDoor
open Go.RowKit

/-- What writes into the blocks of S leave. -/
structure Fra (w w' : World) (S : Nat → Prop) : Prop where
  os : w'.os = w.os
  tape : w'.tape = w.tape
  output : w'.output = w.output
  size : w'.heap.size = w.heap.size
  other : ∀ k, ¬ S k → w'.heap[k]? = w.heap[k]?
  frozen : ∀ b o, w'.frozen? ⟨b, o, none⟩ = w.frozen? ⟨b, o, none⟩

section
variable {w w' w'' : World} {S S' : Nat → Prop} {b n : Nat}
theorem Fra.refl (w : World) (S : Nat → Prop) : Fra w w S := ⟨rfl, rfl, rfl, rfl, fun _ _ => rfl, fun _ _ => rfl⟩
theorem Fra.mono (f : Fra w w' S) (h : ∀ k, S k → S' k) : Fra w w' S' := ⟨f.os, f.tape, f.output, f.size, fun k hk => f.other k (fun h0 => hk (h k h0)), f.frozen⟩
theorem Fra.trans (f : Fra w w' S) (g : Fra w' w'' S) : Fra w w'' S :=
  ⟨g.os.trans f.os, g.tape.trans f.tape, g.output.trans f.output, g.size.trans f.size, fun k hk => (g.other k hk).trans (f.other k hk), fun b o => (g.frozen b o).trans (f.frozen b o)⟩
theorem Marked.fr (M : Marked w w' b) : Fra w w' (fun k => k = b) :=
  ⟨M.os, M.tape, M.output, M.size, fun k hk => M.other k hk, fun c o => by
    by_cases e : c = b
    · subst e; exact M.frozen o
    · exact M.frozenO (a := ⟨c, o, none⟩) e⟩
theorem Marked.frN (M : Marked w w' b) (h : n = 0 → w' = w) : Fra w w' (fun k => 0 < n ∧ k = b) := by
  by_cases e : n = 0
  · rw [h e]; exact Fra.refl _ _
  · exact M.fr.mono (fun k hk => ⟨by omega, hk⟩)
theorem Fra.cell (f : Fra w w' S) {a : Addr} (h : ¬ S a.block) : w'.cell? a = w.cell? a := World.cell?_of_block (w := w) (f.other _ h)
theorem Fra.limbs {a : Option Addr} {off : Nat} {X : Nat → Nat} (f : Fra w w' S) (L : Limbs w a b off n X) (h : 0 < n → ¬ S b) : Limbs w' a b off n X :=
  fun j hj => ⟨(L j hj).1, by rw [f.cell (a := ⟨b, off + j, none⟩) (h (by omega))]; exact (L j hj).2⟩
end

/-- An entry of three cells whose two lists lie in memory of their own. -/
structure OwnE (w : World) (lo hi b off : Nat) (f : Bool) (g h : Nat) (a1 : Option Addr) (n1 k1 : Nat) (a2 : Option Addr) (n2 k2 : Nat) (X Y : Nat → Nat) : Prop where
  c0 : w.cell? ⟨b, off, none⟩ = some (.bool f)
  c1 : w.cell? ⟨b, off + 1, none⟩ = some (.slice a1 n1 k1)
  c2 : w.cell? ⟨b, off + 2, none⟩ = some (.slice a2 n2 k2)
  L1 : Limbs w a1 g 0 n1 X
  L2 : Limbs w a2 h 0 n2 Y
  s1 : n1 ≤ 4194304
  s2 : n2 ≤ 4194304
  lg : 0 < n1 → lo ≤ g ∧ g < hi ∧ ∀ o, w.frozen? ⟨g, o, none⟩ = false
  lh : 0 < n2 → lo ≤ h ∧ h < hi ∧ ∀ o, w.frozen? ⟨h, o, none⟩ = false
  ne : 0 < n1 → 0 < n2 → g ≠ h

theorem OwnE.frame {w w' : World} {S : Nat → Prop} {lo hi b off : Nat} {f : Bool} {g h : Nat} {a1 : Option Addr} {n1 k1 : Nat} {a2 : Option Addr} {n2 k2 : Nat} {X Y : Nat → Nat} (r : OwnE w lo hi b off f g h a1 n1 k1 a2 n2 k2 X Y) (F : Fra w w' S)
    (hS : ∀ k, lo ≤ k → k < hi → ¬ S k) (hc : ∀ o, off ≤ o → o < off + 3 → w'.cell? ⟨b, o, none⟩ = w.cell? ⟨b, o, none⟩) : OwnE w' lo hi b off f g h a1 n1 k1 a2 n2 k2 X Y :=
  ⟨by rw [hc _ (by omega) (by omega)]; exact r.c0, by rw [hc _ (by omega) (by omega)]; exact r.c1, by rw [hc _ (by omega) (by omega)]; exact r.c2,
    F.limbs r.L1 (fun h0 => hS g (r.lg h0).1 (r.lg h0).2.1), F.limbs r.L2 (fun h0 => hS h (r.lh h0).1 (r.lh h0).2.1), r.s1, r.s2,
    fun h0 => ⟨(r.lg h0).1, (r.lg h0).2.1, fun o => by rw [F.frozen]; exact (r.lg h0).2.2 o⟩, fun h0 => ⟨(r.lh h0).1, (r.lh h0).2.1, fun o => by rw [F.frozen]; exact (r.lh h0).2.2 o⟩, r.ne⟩

/-- A list of entries in memory of its own: entry i has the blocks from E i to E (i + 1). -/
def OwnFrom (w : World) (b k n : Nat) (E : Nat → Nat) : Prop := ∀ i, k ≤ i → i < n → ∃ f g h a1 n1 k1 a2 n2 k2 X Y, OwnE w (E i) (E (i + 1)) b (i * 3) f g h a1 n1 k1 a2 n2 k2 X Y

/-- The marks of a list: entry i is marked from K i on. -/
def MarkE (w : World) (b n : Nat) (E K : Nat → Nat) : Prop := ∀ i, i < n → ∃ g h a1 n1 k1 a2 n2 k2, OwnE w (E i) (E (i + 1)) b (i * 3) (decide (K i % 3 = 0)) g h a1 n1 k1 a2 n2 k2 (fun j => (K i + 1 + j) % 4294967296) (fun j => (K i + 1 + n1 + j) % 4294967296) ∧ K (i + 1) = K i + 1 + n1 + n2

theorem e_mono {E : Nat → Nat} {n : Nat} (h : ∀ i, i < n → E i ≤ E (i + 1)) {i j : Nat} (hij : i ≤ j) (hj : j ≤ n) : E i ≤ E j := by
  induction j with
  | zero => have : i = 0 := by omega
            subst this; exact Nat.le_refl _
  | succ j ih =>
    by_cases e : i = j + 1
    · subst e; exact Nat.le_refl _
    · exact Nat.le_trans (ih (by omega) (by omega)) (h j (by omega))

set_option maxHeartbeats 1600000 in
set_option maxRecDepth 100000 in
/-- markRatS writes into the list and its entries' memory alone. -/
theorem markRatS_any (a : Option Addr) (b n cap : Nat) (E : Nat → Nat) (k0 : Nat) (w : World) (hn : n ≤ 1048576) (hk0 : k0 ≤ 576460752303423488) (ha : 0 < n → a = some ⟨b, 0, none⟩) (hE : ∀ i, i < n → E i ≤ E (i + 1)) (hb : b < E 0) (hf : 0 < n → ∀ o, w.frozen? ⟨b, o, none⟩ = false) (H : OwnFrom w b 0 n E) :
    Calls Tryz.prog 15 #[.slice a n cap, .int .i64 k0] w fun e w' => ∃ K : Nat → Nat, K 0 = k0 ∧ K n ≤ k0 + n * 8388609 ∧ e = .returned (.int .i64 ((K n : Nat) : Int)) ∧ Fra w w' (fun k => 0 < n ∧ (k = b ∨ E 0 ≤ k ∧ k < E n)) ∧ MarkE w' b n E K := by
  go_enter Tryz.func15, Tryz.ntmps15
  go_wp2
  go_loopw [1, 5] (fun q i wr => ∃ (k : Nat) (K : Nat → Nat), k ≤ n ∧ i = .int .i64 k ∧ q = .int .i64 ((K k : Nat) : Int) ∧ K 0 = k0 ∧ K k ≤ k0 + k * 8388609 ∧ Fra w wr (fun k => 0 < n ∧ (k = b ∨ E 0 ≤ k ∧ k < E n)) ∧ MarkE wr b k E K ∧ OwnFrom wr b k n E) (fun _ i _ => n - (intOf i).toNat)
  case atStart => exact ⟨0, fun _ => k0, Nat.zero_le _, rfl, rfl, rfl, by simp, Fra.refl _ _, fun i hi => absurd hi (by omega), H⟩
  case round =>
    obtain ⟨k, K, hk, rfl, rfl, hK0, hK, hs, hm, ho⟩ := hrel
    by_cases hlt : k < n
    · obtain ⟨f, g, h, a1, n1, k1, a2, n2, k2, X, Y, r⟩ := ho k (Nat.le_refl _) hlt
      obtain rfl := ha (by omega)
      have g0 := r.c0
      have g1 := r.c1
      have g2 := r.c2
      have fz : wr.frozen? ⟨b, k * 3, none⟩ = false := by rw [hs.frozen]; exact hf (by omega) _
      have s1 := r.s1
      have s2 := r.s2
      have zK : K k ≤ 1125899906842624000 := by omega
      generalize hKk : K k = Kk at *
      go_wp2_with fail
      have b1 : b < E k := Nat.lt_of_lt_of_le hb (e_mono hE (Nat.zero_le _) hk)
      have M1 : Marked wr (wr.setCell ⟨b, k * 3, none⟩ (.bool ((Kk : Int) % 3 == 0))) b := (Marked.refl wr b).setCell _ _
      have d0 : (wr.setCell ⟨b, k * 3, none⟩ (.bool ((Kk : Int) % 3 == 0))).cell? ⟨b, k * 3, none⟩ = some (.bool (decide (Kk % 3 = 0))) := by
        rw [World.cell?_setCell_same _ _ _ g0]
        have : ((Kk : Int) % 3 == 0) = decide (Kk % 3 = 0) := by
          rw [Bool.eq_iff_iff, beq_iff_eq, decide_eq_true_iff]; omega
        rw [this]
      have d1 : ∀ o, o ≠ k * 3 → (wr.setCell ⟨b, k * 3, none⟩ (.bool ((Kk : Int) % 3 == 0))).cell? ⟨b, o, none⟩ = wr.cell? ⟨b, o, none⟩ := fun o ho =>
        World.cell?_setCell_other _ _ _ _ (fun h => by have := congrArg Addr.off h; simp at this; omega)
      generalize wr.setCell ⟨b, k * 3, none⟩ (.bool ((Kk : Int) % 3 == 0)) = w1 at *
      rw [show ((Kk : Int) + 1) = ((Kk + 1 : Nat) : Int) by omega]
      refine (markU_any a1 g n1 k1 X (Kk + 1) w1 s1 (by omega) (r.L1.marked M1 (fun h0 => by have := (r.lg h0).1; omega)) (fun h0 o => by rw [M1.fr.frozen]; exact (r.lg h0).2.2 o)).mono ?_
      rintro e w2 ⟨rfl, M2, z2, L2⟩
      have F2 := M2.frN z2
      have nb1 : ¬ (0 < n1 ∧ b = g) := fun h0 => by have := (r.lg h0.1).1; omega
      have nb2 : ¬ (0 < n2 ∧ b = h) := fun h0 => by have := (r.lh h0.1).1; omega
      have i2 : w2.cell? ⟨b, k * 3 + 2, none⟩ = some (.slice a2 n2 k2) := by rw [F2.cell (a := ⟨b, k * 3 + 2, none⟩) nb1, d1 _ (by omega)]; exact g2
      go_wp2_with fail
      have Y2 : Limbs w2 a2 h 0 n2 Y := F2.limbs (r.L2.marked M1 (fun h0 => by have := (r.lh h0).1; omega)) (fun h0 h1 => r.ne h1.1 h0 h1.2.symm)
      refine (markU_any a2 h n2 k2 Y (Kk + 1 + n1) w2 s2 (by omega) Y2 (fun h0 o => by rw [F2.frozen, M1.fr.frozen]; exact (r.lh h0).2.2 o)).mono ?_
      rintro e w3 ⟨rfl, M3, z3, L3⟩
      have F3 := M3.frN z3
      go_wp2
      go_roundw
      case rel =>
        have F : Fra wr w3 (fun c => c = b ∨ E k ≤ c ∧ c < E (k + 1)) :=
          ((M1.fr.mono (fun c h0 => .inl h0)).trans (F2.mono (fun c h0 => .inr (by have := r.lg h0.1; rw [h0.2]; exact ⟨this.1, this.2.1⟩)))).trans (F3.mono (fun c h0 => .inr (by have := r.lh h0.1; rw [h0.2]; exact ⟨this.1, this.2.1⟩)))
        have hcb : ∀ o, o ≠ k * 3 → w3.cell? ⟨b, o, none⟩ = wr.cell? ⟨b, o, none⟩ := fun o h0 => by
          rw [F3.cell (a := ⟨b, o, none⟩) nb2, F2.cell (a := ⟨b, o, none⟩) nb1, d1 o h0]
        refine ⟨k + 1, fun i => if i ≤ k then K i else Kk + 1 + n1 + n2, by omega, by go_num, ?_, ?_, ?_, hs.trans (F.mono ?_), fun i hi => ?_, fun i hi hi' => ?_⟩
        · simp only [show ¬ k + 1 ≤ k by omega, if_false]
          go_num
        · simpa using hK0
        · simp only [show ¬ k + 1 ≤ k by omega, if_false]; omega
        · intro c hc
          refine ⟨by omega, ?_⟩
          rcases hc with hc | hc
          · exact .inl hc
          · have := e_mono hE (Nat.zero_le k) hk
            have := e_mono hE (i := k + 1) (j := n) (by omega) (Nat.le_refl _)
            exact .inr ⟨by omega, by omega⟩
        · by_cases e : i = k
          · subst e
            simp only [Nat.le_refl, if_true, show ¬ i + 1 ≤ i by omega, if_false, hKk]
            refine ⟨g, h, a1, n1, k1, a2, n2, k2, ⟨?_, ?_, ?_, F3.limbs L2 (fun h0 h1 => r.ne h0 h1.1 h1.2), L3, s1, s2, fun h0 => ⟨(r.lg h0).1, (r.lg h0).2.1, fun o => by rw [F.frozen]; exact (r.lg h0).2.2 o⟩, fun h0 => ⟨(r.lh h0).1, (r.lh h0).2.1, fun o => by rw [F.frozen]; exact (r.lh h0).2.2 o⟩, r.ne⟩, rfl⟩
            · rw [F3.cell (a := ⟨b, i * 3, none⟩) nb2, F2.cell (a := ⟨b, i * 3, none⟩) nb1]; exact d0
            · rw [hcb _ (by omega)]; exact g1
            · rw [hcb _ (by omega)]; exact g2
          · have hi2 : i < k := by omega
            simp only [show i ≤ k by omega, show i + 1 ≤ k by omega, if_true]
            obtain ⟨g', h', a1', n1', k1', a2', n2', k2', r', e'⟩ := hm i hi2
            have := e_mono hE (Nat.zero_le i) (show i ≤ n by omega)
            have := e_mono hE (i := i + 1) (j := k) (by omega) hk
            exact ⟨g', h', a1', n1', k1', a2', n2', k2', r'.frame F (fun c h1 h2 h3 => by rcases h3 with h3 | h3 <;> omega) (fun o h1 h2 => hcb o (by omega)), e'⟩
        · obtain ⟨f', g', h', a1', n1', k1', a2', n2', k2', X', Y', r'⟩ := ho i (by omega) hi'
          have := e_mono hE (i := k + 1) (j := i) (by omega) (by omega)
          have := e_mono hE (Nat.zero_le i) (show i ≤ n by omega)
          exact ⟨f', g', h', a1', n1', k1', a2', n2', k2', X', Y', r'.frame F (fun c h1 h2 h3 => by rcases h3 with h3 | h3 <;> omega) (fun o h1 h2 => hcb o (by omega))⟩
      case measure => simp [intOf]; omega
    · have e : k = n := by omega
      subst e
      go_wp2
      go_ret
      exact ⟨K, hK0, hK, rfl, hs, hm⟩

set_option maxHeartbeats 1600000 in
set_option maxRecDepth 100000 in
/-- heldRatS at a list whose marks stand. -/
theorem heldRatS_any (a : Option Addr) (b n cap : Nat) (E K : Nat → Nat) (k0 : Nat) (w : World) (hn : n ≤ 1048576) (hk0 : k0 ≤ 576460752303423488) (ha : 0 < n → a = some ⟨b, 0, none⟩) (hK0 : K 0 = k0) (H : MarkE w b n E K) :
    Calls Tryz.prog 16 #[.slice a n cap, .int .i64 k0] w fun e w' => e = .returned (.int .i64 ((K n : Nat) : Int)) ∧ w' = w := by
  go_enter Tryz.func16, Tryz.ntmps16
  go_wp2
  go_loop [1, 5] (fun q i => ∃ k : Nat, k ≤ n ∧ i = .int .i64 k ∧ q = .int .i64 ((K k : Nat) : Int) ∧ K k ≤ k0 + k * 8388609) (fun _ i => n - (intOf i).toNat)
  case atStart => exact ⟨0, Nat.zero_le _, rfl, by rw [hK0], by omega⟩
  case round =>
    obtain ⟨k, hk, rfl, rfl, hK⟩ := hrel
    by_cases hlt : k < n
    · obtain ⟨g, h, a1, n1, k1, a2, n2, k2, r, eK⟩ := H k hlt
      obtain rfl := ha (by omega)
      have g0 := r.c0
      have g1 := r.c1
      have g2 := r.c2
      have s1 := r.s1
      have s2 := r.s2
      have L1 := r.L1
      have L2 := r.L2
      have zK : K k ≤ 1125899906842624000 := by omega
      clear r
      generalize hKk : K k = Kk at *
      have e3 : decide (Kk % 3 = 0) = ((Kk : Int) % 3 == 0) := by
        rw [Bool.eq_iff_iff, beq_iff_eq, decide_eq_true_iff]; omega
      rw [e3] at g0
      go_wp2_with fail
      rw [show ((Kk : Int) + 1) = ((Kk + 1 : Nat) : Int) by omega]
      refine (heldU_any a1 g 0 n1 k1 (Kk + 1) w s1 (by omega) L1).mono ?_
      rintro e w2 ⟨rfl, rfl⟩
      go_wp2_with fail
      refine (heldU_any a2 h 0 n2 k2 (Kk + 1 + n1) _ s2 (by omega) L2).mono ?_
      rintro e w3 ⟨rfl, rfl⟩
      go_wp2
      go_round
      case rel => exact ⟨k + 1, by omega, by go_num, by rw [eK]; go_num, by omega⟩
      case measure => simp [intOf]; omega
    · have e : k = n := by omega
      subst e
      go_wp2
      go_ret
      exact ⟨rfl, rfl⟩

/-- A list of rationals in memory of its own is a list of entries so. -/
theorem RatOs.own {w : World} {b n : Nat} {Q : Nat → Rat} {E : Nat → Nat} (T : RatOs w b n Q E) (hq : ∀ i, i < n → Qb (Q i) 4194304) : OwnFrom w b 0 n E := fun i _ hi => by
  obtain ⟨g, h, a1, n1, k1, a2, n2, k2, X, Y, r⟩ := T.at_ i hi
  have e1 := lv_lim r.R.pX (by rw [r.v1]; exact (hq i hi).1)
  have e2 := lv_lim r.R.pY (by rw [r.v2]; exact (hq i hi).2)
  exact ⟨_, g, h, a1, n1, k1, a2, n2, k2, X, Y, r.c0, r.c1, r.c2, r.R.LX, r.R.LY, by omega, by omega, r.lg, r.lh, r.ne⟩

end Go.Proofs.YtkhpggnnpfckdaaGreatDoor

namespace Go.Proofs.YtkhpggnnpfckdaaGreatDoor
open Go.RowKit

/-- A slice of ints. -/
def Ints (w : World) (a : Option Addr) (b off n : Nat) (X : Nat → Int) : Prop := ∀ j, j < n → a = some ⟨b, off, none⟩ ∧ w.cell? ⟨b, off + j, none⟩ = some (.int .i64 (X j))

section
variable {w w' : World} {a : Option Addr} {b off n c : Nat} {X : Nat → Int}
theorem Ints.lt (h : Ints w a b off n X) (hn : 0 < n) : b < w.heap.size := World.block_lt_of_cell? _ _ (h 0 hn).2
theorem Ints.keep (h : Ints w a b off n X) (s : w.Since w.heap.size w') : Ints w' a b off n X := fun j hj =>
  ⟨(h j hj).1, (s.cell (a := ⟨b, off + j, none⟩) (World.block_lt_of_cell? _ _ (h j hj).2)).trans (h j hj).2⟩
theorem Ints.frame {S : Nat → Prop} (h : Ints w a b off n X) (F : Fra w w' S) (hS : 0 < n → ¬ S b) : Ints w' a b off n X := fun j hj =>
  ⟨(h j hj).1, (F.cell (a := ⟨b, off + j, none⟩) (hS (by omega))).trans (h j hj).2⟩
end

set_option maxHeartbeats 1600000 in
set_option maxRecDepth 100000 in
/-- eqIntS at two lists of the same numbers. -/
theorem eqIntS_true (a a' : Option Addr) (b off cap b' off' cap' n : Nat) (X : Nat → Int) (w : World) (hn : n ≤ 1048576) (H : Ints w a b off n X) (H' : Ints w a' b' off' n X) :
    Calls Tryz.prog 21 #[.slice a n cap, .slice a' n cap'] w fun e w' => e = .returned (.bool true) ∧ w.Since w.heap.size w' := by
  go_enter Tryz.func21, Tryz.ntmps21
  go_wp2
  go_loopw [5] (fun i wr => ∃ k : Nat, k ≤ n ∧ i = .int .i64 k ∧ w.Since w.heap.size wr) (fun i _ => n - (intOf i).toNat)
  case atStart => exact ⟨0, Nat.zero_le _, rfl, World.Since.refl _ _⟩
  case round =>
    obtain ⟨k, hk, rfl, s⟩ := hrel
    by_cases hlt : k < n
    · obtain ⟨rfl, g0⟩ := (H.keep s) k hlt
      obtain ⟨rfl, g0'⟩ := (H'.keep s) k hlt
      have hz : (k : Int) < (n : Int) := by omega
      go_wp2
      go_region
      go_wp2
      go_roundw
      case rel => exact ⟨k + 1, by omega, by go_num, s.drew⟩
      case measure => simp [intOf]; omega
    · go_wp2
      go_ret
      exact ⟨rfl, s⟩

set_option maxHeartbeats 1600000 in
set_option maxRecDepth 100000 in
/-- markIntS writes k0, k0 + 1, .. -/
theorem markIntS_any (a : Option Addr) (b n cap : Nat) (X : Nat → Int) (w : World) (k0 : Nat) (hn : n ≤ 1048576) (hk : k0 ≤ 1048576) (H : Ints w a b 0 n X) (hf : 0 < n → ∀ o, w.frozen? ⟨b, o, none⟩ = false) :
    Calls Tryz.prog 24 #[.slice a n cap, .int .i64 k0] w fun e w' => e = .returned (.int .i64 ((k0 + n : Nat) : Int)) ∧ Ints w' a b 0 n (fun j => ((k0 + j : Nat) : Int)) ∧ Fra w w' (fun k => 0 < n ∧ k = b) := by
  go_enter Tryz.func24, Tryz.ntmps24
  go_wp2
  go_loopw [1, 5] (fun q i wr => ∃ k : Nat, k ≤ n ∧ i = .int .i64 k ∧ q = .int .i64 ((k0 + k : Nat) : Int) ∧ Fra w wr (fun k => 0 < n ∧ k = b) ∧ (∀ j, j < k → wr.cell? ⟨b, j, none⟩ = some (.int .i64 ((k0 + j : Nat) : Int))) ∧ ∀ j, k ≤ j → j < n → wr.cell? ⟨b, j, none⟩ = some (.int .i64 (X j))) (fun _ i _ => n - (intOf i).toNat)
  case atStart => exact ⟨0, Nat.zero_le _, rfl, rfl, Fra.refl _ _, fun j hj => absurd hj (by omega), fun j _ hj => by have := (H j hj).2; simpa using this⟩
  case round =>
    obtain ⟨k, hk, rfl, rfl, F, h1, h2⟩ := hrel
    by_cases hlt : k < n
    · obtain ⟨rfl, -⟩ := H k hlt
      have g0 := h2 k (Nat.le_refl _) hlt
      have f0 : wr.frozen? ⟨b, k, none⟩ = false := by rw [F.frozen]; exact hf (by omega) _
      have hz : (k : Int) < (n : Int) := by omega
      go_wp2
      go_roundw
      case rel =>
        go_light
        have M : Marked wr (wr.setCell ⟨b, k, none⟩ (.int .i64 ((k0 + k : Nat) : Int))) b := (Marked.refl wr b).setCell _ _
        refine ⟨k + 1, by omega, by go_num, by go_num, F.trans (M.fr.mono (fun x hx => ⟨by omega, hx⟩)), fun j hj => ?_, fun j hj hj' => ?_⟩
        · by_cases e : j = k
          · subst e; exact World.cell?_setCell_same _ _ _ g0
          · rw [cell_else _ _ e]; exact h1 j (by omega)
        · rw [cell_else _ _ (by omega)]; exact h2 j (by omega) hj'
      case measure => simp [intOf]; omega
    · have e : k = n := by omega
      subst e
      go_wp2
      go_ret
      exact ⟨rfl, fun j hj => ⟨(H j hj).1, by rw [Nat.zero_add]; exact h1 j hj⟩, F⟩

set_option maxHeartbeats 1600000 in
set_option maxRecDepth 100000 in
/-- heldIntS at marks. -/
theorem heldIntS_any (a : Option Addr) (b n cap : Nat) (w : World) (k0 : Nat) (hn : n ≤ 1048576) (hk : k0 ≤ 1048576) (H : Ints w a b 0 n (fun j => ((k0 + j : Nat) : Int))) :
    Calls Tryz.prog 25 #[.slice a n cap, .int .i64 k0] w fun e w' => e = .returned (.int .i64 ((k0 + n : Nat) : Int)) ∧ w.Since w.heap.size w' := by
  go_enter Tryz.func25, Tryz.ntmps25
  go_wp2
  go_loopw [1, 5] (fun q i wr => ∃ k : Nat, k ≤ n ∧ i = .int .i64 k ∧ q = .int .i64 ((k0 + k : Nat) : Int) ∧ w.Since w.heap.size wr) (fun _ i _ => n - (intOf i).toNat)
  case atStart => exact ⟨0, Nat.zero_le _, rfl, rfl, World.Since.refl _ _⟩
  case round =>
    obtain ⟨k, hk, rfl, rfl, s⟩ := hrel
    by_cases hlt : k < n
    · obtain ⟨rfl, g0⟩ := (H.keep s) k hlt
      rw [Nat.zero_add] at g0
      have hz : (k : Int) < (n : Int) := by omega
      go_wp2
      go_roundw
      case rel => exact ⟨k + 1, by omega, by go_num, by go_num, s⟩
      case measure => simp [intOf]; omega
    · have e : k = n := by omega
      subst e
      go_wp2
      go_ret
      exact ⟨rfl, s⟩

end Go.Proofs.YtkhpggnnpfckdaaGreatDoor

namespace Go.Proofs.YtkhpggnnpfckdaaGreatDoor
open Go.RowKit

/-- A bool comes back, true just if p. -/
def BoolRet (e : Ending) (p : Prop) : Prop := ∃ r : Bool, e = .returned (.bool r) ∧ (r = true ↔ p)

set_option maxHeartbeats 1600000 in
set_option maxRecDepth 100000 in
theorem sizeFits_any (z : Int) (u : Bool) (w : World) : Calls Tryz.prog 126 #[.int .i64 z, .bool u] w fun e w' => BoolRet e (SzOk z u) ∧ w.Since w.heap.size w' := by
  cases u
  · go_enter Tryz.func126, Tryz.ntmps126
    go_wp2
    go_ret
    exact ⟨⟨z == 0, rfl, by simp [SzOk]⟩, World.Since.refl _ _⟩
  · by_cases h : 1 ≤ z
    · by_cases h2 : z ≤ 1000
      · go_enter Tryz.func126, Tryz.ntmps126
        go_wp2
        go_ret
        exact ⟨⟨true, rfl, by simp [SzOk, h, h2]⟩, World.Since.refl _ _⟩
      · go_enter Tryz.func126, Tryz.ntmps126
        go_wp2
        go_ret
        exact ⟨⟨false, rfl, by unfold SzOk; simp; omega⟩, World.Since.refl _ _⟩
    · go_enter Tryz.func126, Tryz.ntmps126
      go_wp2
      go_ret
      exact ⟨⟨false, rfl, by unfold SzOk; simp; omega⟩, World.Since.refl _ _⟩

set_option maxHeartbeats 3200000 in
set_option maxRecDepth 100000 in
theorem fits_any (op : Int) (ub uk us : Bool) (nums : Int) (d : NodeD) (a1 : Option Addr) (lo k1 : Nat) (w : World) (hw : 0 < w.heap.size) (hT : Tab w) (hd : d.size ≤ 1048576) (H : NodL w lo d a1 k1) :
    Calls Tryz.prog 94 #[.agg #[.int .i64 op, .bool ub, .bool uk, .bool us, .int .i64 nums], .agg #[.int .i64 d.op, .int .i64 d.a, .int .i64 d.b, .int .i64 d.k, .int .i64 d.s, .slice a1 d.nv k1]] w fun e w' => BoolRet e (FitsP d ub uk us nums) ∧ w.Since w.heap.size w' := by
  have ts := hd
  unfold NodeD.size at ts
  obtain ⟨wA, eA⟩ : ∃ wA : World, wA = (w.alloc (.cells #[.int .i64 op, .bool ub, .bool uk, .bool us, .int .i64 nums] 142)).alloc (.cells #[.int .i64 d.op, .int .i64 d.a, .int .i64 d.b, .int .i64 d.k, .int .i64 d.s, .slice a1 d.nv k1] 84) := ⟨_, rfl⟩
  have sA : w.Since w.heap.size wA := by rw [eA]; exact ((World.Since.refl _ _).alloc (Nat.le_refl _) _).alloc (by simp) _
  have fA : Box5 wA w.heap.size (.int .i64 op) (.bool ub) (.bool uk) (.bool us) (.int .i64 nums) := by rw [eA]; exact (Box5.new w _ _ _ _ _ _).keep ((World.Since.refl _ _).alloc (Nat.le_refl _) _)
  have nA : Box6 wA (w.heap.size + 1) (.int .i64 d.op) (.int .i64 d.a) (.int .i64 d.b) (.int .i64 d.k) (.int .i64 d.s) (.slice a1 d.nv k1) := by
    rw [eA]
    have := Box6.new (w.alloc (.cells #[.int .i64 op, .bool ub, .bool uk, .bool us, .int .i64 nums] 142)) (.int .i64 d.op) (.int .i64 d.a) (.int .i64 d.b) (.int .i64 d.k) (.int .i64 d.s) (.slice a1 d.nv k1) 84
    simpa using this
  have EA := hide eA
  clear eA
  by_cases hx : ub = false ∧ d.b ≠ 0
  · obtain ⟨rfl, hb⟩ := hx
    go_enter Tryz.func94, Tryz.ntmps94
    go_wp2
    go_ret
    exact ⟨⟨false, rfl, by simp [FitsP, hb]⟩, by rw [← EA.out]; exact sA⟩
  have hU : ub = true ∨ (ub = false ∧ d.b = 0) := by
    cases ub
    · exact .inr ⟨rfl, by simpa using hx⟩
    · exact .inl rfl
  have hu : ub = false → d.b = 0 := by
    intro h
    rcases hU with e | e
    · rw [h] at e; cases e
    · exact e.2
  clear hx
  have HU := hide hu
  clear hu
  rcases hU with rfl | ⟨rfl, hb⟩
  · go_enter Tryz.func94, Tryz.ntmps94
    go_wp2_with fail
    rw [← EA.out]
    refine (sizeFits_any d.k uk wA).mono ?_
    rintro e w1 ⟨⟨r1, rfl, h1⟩, s1⟩
    have F1 := fA.keep s1
    have N1 := nA.keep s1
    have q3 := F1.c3
    have q4 := N1.c4
    clear EA
    cases r1
    · go_wp2
      go_ret
      exact ⟨⟨false, rfl, by simp only [Bool.false_eq_true, false_iff] at h1 ⊢; exact fun h => h1 h.2.1⟩, sA.trans (sinceMono s1 sA.size)⟩
    have Z1 := hide (h1.1 rfl)
    clear h1
    go_wp2_with fail
    refine (sizeFits_any d.s us w1).mono ?_
    rintro e w2 ⟨⟨r2, rfl, h2⟩, s2⟩
    have F2 := F1.keep s2
    have N2 := N1.keep s2
    have u2 := s1.trans (sinceMono s2 s1.size)
    have S2 := sA.trans (sinceMono u2 sA.size)
    clear q3 q4
    cases r2
    · go_wp2
      go_ret
      exact ⟨⟨false, rfl, by simp only [Bool.false_eq_true, false_iff] at h2 ⊢; exact fun h => h2 h.2.2.1⟩, S2⟩
    have Z2 := hide (h2.1 rfl)
    clear h2
    have p4 := F2.c4
    have p5 := N2.c5
    obtain ⟨bb, oo, -, LV⟩ := (H.keep S2).LV
    have J3 := allValid_any a1 lo bb oo d.nv k1 d.V w2 (Nat.lt_of_lt_of_le hw S2.size) (hT.stay hw S2) (by omega) (by omega) LV
    by_cases hn : nums = -1
    · subst hn
      go_wp2_with fail
      refine J3.mono ?_
      rintro e w3 ⟨r3, rfl, h3, s3⟩
      go_wp2
      go_ret
      exact ⟨⟨r3, rfl, h3.trans ⟨fun h => ⟨(fun h => by first | exact HU.out h | exact HU.out trivial), Z1.out, Z2.out, fun h => absurd rfl h, h⟩, fun h => h.2.2.2.2⟩⟩, S2.trans (sinceMono s3 S2.size)⟩
    by_cases hm : (d.nv : Int) = nums
    · subst hm
      go_wp2_with fail
      refine J3.mono ?_
      rintro e w3 ⟨r3, rfl, h3, s3⟩
      go_wp2
      go_ret
      exact ⟨⟨r3, rfl, h3.trans ⟨fun h => ⟨(fun h => by first | exact HU.out h | exact HU.out trivial), Z1.out, Z2.out, fun _ => rfl, h⟩, fun h => h.2.2.2.2⟩⟩, S2.trans (sinceMono s3 S2.size)⟩
    clear J3
    have n1 : (nums != -1) = true := by simp [hn]
    have n2 : ((d.nv : Int) != nums) = true := by simp [hm]
    go_wp2
    go_ret
    exact ⟨⟨false, rfl, by simp only [Bool.false_eq_true, false_iff]; exact fun h => hm (h.2.2.2.1 hn)⟩, S2⟩
  · have hb2 : (d.b != 0) = false := by simp [hb]
    clear hb
    go_enter Tryz.func94, Tryz.ntmps94
    go_wp2_with fail
    rw [← EA.out]
    refine (sizeFits_any d.k uk wA).mono ?_
    rintro e w1 ⟨⟨r1, rfl, h1⟩, s1⟩
    have F1 := fA.keep s1
    have N1 := nA.keep s1
    have q3 := F1.c3
    have q4 := N1.c4
    clear EA
    cases r1
    · go_wp2
      go_ret
      exact ⟨⟨false, rfl, by simp only [Bool.false_eq_true, false_iff] at h1 ⊢; exact fun h => h1 h.2.1⟩, sA.trans (sinceMono s1 sA.size)⟩
    have Z1 := hide (h1.1 rfl)
    clear h1
    go_wp2_with fail
    refine (sizeFits_any d.s us w1).mono ?_
    rintro e w2 ⟨⟨r2, rfl, h2⟩, s2⟩
    have F2 := F1.keep s2
    have N2 := N1.keep s2
    have u2 := s1.trans (sinceMono s2 s1.size)
    have S2 := sA.trans (sinceMono u2 sA.size)
    clear q3 q4
    cases r2
    · go_wp2
      go_ret
      exact ⟨⟨false, rfl, by simp only [Bool.false_eq_true, false_iff] at h2 ⊢; exact fun h => h2 h.2.2.1⟩, S2⟩
    have Z2 := hide (h2.1 rfl)
    clear h2
    have p4 := F2.c4
    have p5 := N2.c5
    obtain ⟨bb, oo, -, LV⟩ := (H.keep S2).LV
    have J3 := allValid_any a1 lo bb oo d.nv k1 d.V w2 (Nat.lt_of_lt_of_le hw S2.size) (hT.stay hw S2) (by omega) (by omega) LV
    by_cases hn : nums = -1
    · subst hn
      go_wp2_with fail
      refine J3.mono ?_
      rintro e w3 ⟨r3, rfl, h3, s3⟩
      go_wp2
      go_ret
      exact ⟨⟨r3, rfl, h3.trans ⟨fun h => ⟨(fun h => by first | exact HU.out h | exact HU.out trivial), Z1.out, Z2.out, fun h => absurd rfl h, h⟩, fun h => h.2.2.2.2⟩⟩, S2.trans (sinceMono s3 S2.size)⟩
    by_cases hm : (d.nv : Int) = nums
    · subst hm
      go_wp2_with fail
      refine J3.mono ?_
      rintro e w3 ⟨r3, rfl, h3, s3⟩
      go_wp2
      go_ret
      exact ⟨⟨r3, rfl, h3.trans ⟨fun h => ⟨(fun h => by first | exact HU.out h | exact HU.out trivial), Z1.out, Z2.out, fun _ => rfl, h⟩, fun h => h.2.2.2.2⟩⟩, S2.trans (sinceMono s3 S2.size)⟩
    clear J3
    have n1 : (nums != -1) = true := by simp [hn]
    have n2 : ((d.nv : Int) != nums) = true := by simp [hm]
    go_wp2
    go_ret
    exact ⟨⟨false, rfl, by simp only [Bool.false_eq_true, false_iff]; exact fun h => hm (h.2.2.2.1 hn)⟩, S2⟩

end Go.Proofs.YtkhpggnnpfckdaaGreatDoor

namespace Go.Proofs.YtkhpggnnpfckdaaGreatDoor
open Go.RowKit

def KnowsP (va vb : Int) (n : Nat) (ub : Bool) : Prop := 0 ≤ va ∧ va < n ∧ (ub = true → 0 ≤ vb ∧ vb < n)

set_option maxHeartbeats 3200000 in
set_option maxRecDepth 100000 in
theorem knows_any (op : Int) (ub uk us : Bool) (nums v0 va vb v3 v4 : Int) (a1 : Option Addr) (nv k1 n : Nat) (w : World) :
    Calls Tryz.prog 95 #[.agg #[.int .i64 op, .bool ub, .bool uk, .bool us, .int .i64 nums], .agg #[.int .i64 v0, .int .i64 va, .int .i64 vb, .int .i64 v3, .int .i64 v4, .slice a1 nv k1], .int .i64 n] w fun e w' => BoolRet e (KnowsP va vb n ub) ∧ w.Since w.heap.size w' := by
  have sA : w.Since w.heap.size ((w.alloc (.cells #[.int .i64 op, .bool ub, .bool uk, .bool us, .int .i64 nums] 142)).alloc (.cells #[.int .i64 v0, .int .i64 va, .int .i64 vb, .int .i64 v3, .int .i64 v4, .slice a1 nv k1] 84)) := ((World.Since.refl _ _).alloc (Nat.le_refl _) _).alloc (by simp) _
  by_cases h0 : va < 0
  · go_enter Tryz.func95, Tryz.ntmps95
    go_wp2
    go_ret
    exact ⟨⟨_, rfl, by unfold KnowsP; simp <;> omega⟩, sA⟩
  by_cases h1 : (n : Int) ≤ va
  · go_enter Tryz.func95, Tryz.ntmps95
    go_wp2
    go_ret
    exact ⟨⟨_, rfl, by unfold KnowsP; simp <;> omega⟩, sA⟩
  cases ub
  · go_enter Tryz.func95, Tryz.ntmps95
    go_wp2
    go_ret
    exact ⟨⟨_, rfl, by unfold KnowsP; simp <;> omega⟩, sA⟩
  · by_cases h2 : vb < 0
    · go_enter Tryz.func95, Tryz.ntmps95
      go_wp2
      go_ret
      exact ⟨⟨_, rfl, by unfold KnowsP; simp <;> omega⟩, sA⟩
    by_cases h3 : (n : Int) ≤ vb
    · go_enter Tryz.func95, Tryz.ntmps95
      go_wp2
      go_ret
      exact ⟨⟨_, rfl, by unfold KnowsP; simp <;> omega⟩, sA⟩
    go_enter Tryz.func95, Tryz.ntmps95
    go_wp2
    go_ret
    exact ⟨⟨_, rfl, by unfold KnowsP; simp <;> omega⟩, sA⟩

end Go.Proofs.YtkhpggnnpfckdaaGreatDoor

namespace Go.Proofs.YtkhpggnnpfckdaaGreatDoor
open Go.RowKit

/-- x lies from a to b. -/
def InP (x a b : Int) : Prop := a ≤ x ∧ x ≤ b

set_option maxHeartbeats 1600000 in
set_option maxRecDepth 100000 in
theorem l2In_any (x a b : Int) (w : World) : Calls Tryz.prog 46 #[.int .i64 x, .int .i64 a, .int .i64 b] w fun e w' => BoolRet e (InP x a b) ∧ w' = w := by
  by_cases h : a ≤ x
  · by_cases h2 : x ≤ b
    · go_enter Tryz.func46, Tryz.ntmps46
      go_wp2
      go_ret
      exact ⟨⟨_, rfl, by unfold InP; simp <;> omega⟩, rfl⟩
    · go_enter Tryz.func46, Tryz.ntmps46
      go_wp2
      go_ret
      exact ⟨⟨_, rfl, by unfold InP; simp <;> omega⟩, rfl⟩
  · go_enter Tryz.func46, Tryz.ntmps46
    go_wp2
    go_ret
    exact ⟨⟨_, rfl, by unfold InP; simp <;> omega⟩, rfl⟩

set_option maxHeartbeats 1600000 in
set_option maxRecDepth 100000 in
theorem l2UsesK_any (z : Int) (w : World) : Calls Tryz.prog 121 #[.int .i64 z] w fun e w' => BoolRet e (usesK z = true) ∧ w' = w := by
  by_cases h1 : z = 1
  · subst h1
    go_enter Tryz.func121, Tryz.ntmps121
    go_wp2
    go_ret
    exact ⟨⟨true, rfl, by decide⟩, rfl⟩
  by_cases h5 : z = 5
  · subst h5
    go_enter Tryz.func121, Tryz.ntmps121
    go_wp2
    go_ret
    exact ⟨⟨true, rfl, by decide⟩, rfl⟩
  go_enter Tryz.func121, Tryz.ntmps121
  go_wp2
  go_ret
  exact ⟨⟨_, rfl, by unfold usesK; simp <;> omega⟩, rfl⟩

set_option maxHeartbeats 1600000 in
set_option maxRecDepth 100000 in
theorem l2UsesS_any (z : Int) (w : World) : Calls Tryz.prog 122 #[.int .i64 z] w fun e w' => BoolRet e (usesS z = true) ∧ w' = w := by
  go_enter Tryz.func122, Tryz.ntmps122
  go_wp2
  go_ret
  exact ⟨⟨_, rfl, by unfold usesS; simp <;> omega⟩, rfl⟩

set_option maxHeartbeats 1600000 in
set_option maxRecDepth 100000 in
theorem l2UsesV_any (z : Int) (w : World) : Calls Tryz.prog 123 #[.int .i64 z] w fun e w' => BoolRet e (usesV z = true) ∧ w' = w := by
  by_cases h1 : z = 1
  · subst h1
    go_enter Tryz.func123, Tryz.ntmps123
    go_wp2
    go_ret
    exact ⟨⟨true, rfl, by decide⟩, rfl⟩
  by_cases h3 : z = 3
  · subst h3
    go_enter Tryz.func123, Tryz.ntmps123
    go_wp2
    go_ret
    exact ⟨⟨true, rfl, by decide⟩, rfl⟩
  by_cases h6 : z = 6
  · subst h6
    go_enter Tryz.func123, Tryz.ntmps123
    go_wp2
    go_ret
    exact ⟨⟨true, rfl, by decide⟩, rfl⟩
  go_enter Tryz.func123, Tryz.ntmps123
  go_wp2
  go_ret
  exact ⟨⟨_, rfl, by unfold usesV; simp <;> omega⟩, rfl⟩

set_option maxHeartbeats 1600000 in
set_option maxRecDepth 100000 in
theorem l2UsesB_any (z : Int) (w : World) : Calls Tryz.prog 83 #[.int .i64 z] w fun e w' => BoolRet e (usesB z = true) ∧ w' = w := by
  go_enter Tryz.func83, Tryz.ntmps83
  go_wp2
  go_ret
  exact ⟨⟨_, rfl, by unfold usesB; simp <;> omega⟩, rfl⟩

end Go.Proofs.YtkhpggnnpfckdaaGreatDoor

namespace Go.Proofs.YtkhpggnnpfckdaaGreatDoor
open Go.RowKit

theorem l2UsesK_eq (z : Int) (b : Bool) (w : World) (h : usesK z = b) : Calls Tryz.prog 121 #[.int .i64 z] w fun e w' => e = .returned (.bool b) ∧ w' = w := by
  refine (l2UsesK_any z w).mono ?_
  rintro e w' ⟨⟨r, rfl, hr⟩, rfl⟩
  refine ⟨?_, rfl⟩
  have : r = b := by
    cases r
    · cases b
      · rfl
      · exact absurd (hr.2 h) (by decide)
    · rw [← h]; exact (hr.1 rfl).symm
  rw [this]

theorem l2UsesS_eq (z : Int) (b : Bool) (w : World) (h : usesS z = b) : Calls Tryz.prog 122 #[.int .i64 z] w fun e w' => e = .returned (.bool b) ∧ w' = w := by
  refine (l2UsesS_any z w).mono ?_
  rintro e w' ⟨⟨r, rfl, hr⟩, rfl⟩
  refine ⟨?_, rfl⟩
  have : r = b := by
    cases r
    · cases b
      · rfl
      · exact absurd (hr.2 h) (by decide)
    · rw [← h]; exact (hr.1 rfl).symm
  rw [this]

theorem l2UsesV_eq (z : Int) (b : Bool) (w : World) (h : usesV z = b) : Calls Tryz.prog 123 #[.int .i64 z] w fun e w' => e = .returned (.bool b) ∧ w' = w := by
  refine (l2UsesV_any z w).mono ?_
  rintro e w' ⟨⟨r, rfl, hr⟩, rfl⟩
  refine ⟨?_, rfl⟩
  have : r = b := by
    cases r
    · cases b
      · rfl
      · exact absurd (hr.2 h) (by decide)
    · rw [← h]; exact (hr.1 rfl).symm
  rw [this]

theorem l2UsesB_eq (z : Int) (b : Bool) (w : World) (h : usesB z = b) : Calls Tryz.prog 83 #[.int .i64 z] w fun e w' => e = .returned (.bool b) ∧ w' = w := by
  refine (l2UsesB_any z w).mono ?_
  rintro e w' ⟨⟨r, rfl, hr⟩, rfl⟩
  refine ⟨?_, rfl⟩
  have : r = b := by
    cases r
    · cases b
      · rfl
      · exact absurd (hr.2 h) (by decide)
    · rw [← h]; exact (hr.1 rfl).symm
  rw [this]


set_option maxHeartbeats 6400000 in
set_option maxRecDepth 100000 in
theorem l2FormOk1 (v1 v2 v3 v4 : Int) (nv : Nat) (V : Nat → RatD) (a1 : Option Addr) (lo k1 : Nat) (w : World) (hd : (NodeD.mk 1 v1 v2 v3 v4 nv V).size ≤ 1048576) (H : NodL w lo (NodeD.mk 1 v1 v2 v3 v4 nv V) a1 k1) :
    Calls Tryz.prog 82 #[.agg #[.int .i64 1, .int .i64 v1, .int .i64 v2, .int .i64 v3, .int .i64 v4, .slice a1 nv k1]] w fun e w' => BoolRet e (NodeD.mk 1 v1 v2 v3 v4 nv V).Form ∧ w.Since w.heap.size w' := by
  have ts : nv + szR V nv ≤ 1048576 := hd
  have sA : w.Since w.heap.size (w.alloc (.cells #[.int .i64 1, .int .i64 v1, .int .i64 v2, .int .i64 v3, .int .i64 v4, .slice a1 nv k1] 84)) := (World.Since.refl _ _).alloc (Nat.le_refl _) _
  have nA := Box6.new w (.int .i64 1) (.int .i64 v1) (.int .i64 v2) (.int .i64 v3) (.int .i64 v4) (.slice a1 nv k1) 84
  obtain ⟨bV, oV, -, LV⟩ := (H.keep sA).LV
  go_enter Tryz.func82, Tryz.ntmps82
  go_wp2_with fail
  generalize w.alloc (.cells #[.int .i64 1, .int .i64 v1, .int .i64 v2, .int .i64 v3, .int .i64 v4, .slice a1 nv k1] 84) = wA at *
  refine (l2In_any 1 1 7 wA).mono ?_
  rintro e w1 ⟨⟨r, rfl, hr⟩, hw1⟩
  have hw2 := hw1.symm
  clear hw1
  subst hw2
  cases r
  · exfalso
    have := hr.2 (by unfold InP; omega)
    cases this
  clear hr
  have q0 := nA.c0
  have q1 := nA.c1
  have q2 := nA.c2
  have q3 := nA.c3
  have q4 := nA.c4
  have q5 := nA.c5
  have NN : wA.Since wA.heap.size wA.drew := (World.Since.refl _ _).drew
  have nD := nA.keep NN
  have p0 := nD.c0
  have p1 := nD.c1
  have p2 := nD.c2
  have p3 := nD.c3
  have p4 := nD.c4
  have p5 := nD.c5
  have SD := sA.trans (sinceMono NN sA.size)
  have JK := l2UsesK_eq 1 true wA.drew (by decide)
  have JS := l2UsesS_eq 1 false wA.drew (by decide)
  by_cases hk : v3 = 0
  · have kq : (v3 != 0) = false := by simp [hk]
    have NF := hide (show ¬ (NodeD.mk 1 v1 v2 v3 v4 nv V).Form from fun f => by have h := f.k; have h2 : 1 ≤ v3 ∧ v3 ≤ 1000 := h; omega)
    clear hk
    go_wp2_with fail
    refine wp_region_held_drew (S := fun w' => w'.cell? ⟨w.heap.size, 0, none⟩ = some (.int .i64 1) ∧ w'.cell? ⟨w.heap.size, 3, none⟩ = some (.int .i64 v3)) (by kernel_rfl) ⟨p0, p3⟩ (fun hHeld => ?_)
    refine take_at 0 (some 7) (.pointer (some ⟨w.heap.size, 0, none⟩)) rfl (by kernel_rfl) (by kernel_rfl) (by kernel_rfl) (by kernel_rfl) (fun _ _ _ h => h) (by kernel_rfl) (by assumption) ?_ ?_
    · intro w' hSw
      clear hSw
      kernel_rfl
    simp only [Act.put, List.setIfInBounds_toArray, List.set_cons_zero, List.set_cons_succ]
    refine take_at 1 (some 8) (.int .i64 1) rfl (by kernel_rfl) (by kernel_rfl) (by kernel_rfl) (by kernel_rfl) (fun _ _ _ h => h) (by kernel_rfl) (by assumption) ?_ ?_
    · intro w' hSw
      try dsimp only at hSw
      go_simp
    simp only [Act.put, List.setIfInBounds_toArray, List.set_cons_zero, List.set_cons_succ]
    refine take_at 3 (some 10) (.pointer (some ⟨w.heap.size, 3, none⟩)) rfl (by kernel_rfl) (by kernel_rfl) (by kernel_rfl) (by kernel_rfl) (fun _ _ _ h => h) (by kernel_rfl) (by assumption) ?_ ?_
    · intro w' hSw
      clear hSw
      kernel_rfl
    simp only [Act.put, List.setIfInBounds_toArray, List.set_cons_zero, List.set_cons_succ]
    refine take_at 4 (some 11) (.int .i64 v3) rfl (by kernel_rfl) (by kernel_rfl) (by kernel_rfl) (by kernel_rfl) (fun _ _ _ h => h) (by kernel_rfl) (by assumption) ?_ ?_
    · intro w' hSw
      try dsimp only at hSw
      go_simp
    simp only [Act.put, List.setIfInBounds_toArray, List.set_cons_zero, List.set_cons_succ]
    refine take_at 5 (some 12) (.bool false) rfl (by kernel_rfl) (by kernel_rfl) (by kernel_rfl) (by kernel_rfl) (fun _ _ _ h => h) (by kernel_rfl) (by assumption) ?_ ?_
    · intro w' hSw
      try dsimp only at hSw
      go_simp
    simp only [Act.put, List.setIfInBounds_toArray, List.set_cons_zero, List.set_cons_succ]
    refine wpAnyH_ready (rs := [2]) (by kernel_rfl) (by simp) ?_
    refine AllReadyH.cons rfl (fun K hK => ?_) AllReadyH.nil
    go_simp
    go_wp2_with (go_at_call 121; with_reducible refine JK.mono ?_; rintro e w2 ⟨rfl, rfl⟩)
    refine hK.out _ _ ⟨p0, p3⟩ (fun h1 => ?_)
    clear hK K hHeld
    refine take_at 6 (some 13) (.bool true) rfl (by kernel_rfl) (by kernel_rfl) (by kernel_rfl) (by kernel_rfl) (fun _ _ _ h => h) (by kernel_rfl) (by assumption) ?_ ?_
    · intro w' hSw
      clear hSw
      kernel_rfl
    simp only [Act.put, List.setIfInBounds_toArray, List.set_cons_zero, List.set_cons_succ]
    refine take_at 7 (some 14) (.bool true) rfl (by kernel_rfl) (by kernel_rfl) (by kernel_rfl) (by kernel_rfl) (fun _ _ _ h => h) (by kernel_rfl) (by assumption) ?_ ?_
    · intro w' hSw
      clear hSw
      kernel_rfl
    simp only [Act.put, List.setIfInBounds_toArray, List.set_cons_zero, List.set_cons_succ]
    refine skip_at 8 (some 15) rfl (by kernel_rfl) (by kernel_rfl) (by kernel_rfl) (by kernel_rfl) (fun _ _ _ h => h) (by kernel_rfl) (by assumption) ?_
    simp only [Act.put, List.setIfInBounds_toArray, List.set_cons_zero, List.set_cons_succ]
    refine skip_at 9 (some 16) rfl (by kernel_rfl) (by kernel_rfl) (by kernel_rfl) (by kernel_rfl) (fun _ _ _ h => h) (by kernel_rfl) (by assumption) ?_
    simp only [Act.put, List.setIfInBounds_toArray, List.set_cons_zero, List.set_cons_succ]
    refine skip_at 10 (some 17) rfl (by kernel_rfl) (by kernel_rfl) (by kernel_rfl) (by kernel_rfl) (fun _ _ _ h => h) (by kernel_rfl) (by assumption) ?_
    simp only [Act.put, List.setIfInBounds_toArray, List.set_cons_zero, List.set_cons_succ]
    refine skip_at 11 (some 18) rfl (by kernel_rfl) (by kernel_rfl) (by kernel_rfl) (by kernel_rfl) (fun _ _ _ h => h) (by kernel_rfl) (by assumption) ?_
    simp only [Act.put, List.setIfInBounds_toArray, List.set_cons_zero, List.set_cons_succ]
    refine skip_at 12 (some 19) rfl (by kernel_rfl) (by kernel_rfl) (by kernel_rfl) (by kernel_rfl) (fun _ _ _ h => h) (by kernel_rfl) (by assumption) ?_
    simp only [Act.put, List.setIfInBounds_toArray, List.set_cons_zero, List.set_cons_succ]
    refine skip_at 13 (some 20) rfl (by kernel_rfl) (by kernel_rfl) (by kernel_rfl) (by kernel_rfl) (fun _ _ _ h => h) (by kernel_rfl) (by assumption) ?_
    simp only [Act.put, List.setIfInBounds_toArray, List.set_cons_zero, List.set_cons_succ]
    refine skip_at 14 (some 21) rfl (by kernel_rfl) (by kernel_rfl) (by kernel_rfl) (by kernel_rfl) (fun _ _ _ h => h) (by kernel_rfl) (by assumption) ?_
    simp only [Act.put, List.setIfInBounds_toArray, List.set_cons_zero, List.set_cons_succ]
    refine take_at 15 (some 22) (.bool true) rfl (by kernel_rfl) (by kernel_rfl) (by kernel_rfl) (by kernel_rfl) (fun _ _ _ h => h) (by kernel_rfl) (by assumption) ?_ ?_
    · intro w' hSw
      clear hSw
      kernel_rfl
    simp only [Act.put, List.setIfInBounds_toArray, List.set_cons_zero, List.set_cons_succ]
    refine wpAnyH_done (by kernel_rfl) ?_ _
    go_wp2
    go_ret
    exact ⟨⟨false, rfl, by simp only [Bool.false_eq_true, false_iff]; exact NF.out⟩, SD⟩
  have kq : (v3 != 0) = true := by simp [hk]
  have HK0 := hide hk
  clear hk
  by_cases hs : v4 = 0
  case neg =>
    have sq : (v4 != 0) = true := by simp [hs]
    have NF := hide (show ¬ (NodeD.mk 1 v1 v2 v3 v4 nv V).Form from fun f => by have h := f.s; have h2 : v4 = 0 := h; omega)
    clear hs
    go_wp2_with fail
    go_region_held3 (fun w' => w'.cell? ⟨w.heap.size, 0, none⟩ = some (.int .i64 1) ∧ w'.cell? ⟨w.heap.size, 3, none⟩ = some (.int .i64 v3) ∧ w'.cell? ⟨w.heap.size, 4, none⟩ = some (.int .i64 v4)) (go_keep)
      (first
        | (go_at_call 121
           with_reducible refine JK.mono ?_
           rintro e w2 ⟨rfl, rfl⟩)
        | (go_at_call 122
           with_reducible refine JS.mono ?_
           rintro e w2 ⟨rfl, rfl⟩))
    go_wp2
    go_ret
    exact ⟨⟨false, rfl, by simp only [Bool.false_eq_true, false_iff]; exact NF.out⟩, SD⟩
  have sq : (v4 != 0) = false := by simp [hs]
  have HS0 := hide hs
  clear hs
  go_wp2_with fail
  go_region_held3 (fun w' => w'.cell? ⟨w.heap.size, 0, none⟩ = some (.int .i64 1) ∧ w'.cell? ⟨w.heap.size, 3, none⟩ = some (.int .i64 v3) ∧ w'.cell? ⟨w.heap.size, 4, none⟩ = some (.int .i64 v4)) (go_keep)
    (first
      | (go_at_call 121
         with_reducible refine JK.mono ?_
         rintro e w2 ⟨rfl, rfl⟩)
      | (go_at_call 122
         with_reducible refine JS.mono ?_
         rintro e w2 ⟨rfl, rfl⟩))
  clear q0 q1 q2 q3 q4 q5 JK JS
  go_wp2_with fail
  refine (l2In_any v3 0 1000 wA.drew).mono ?_
  rintro e w2 ⟨⟨r, rfl, hr⟩, rfl⟩
  cases r
  · have NF := hide (show ¬ (NodeD.mk 1 v1 v2 v3 v4 nv V).Form from fun f => by
      have h := f.k
      have h3 : InP v3 0 1000 := by unfold InP; have h2 : 1 ≤ v3 ∧ v3 ≤ 1000 := h; omega
      have := hr.2 h3
      cases this)
    clear hr
    go_wp2
    go_ret
    exact ⟨⟨false, rfl, by simp only [Bool.false_eq_true, false_iff]; exact NF.out⟩, SD⟩
  have IK := hide (hr.1 rfl)
  clear hr
  go_wp2_with fail
  refine (l2In_any v4 0 1000 wA.drew).mono ?_
  rintro e w2 ⟨⟨r, rfl, hr⟩, rfl⟩
  cases r
  · have NF := hide (show ¬ (NodeD.mk 1 v1 v2 v3 v4 nv V).Form from fun f => by
      have h := f.s
      have h3 : InP v4 0 1000 := by unfold InP; have h2 : v4 = 0 := h; omega
      have := hr.2 h3
      cases this)
    clear hr
    go_wp2
    go_ret
    exact ⟨⟨false, rfl, by simp only [Bool.false_eq_true, false_iff]; exact NF.out⟩, SD⟩
  have IS := hide (hr.1 rfl)
  clear hr
  have JB := l2UsesB_eq 1 false wA.drew (by decide)
  go_wp2_with fail
  refine JB.mono ?_
  rintro e w2 ⟨rfl, rfl⟩
  clear JB
  by_cases hb : v2 = 0
  case neg =>
    have bq : (v2 != 0) = true := by simp [hb]
    have NF := hide (show ¬ (NodeD.mk 1 v1 v2 v3 v4 nv V).Form from fun f => hb (f.b rfl))
    clear hb
    go_wp2
    go_ret
    exact ⟨⟨false, rfl, by simp only [Bool.false_eq_true, false_iff]; exact NF.out⟩, SD⟩
  have bq : (v2 != 0) = false := by simp [hb]
  have HB0 := hide hb
  clear hb
  have JV := l2UsesV_eq 1 true wA.drew (by decide)
  go_wp2_with fail
  refine JV.mono ?_
  rintro e w2 ⟨rfl, rfl⟩
  clear JV
  have JA := l1AllOk_any a1 lo bV oV nv k1 V wA.drew (by omega) (by omega) (LV.keep NN)
  go_wp2_with fail
  refine JA.mono ?_
  rintro e w3 ⟨r, rfl, hr, s3⟩
  have HR := hide hr
  clear hr
  go_wp2
  go_ret
  exact ⟨⟨r, rfl, HR.out.trans ⟨fun h => ⟨(show (1 : Int) ≤ 1 by decide), (show (1 : Int) ≤ 7 by decide), (show 1 ≤ v3 ∧ v3 ≤ 1000 by have h : 0 ≤ v3 ∧ v3 ≤ 1000 := IK.out; have := HK0.out; omega), HS0.out, fun _ => HB0.out, fun h => (by cases h), fun h => (by cases h), fun h => (by cases h), h⟩, fun f => f.ok⟩⟩, SD.trans (sinceMono s3 SD.size)⟩

end Go.Proofs.YtkhpggnnpfckdaaGreatDoor
