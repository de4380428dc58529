import Derived.Test.YthaomfabdghfjaaGreatOwnP11
import Derived.Test.YthaomfabdghfjaaGreatG1P3
import Derived.Maps.AppendAt
import Derived.Deep.AppendLies
import Derived.Test.YthaomfabdghfjaaGreatOwnP10
import Derived.Test.YthaomfabdghfjaaGreatOwnP5
namespace Go.Proofs.YthaomfabdghfjaaGreat
open Go.RowKit

theorem RatRP.blocks {w w' : World} {p : Nat → Prop} {v : Value} {q : Rat} (h : RatRP w p v q) (hb : ∀ g, g < w.heap.size → p g → w'.heap[g]? = w.heap[g]?) : RatRP w' p v q := by
  obtain ⟨a, n, ca, b, m, cb, ba, oa, bb, ob, X, Y, h1, R, h3, h4, h5, h6⟩ := h
  have LX : Limbs w' a ba oa n X := fun j hj => ⟨(R.LX j hj).1, (World.cell?_of_block (w := w) (a := ⟨ba, oa + j, none⟩) (hb ba (R.LX.lt (by omega)) (h5 (by omega)))).trans (R.LX j hj).2⟩
  have LY : Limbs w' b bb ob m Y := fun j hj => ⟨(R.LY j hj).1, (World.cell?_of_block (w := w) (a := ⟨bb, ob + j, none⟩) (hb bb (R.LY.lt (by omega)) (h6 (by omega)))).trans (R.LY j hj).2⟩
  exact ⟨a, n, ca, b, m, cb, ba, oa, bb, ob, X, Y, h1, ⟨R.nc, R.mc, R.ac, R.bc, LX, LY, R.lX, R.lY, R.pX, R.pY, R.m0⟩, h3, h4, h5, h6⟩

/-- A list of rationals that is grown by append. -/
structure OutL (w : World) (base : Nat) (v : Value) (k : Nat) (Q : Nat → Rat) (xs : List Value) : Prop where
  own : w.ownsRow base 70 3 v k xs
  at_ : ∀ i, i < k → ∃ x y, xs[i * 3]? = some (.bool (qn (Q i))) ∧ xs[i * 3 + 1]? = some x ∧ xs[i * 3 + 2]? = some y ∧ RatRP w (fun g => v.ownBlock ≠ some g) (.agg #[.bool (qn (Q i)), x, y]) (Q i)

theorem OutL.keep {w w' : World} {base k : Nat} {v : Value} {Q : Nat → Rat} {xs : List Value} (h : OutL w base v k Q xs) (s : w.Since w.heap.size w') : OutL w' base v k Q xs := by
  refine ⟨h.own.kept (row := none) ⟨s.os, s.tape, s.output, s.size, fun k hk _ => s.block k hk⟩ (Classical.em _), fun i hi => ?_⟩
  obtain ⟨x, y, h1, h2, h3, h4⟩ := h.at_ i hi
  exact ⟨x, y, h1, h2, h3, h4.keep s⟩

theorem OutL.snoc {w w1 w' : World} {base k : Nat} {v v' : Value} {Q : Nat → Rat} {xs : List Value} {x y : Value} (h : OutL w base v k Q xs) (s1 : w.Since w.heap.size w1) (hs : w.heap.size < w1.heap.size) (g : w1.grownBy w' v.ownBlock) (own : w'.ownsRow base 70 3 v' (k + 1) (xs ++ [.bool (qn (Q k)), x, y]))
    (hat : v'.ownBlock = v.ownBlock ∨ v'.ownBlock = some w1.heap.size) (R : RatRP w (fun g => v.ownBlock ≠ some g) (.agg #[.bool (qn (Q k)), x, y]) (Q k)) : OutL w' base v' (k + 1) Q (xs ++ [.bool (qn (Q k)), x, y]) := by
  have hl : xs.length = k * 3 := h.own.1
  have mv : ∀ {u : Value} {q : Rat}, RatRP w (fun g => v.ownBlock ≠ some g) u q → RatRP w' (fun g => v'.ownBlock ≠ some g) u q := fun {u q} r => by
    have r2 : RatRP w (fun g => v.ownBlock ≠ some g ∧ v'.ownBlock ≠ some g) u q := r.imp (fun j hj hp => ⟨hp, fun e => by
      rcases hat with h | h
      · exact hp (h.symm.trans e)
      · rw [e] at h; simp at h; omega⟩)
    have r3 : RatRP w' (fun g => v.ownBlock ≠ some g ∧ v'.ownBlock ≠ some g) u q := r2.blocks (fun j hj hp => (g.block j (by omega) (fun e => hp.1 e.symm)).trans (s1.block j hj))
    exact r3.imp (fun _ _ hp => hp.2)
  refine ⟨own, fun i hi => ?_⟩
  by_cases e : i = k
  · subst e
    refine ⟨x, y, ?_, ?_, ?_, mv R⟩
    · rw [List.getElem?_append_right (by omega), hl]; simp
    · rw [List.getElem?_append_right (by omega), hl]; simp
    · rw [List.getElem?_append_right (by omega), hl]; simp
  · obtain ⟨x', y', h1, h2, h3, h4⟩ := h.at_ i (by omega)
    exact ⟨x', y', by rw [List.getElem?_append_left (by omega)]; exact h1, by rw [List.getElem?_append_left (by omega)]; exact h2, by rw [List.getElem?_append_left (by omega)]; exact h3, mv h4⟩

theorem OutL.qs {w : World} {base k : Nat} {v : Value} {Q : Nat → Rat} {xs : List Value} (h : OutL w base v k Q xs) : ∃ a b cap, v = .slice a k cap ∧ RatQs w (fun _ => True) a b 0 k Q := by
  have hc := @World.ownsRow.cells _ _ _ _ _ _ _ h.own
  have h2 := h.own
  have hat := h.at_
  obtain ⟨_, ⟨rfl, rfl⟩ | ⟨g, cap, cur, rfl, hg, hb, hn, _⟩⟩ := h2
  · exact ⟨none, 0, 0, rfl, fun i hi => absurd hi (by omega)⟩
  · refine ⟨_, g, cap, rfl, fun i hi => ⟨rfl, ?_⟩⟩
    obtain ⟨x, y, h1, h2, h3, h4⟩ := hat i hi
    have e1 := hc (g := g) rfl _ _ h1
    have e2 := hc (g := g) rfl _ _ h2
    have e3 := hc (g := g) rfl _ _ h3
    rw [Go.WideShapes.add_plain] at e1 e2 e3
    exact ⟨x, y, e1, by rw [Nat.add_assoc]; exact e2, by rw [Nat.add_assoc]; exact e3, h4.imp (fun _ _ _ => trivial)⟩

/-- The three cells of a new element. -/
theorem new3 (w : World) (x y z : Value) (t : TypeId) : ∀ j u, ([x, y, z] : List Value)[j]? = some u → (w.alloc (.cells #[x, y, z] t)).cell? ((⟨w.heap.size, 0, none⟩ : Addr).add j) = some u := fun j u hu => by
  rw [Go.WideShapes.add_plain, Nat.zero_add]
  rcases j with _ | _ | _ | j
  · simp at hu; subst hu; simp [go_sem]
  · simp at hu; subst hu; simp [go_sem]
  · simp at hu; subst hu; simp [go_sem]
  · simp at hu

theorem one3 (f : Bool) (a b : Option Addr) (n c m d : Nat) : ∀ u ∈ ([.bool f, .slice a n c, .slice b m d] : List Value), u.oneCell' = true := by
  intro u hu
  simp at hu
  rcases hu with rfl | rfl | rfl <;> rfl

theorem infoRat : ∃ i, Tryz.prog.info? 70 = some i ∧ i.zero = some (.agg #[.bool false, .slice none 0 0, .slice none 0 0]) ∧ i.size = 3 ∧ i.bytes = 56 := by
  obtain ⟨i, hi, h⟩ := Option.map_eq_some_iff.1 info_Rat
  simp only [Prod.mk.injEq] at h
  exact ⟨i, hi, h.1, h.2.1, h.2.2⟩

set_option maxHeartbeats 6400000 in
set_option maxRecDepth 100000 in
theorem l3Relu_any (ax : Option Addr) (bx ox n cx : Nat) (v : Nat → Rat) (w : World) (hn : n ≤ 1048576) (HX : RatQs w (fun _ => True) ax bx ox n v) (hq : ∀ i, i < n → Qb (v i) 1048577) :
    Calls Tryz.prog 66 #[.slice ax n cx] w fun e w' => ∃ a b cap, e = .returned (.slice a n cap) ∧ RatQs w' (fun _ => True) a b 0 n (fun i => qrelu (v i)) ∧ w.Since w.heap.size w' := by
  obtain ⟨i0, hi, hz0, hz1, hz2⟩ := infoRat
  have sA : w.Since w.heap.size (w.alloc (.cells #[] 70)) := (World.Since.refl _ _).alloc (Nat.le_refl _) _
  have oA : OutL (w.alloc (.cells #[] 70)) w.heap.size (.slice (some ⟨w.heap.size, 0, none⟩) 0 0) 0 (fun i => qrelu (v i)) [] := ⟨World.ownsRow_made w #[] 0 (Nat.le_refl _) (Nat.zero_le _) rfl, fun i hi => absurd hi (by omega)⟩
  go_enter Tryz.func66, Tryz.ntmps66
  go_wp2
  go_loopw [3, 4] (fun u i wr => ∃ k : Nat, k ≤ n ∧ i = .int .i64 k ∧ w.Since w.heap.size wr ∧ w.heap.size < wr.heap.size ∧ ∃ g cap xs, u = .slice (some ⟨g, 0, none⟩) k cap ∧ OutL wr w.heap.size (.slice (some ⟨g, 0, none⟩) k cap) k (fun i => qrelu (v i)) xs) (fun _ i _ => n - (intOf i).toNat)
  case atStart => exact ⟨0, Nat.zero_le _, rfl, sA, by simp, w.heap.size, 0, [], rfl, oA⟩
  case round =>
    obtain ⟨k, hk, rfl, s, hsz, g, cap, xs, rfl, O⟩ := hrel
    by_cases hlt : k < n
    · obtain ⟨rfl, x, y, M⟩ := HX k hlt
      have HR := M.R.read
      obtain ⟨a6, n6, c6, b6, m6, d6, -, -, -, -, -, -, e6, -⟩ := M.R
      simp only [Value.agg.injEq, Array.mk.injEq, List.cons.injEq, and_true, true_and] at e6
      obtain ⟨rfl, rfl⟩ := e6
      have M' := M.keep s
      have g0 := M'.c0
      have g1 := M'.c1
      have g2 := M'.c2
      have hz : (k : Int) < (n : Int) := by omega
      have bl := M.lt
      have dr : wr.Since wr.heap.size wr.drew := (World.Since.refl _ _).drew
      have S1 : w.Since w.heap.size wr.drew := s.trans (sinceMono dr s.size)
      have g0' := (M.keep S1).c0
      have g1' := (M.keep S1).c1
      have g2' := (M.keep S1).c2
      have J1 := l1Zero_any wr.drew
      have gl := O.own.lt g rfl
      go_wp2_with fail
      go_region_held3 (fun w' => w'.cell? ⟨bx, ox + k * 3, none⟩ = some (.bool (qn (v k))) ∧ w'.cell? ⟨bx, ox + k * 3 + 1, none⟩ = some (.slice a6 n6 c6) ∧ w'.cell? ⟨bx, ox + k * 3 + 2, none⟩ = some (.slice b6 m6 d6)) (go_keep)
        (first
          | (go_at_call 109
             with_reducible refine J1.mono ?_
             rintro e w4 ⟨u4, rfl, RV, s4⟩
             have RP : RatRP w4 (fun g => wr.drew.heap.size ≤ g) u4 (0 : Rat) := RatV.rp (q := 0) RV
             have RZ := RP.read
             obtain ⟨a7, n7, c7, b7, m7, d7, -, -, -, -, -, -, e7, -⟩ := RP
             subst e7
             have S4 : w.Since w.heap.size w4 := S1.trans (sinceMono s4 S1.size)
             have J2 := l1Max_relu (.slice a6 n6 c6) (.slice b6 m6 d6) (.slice a7 n7 c7) (.slice b7 m7 d7) (v k) w4 (hq k hlt) (HR.keep S4) RZ
             have j0 := (M.keep S4).c0
             have j1 := (M.keep S4).c1
             have j2 := (M.keep S4).c2)
          | (go_at_call 108
             with_reducible refine J2.mono ?_
             rintro e w5 ⟨u5, rfl, RP5, s5⟩
             have RQ5 := RP5
             obtain ⟨a8, n8, c8, b8, m8, d8, -, -, -, -, -, -, e8, -⟩ := RQ5
             subst e8
             have u45 : wr.Since wr.heap.size w5 := dr.trans (sinceMono (s4.trans (sinceMono s5 s4.size)) dr.size)
             have S5 : w.Since w.heap.size w5 := s.trans (sinceMono u45 s.size)
             have O5 := O.keep u45
             have z4 := s4.size
             have R5 : RatRP w5 (fun q => (Value.slice (some ⟨g, 0, none⟩) k cap).ownBlock ≠ some q) (.agg #[.bool (qn (qrelu (v k))), .slice a8 n8 c8, .slice b8 m8 d8]) (qrelu (v k)) := RP5.imp (fun q _ hq e => by simp [Value.ownBlock] at e; have := z4; have : wr.drew.heap.size = wr.heap.size := rfl; omega)
             have i0' := (M.keep S5).c0
             have i1' := (M.keep S5).c1
             have i2' := (M.keep S5).c2
             have zw5 := u45.size)
          | (refine step_append_lies _ rfl _ _ 28 rfl w.heap.size 70 i0 _ 3 56 Tryz.underlying28 hi hz0 hz1 hz2 rfl (by decide) _ k xs rfl (O5.own.alloc _) ⟨w5.heap.size, 0, none⟩ 1 1 [.bool (qn (qrelu (v k))), .slice a8 n8 c8, .slice b8 m8 d8] rfl rfl (new3 _ _ _ _ _) (one3 _ _ _ _ _ _ _) (by decide) (by unfold maxLen; omega) (by omega) (by simp; omega) (w5.heap.size + 1) (by simp) ?_
             intro g' cap' w6 hown hgrow hat hlt6
             have sW := (World.Since.refl w5.heap.size w5).alloc (Nat.le_refl _) (.cells #[.bool (qn (qrelu (v k))), .slice a8 n8 c8, .slice b8 m8 d8] 70)
             have hne : some bx ≠ (Value.slice (some ⟨g, 0, none⟩) k cap).ownBlock := fun e => by simp [Value.ownBlock] at e; omega
             have y0 := hgrow.cell ((sW.cell (a := ⟨bx, ox + k * 3, none⟩) (show bx < w5.heap.size by omega)).trans i0') hne
             have y1 := hgrow.cell ((sW.cell (a := ⟨bx, ox + k * 3 + 1, none⟩) (show bx < w5.heap.size by omega)).trans i1') hne
             have y2 := hgrow.cell ((sW.cell (a := ⟨bx, ox + k * 3 + 2, none⟩) (show bx < w5.heap.size by omega)).trans i2') hne))
      all_goals go_wp2
      all_goals go_roundw
      case rel =>
        have zz : (w5.alloc (.cells #[.bool (qn (qrelu (v k))), .slice a8 n8 c8, .slice b8 m8 d8] 70)).heap.size = w5.heap.size + 1 := by simp
        have hat' : (Value.slice (some ⟨g', 0, none⟩) (k + 1) cap').ownBlock = (Value.slice (some ⟨g, 0, none⟩) k cap).ownBlock ∨ (Value.slice (some ⟨g', 0, none⟩) (k + 1) cap').ownBlock = some (w5.alloc (.cells #[.bool (qn (qrelu (v k))), .slice a8 n8 c8, .slice b8 m8 d8] 70)).heap.size := by
          rcases hat with h | h
          · exact Or.inl h.symm
          · right; rw [zz, h]; rfl
        have O6 := OutL.snoc (Q := fun i => qrelu (v i)) O5 sW (by omega) hgrow hown hat' R5
        have S6 : w.Since w.heap.size w6 := (S5.trans (sinceMono sW S5.size)).grown hgrow (by omega) (fun q hq => (O5.own.lt q hq).1)
        have z6 := hgrow.size
        exact ⟨k + 1, by omega, by go_num, S6, by omega, g', cap', _, rfl, O6⟩
      case measure => simp [intOf]; omega
    · have e : k = n := by omega
      subst e
      obtain ⟨a, b, c, e, Q⟩ := O.qs
      simp only [Value.slice.injEq, true_and] at e
      obtain ⟨rfl, rfl⟩ := e
      go_wp2
      go_ret
      exact ⟨_, b, cap, rfl, Q, s⟩

end Go.Proofs.YthaomfabdghfjaaGreat

namespace Go.Proofs.YthaomfabdghfjaaGreat
open Go.RowKit

set_option maxHeartbeats 6400000 in
set_option maxRecDepth 100000 in
theorem l3Apply_any (d : AffD) (lo : Nat) (a1 a2 : Option Addr) (k1 k2 : Nat) (ax : Option Addr) (bx ox cx : Nat) (v : Nat → Rat) (w : World) (hd : d.shape) (hv : d.vals) (H : AffL w lo d a1 a2 k1 k2)
    (HX : RatQs w (fun _ => True) ax bx ox d.cols.toNat v) (hB : RowB d v) (hBq : ∀ i, i < d.nb → Qb (d.B i).q 1048577) :
    Calls Tryz.prog 67 #[.agg #[.int .i64 d.rows, .int .i64 d.cols, .slice a1 d.nw k1, .slice a2 d.nb k2], .slice ax d.cols.toNat cx] w fun e w' => ∃ a b cap, e = .returned (.slice a d.rows.toNat cap) ∧
      RatQs w' (fun _ => True) a b 0 d.rows.toNat (qApply d v) ∧ w.Since w.heap.size w' := by
  obtain ⟨i0, hi, hz0, hz1, hz2⟩ := infoRat
  obtain ⟨⟨hr0, hr1, hc0, hc1⟩, hnw, hnb⟩ := hd
  obtain ⟨R, hR⟩ : ∃ R, R = d.rows.toNat := ⟨_, rfl⟩
  obtain ⟨C, hC⟩ : ∃ C, C = d.cols.toNat := ⟨_, rfl⟩
  have eR : d.rows = (R : Int) := by omega
  have eC : d.cols = (C : Int) := by omega
  have hnw' : d.nw = R * C := by rw [eR, eC, ← Int.natCast_mul] at hnw; exact Int.ofNat_inj.1 hnw
  have hnb' : d.nb = R := by omega
  have QB := hide hB
  have EQ := hide (show ∀ r, qApply d v r = psum (d.B r).q (fun j => (d.W (r * C + j)).q) v C by intro r; rw [hC]; rfl)
  rw [← hC] at HX
  rw [← hR, ← hC, eR, eC]
  have HR := hide hR
  have HCc := hide hC
  obtain ⟨b1, o1, -, LW⟩ := H.LW
  obtain ⟨b2, o2, -, LB⟩ := H.LB
  have QW := LW.qs hv.1
  have QQ := LB.qs hv.2
  rw [hnw'] at QW
  rw [hnb'] at QQ hBq
  have hRb : R ≤ 20000 := by omega
  have hCb : C ≤ 20000 := by omega
  have hRC : R * C ≤ 20000 * 20000 := Nat.mul_le_mul hRb hCb
  have HNW := hide hnw'
  rw [hnb']
  clear hr0 hr1 hc0 hc1 hnw hnb hR hC hB hv eR eC H LW LB hnw' hnb'
  obtain ⟨wA, eA⟩ : ∃ wA : World, wA = (w.alloc (.cells #[.int .i64 R, .int .i64 C, .slice a1 d.nw k1, .slice a2 R k2] 66)).alloc (.cells #[] 70) := ⟨_, rfl⟩
  have sA : w.Since w.heap.size wA := by rw [eA]; exact ((World.Since.refl _ _).alloc (Nat.le_refl _) _).alloc (by simp) _
  have zA : wA.heap.size = w.heap.size + 1 + 1 := by rw [eA]; simp
  have bA : Box4 wA w.heap.size (.int .i64 R) (.int .i64 C) (.slice a1 d.nw k1) (.slice a2 R k2) := by rw [eA]; exact (Box4.new w _ _ _ _ _).keep ((World.Since.refl _ _).alloc (Nat.le_refl _) _)
  have oA : OutL wA (w.heap.size + 1) (.slice (some ⟨w.heap.size + 1, 0, none⟩) 0 0) 0 (qApply d v) [] := by
    rw [eA]
    have := World.ownsRow_made (base := w.heap.size + 1) (e := 70) (size := 3) (w.alloc (.cells #[.int .i64 R, .int .i64 C, .slice a1 d.nw k1, .slice a2 R k2] 66)) #[] 0 (by simp) (Nat.zero_le _) rfl
    rw [show (w.alloc (.cells #[.int .i64 R, .int .i64 C, .slice a1 d.nw k1, .slice a2 R k2] 66)).heap.size = w.heap.size + 1 by simp] at this
    exact ⟨this, fun i hi => absurd hi (by omega)⟩
  have EA := hide eA
  clear eA
  go_enter Tryz.func67, Tryz.ntmps67
  go_wp2_with fail
  rw [← EA.out]
  clear EA
  go_loopw [5, 6] (fun u i wr => ∃ k : Nat, k ≤ R ∧ i = .int .i64 k ∧ w.Since w.heap.size wr ∧ w.heap.size + 1 < wr.heap.size ∧ Box4 wr w.heap.size (.int .i64 R) (.int .i64 C) (.slice a1 d.nw k1) (.slice a2 R k2) ∧ ∃ g cap xs, u = .slice (some ⟨g, 0, none⟩) k cap ∧ OutL wr (w.heap.size + 1) (.slice (some ⟨g, 0, none⟩) k cap) k (qApply d v) xs) (fun _ i _ => R - (intOf i).toNat)
  case atStart => exact ⟨0, Nat.zero_le _, rfl, sA, by omega, bA, w.heap.size + 1, 0, [], rfl, oA⟩
  case round =>
    rename World => wo
    obtain ⟨r, hr, rfl, s, hsz, B, g, cap, xs, rfl, O⟩ := hrel
    have q0 := B.c0
    by_cases hlt : r < R
    · obtain ⟨rfl, xb, yb, MB⟩ := QQ r hlt
      have HRB := MB.R.read
      obtain ⟨a6, n6, c6, b6, m6, d6, -, -, -, -, -, -, e6, -⟩ := MB.R
      simp only [Value.agg.injEq, Array.mk.injEq, List.cons.injEq, and_true, true_and] at e6
      obtain ⟨rfl, rfl⟩ := e6
      have q3 := B.c3
      have g0 := (MB.keep s).c0
      have g1 := (MB.keep s).c1
      have g2 := (MB.keep s).c2
      have hz : (r : Int) < (R : Int) := by omega
      have qS : ∀ k, k ≤ C → Qb (psum (d.B r).q (fun j => (d.W (r * C + j)).q) v k) 1048577 := fun j hj => by have := QB.out.s r (by rw [← HR.out]; exact hlt) j (by rw [← HCc.out]; exact hj); rw [← HCc.out] at this; exact this
      have hrow : r * C + C ≤ R * C := by rw [← Nat.succ_mul]; exact Nat.mul_le_mul_right _ hlt
      have qW : ∀ j, j < C → Qb (d.W (r * C + j)).q 1048577 := fun j hj => QB.out.W _ (by rw [HNW.out]; omega)
      have qX : ∀ j, j < C → Qb (v j) 1048577 := fun j hj => QB.out.v j (by rw [← HCc.out]; exact hj)
      go_wp2_with fail
      refine (l1Copy_q (hBq r hlt) (by omega) (HRB.keep s)).mono ?_
      rintro e w2 ⟨u2, rfl, RP2, s2⟩
      have RQ2 := RP2
      obtain ⟨a7, n7, c7, b7, m7, d7, -, -, -, -, -, -, e7, -⟩ := RQ2
      subst e7
      have t3 : w2.Since w2.heap.size (w2.alloc (.cells #[.bool (qn (d.B r).q), .slice a7 n7 c7, .slice b7 m7 d7] 70)) := (World.Since.refl _ _).alloc (Nat.le_refl _) _
      have D3 := Box3.new w2 (.bool (qn (d.B r).q)) (.slice a7 n7 c7) (.slice b7 m7 d7) 70
      clear g0 g1 g2 q3 q0
      go_wp2_with fail
      have u3 : wo.Since wo.heap.size (w2.alloc (.cells #[.bool (qn (d.B r).q), .slice a7 n7 c7, .slice b7 m7 d7] 70)) := s2.trans (sinceMono t3 s2.size)
      have R3 : RatRP (w2.alloc (.cells #[.bool (qn (d.B r).q), .slice a7 n7 c7, .slice b7 m7 d7] 70)) (fun q => wo.heap.size ≤ q ∧ q ≠ w2.heap.size) (.agg #[.bool (qn (d.B r).q), .slice a7 n7 c7, .slice b7 m7 d7]) (d.B r).q := (RP2.imp (fun q hq h => ⟨h, by omega⟩)).keep t3
      have z2 := s2.size
      generalize w2.alloc (.cells #[.bool (qn (d.B r).q), .slice a7 n7 c7, .slice b7 m7 d7] 70) = w3 at *
      have gl := O.own.lt g rfl
      go_loopw [8] (fun i wi => ∃ j : Nat, j ≤ C ∧ i = .int .i64 j ∧ wo.Since wo.heap.size wi ∧ w2.heap.size < wi.heap.size ∧ ∃ a9 n9 c9 b9 m9 d9, Box3 wi w2.heap.size (.bool (qn (psum (d.B r).q (fun j => (d.W (r * C + j)).q) v j))) (.slice a9 n9 c9) (.slice b9 m9 d9) ∧
          RatRP wi (fun q => wo.heap.size ≤ q ∧ q ≠ w2.heap.size) (.agg #[.bool (qn (psum (d.B r).q (fun j => (d.W (r * C + j)).q) v j)), .slice a9 n9 c9, .slice b9 m9 d9]) (psum (d.B r).q (fun j => (d.W (r * C + j)).q) v j)) (fun i _ => C - (intOf i).toNat)
      case atStart => exact ⟨0, Nat.zero_le _, rfl, u3, D3.lt, a7, n7, c7, b7, m7, d7, D3, R3⟩
      case round =>
        obtain ⟨j, hjC, rfl, u4, z4, y1, y2, y3, y4, y5, y6, D4, T4⟩ := hrel
        have S4 : w.Since w.heap.size wr := s.trans (sinceMono u4 s.size)
        have qc1 := (B.keep u4).c1
        by_cases hj : j < C
        · obtain ⟨G, hG⟩ : ∃ G, G = r * C + j := ⟨_, rfl⟩
          obtain ⟨F, hF⟩ : ∃ F, F = r * C := ⟨_, rfl⟩
          have hGn : G < R * C := by omega
          obtain ⟨rfl, xw, yw, MW⟩ := QW G hGn
          obtain ⟨rfl, xv, yv, MX⟩ := HX j hj
          have RW := MW.R.read
          have RX := MX.R.read
          obtain ⟨aw, nw, cw, bw, mw, dw, -, -, -, -, -, -, ew, -⟩ := MW.R
          obtain ⟨av, nv, cv, bv, mv, dv, -, -, -, -, -, -, ev, -⟩ := MX.R
          simp only [Value.agg.injEq, Array.mk.injEq, List.cons.injEq, and_true, true_and] at ew ev
          obtain ⟨rfl, rfl⟩ := ew
          obtain ⟨rfl, rfl⟩ := ev
          have dr : wr.Since wr.heap.size wr.drew := (World.Since.refl _ _).drew
          have u5 : wo.Since wo.heap.size wr.drew := u4.trans (sinceMono dr u4.size)
          have S5 : w.Since w.heap.size wr.drew := s.trans (sinceMono u5 s.size)
          have D5 := D4.keep dr
          have T5 := T4.keep dr
          have qWj := qW j hj
          rw [← hG] at qWj
          have JM := l1Mul_q qWj (qX j hj) (by omega) (RW.keep S5) (RX.keep S5)
          have HPS := hide (show psum (d.B r).q (fun j => (d.W (r * C + j)).q) v (j + 1) = psum (d.B r).q (fun j => (d.W (r * C + j)).q) v j + (d.W G).q * v j by rw [hG]; rfl)
          have eF : (r : Int) * (C : Int) = (F : Int) := by rw [hF, Int.natCast_mul]
          have eG : (F : Int) + (j : Int) = (G : Int) := by omega
          have hF1 : (F : Int) ≤ 400000000 := by omega
          have hG1 : (G : Int) ≤ 400000000 := by omega
          have hG2 : (G : Int) < (d.nw : Int) := by rw [HNW.out]; omega
          have hj1 : (j : Int) < (C : Int) := by omega
          clear hG hF
          go_wp2_with fail
          -- REGION
          refine wp_region_held_drew (S := (fun w' => w'.cell? ⟨w.heap.size, 2, none⟩ = some (.slice (some ⟨b1, o1, none⟩) d.nw k1) ∧ w'.cell? ⟨w.heap.size, 1, none⟩ = some (.int .i64 C) ∧ w'.cell? ⟨b1, o1 + G * 3, none⟩ = some (.bool (qn (d.W G).q)) ∧ w'.cell? ⟨b1, o1 + G * 3 + 1, none⟩ = some (.slice aw nw cw) ∧ w'.cell? ⟨b1, o1 + G * 3 + 2, none⟩ = some (.slice bw mw dw) ∧ w'.cell? ⟨bx, ox + j * 3, none⟩ = some (.bool (qn (v j))) ∧ w'.cell? ⟨bx, ox + j * 3 + 1, none⟩ = some (.slice av nv cv) ∧ w'.cell? ⟨bx, ox + j * 3 + 2, none⟩ = some (.slice bv mv dv))) (by kernel_rfl) ⟨(B.keep u5).c2, (B.keep u5).c1, (MW.keep S5).c0, (MW.keep S5).c1, (MW.keep S5).c2, (MX.keep S5).c0, (MX.keep S5).c1, (MX.keep S5).c2⟩ (fun hHeld => ?_)
          refine take_at 1 (some 29) (.pointer (some ⟨w.heap.size, 2, none⟩)) rfl (by kernel_rfl) (by kernel_rfl) (by kernel_rfl) (by kernel_rfl) (fun _ _ _ h => h) (by kernel_rfl) (by assumption) ?_ ?_
          · intro w' hSw
            clear hSw
            kernel_rfl
          simp only [Act.put, List.setIfInBounds_toArray, List.set_cons_zero, List.set_cons_succ]
          refine take_at 2 (some 30) (.slice (some ⟨b1, o1, none⟩) d.nw k1) rfl (by kernel_rfl) (by kernel_rfl) (by kernel_rfl) (by kernel_rfl) (fun _ _ _ h => h) (by kernel_rfl) (by assumption) ?_ ?_
          · intro w' hSw
            try dsimp only at hSw
            go_simp
          simp only [Act.put, List.setIfInBounds_toArray, List.set_cons_zero, List.set_cons_succ]
          refine take_at 3 (some 31) (.int .i64 r) rfl (by kernel_rfl) (by kernel_rfl) (by kernel_rfl) (by kernel_rfl) (fun _ _ _ h => h) (by kernel_rfl) (by assumption) ?_ ?_
          · intro w' hSw
            clear hSw
            kernel_rfl
          simp only [Act.put, List.setIfInBounds_toArray, List.set_cons_zero, List.set_cons_succ]
          refine take_at 4 (some 32) (.pointer (some ⟨w.heap.size, 1, none⟩)) rfl (by kernel_rfl) (by kernel_rfl) (by kernel_rfl) (by kernel_rfl) (fun _ _ _ h => h) (by kernel_rfl) (by assumption) ?_ ?_
          · intro w' hSw
            clear hSw
            kernel_rfl
          simp only [Act.put, List.setIfInBounds_toArray, List.set_cons_zero, List.set_cons_succ]
          refine take_at 5 (some 33) (.int .i64 C) rfl (by kernel_rfl) (by kernel_rfl) (by kernel_rfl) (by kernel_rfl) (fun _ _ _ h => h) (by kernel_rfl) (by assumption) ?_ ?_
          · intro w' hSw
            try dsimp only at hSw
            go_simp
          simp only [Act.put, List.setIfInBounds_toArray, List.set_cons_zero, List.set_cons_succ]
          refine take_at 6 (some 34) (.int .i64 F) rfl (by kernel_rfl) (by kernel_rfl) (by kernel_rfl) (by kernel_rfl) (fun _ _ _ h => h) (by kernel_rfl) (by assumption) ?_ ?_
          · intro w' hSw
            try dsimp only at hSw
            go_simp
            rw [IntKind.wrap_i64]
            omega
          simp only [Act.put, List.setIfInBounds_toArray, List.set_cons_zero, List.set_cons_succ]
          refine take_at 7 (some 35) (.int .i64 j) rfl (by kernel_rfl) (by kernel_rfl) (by kernel_rfl) (by kernel_rfl) (fun _ _ _ h => h) (by kernel_rfl) (by assumption) ?_ ?_
          · intro w' hSw
            clear hSw
            kernel_rfl
          simp only [Act.put, List.setIfInBounds_toArray, List.set_cons_zero, List.set_cons_succ]
          refine take_at 8 (some 36) (.int .i64 G) rfl (by kernel_rfl) (by kernel_rfl) (by kernel_rfl) (by kernel_rfl) (fun _ _ _ h => h) (by kernel_rfl) (by assumption) ?_ ?_
          · intro w' hSw
            try dsimp only at hSw
            go_simp
            rw [IntKind.wrap_i64]
            omega
          simp only [Act.put, List.setIfInBounds_toArray, List.set_cons_zero, List.set_cons_succ]
          refine take_at 9 (some 37) (.pointer (some ⟨b1, o1 + G * 3, none⟩)) rfl (by kernel_rfl) (by kernel_rfl) (by kernel_rfl) (by kernel_rfl) (fun _ _ _ h => h) (by kernel_rfl) (by assumption) ?_ ?_
          · intro w' hSw
            try dsimp only at hSw
            go_simp
          simp only [Act.put, List.setIfInBounds_toArray, List.set_cons_zero, List.set_cons_succ]
          refine take_at 10 (some 38) (.agg #[.bool (qn (d.W G).q), .slice aw nw cw, .slice bw mw dw]) rfl (by kernel_rfl) (by kernel_rfl) (by kernel_rfl) (by kernel_rfl) (fun _ _ _ h => h) (by kernel_rfl) (by assumption) ?_ ?_
          · intro w' hSw
            try dsimp only at hSw
            go_simp
          simp only [Act.put, List.setIfInBounds_toArray, List.set_cons_zero, List.set_cons_succ]
          refine take_at 11 (some 39) (.slice (some ⟨bx, ox, none⟩) C cx) rfl (by kernel_rfl) (by kernel_rfl) (by kernel_rfl) (by kernel_rfl) (fun _ _ _ h => h) (by kernel_rfl) (by assumption) ?_ ?_
          · intro w' hSw
            clear hSw
            kernel_rfl
          simp only [Act.put, List.setIfInBounds_toArray, List.set_cons_zero, List.set_cons_succ]
          refine take_at 12 (some 40) (.int .i64 j) rfl (by kernel_rfl) (by kernel_rfl) (by kernel_rfl) (by kernel_rfl) (fun _ _ _ h => h) (by kernel_rfl) (by assumption) ?_ ?_
          · intro w' hSw
            clear hSw
            kernel_rfl
          simp only [Act.put, List.setIfInBounds_toArray, List.set_cons_zero, List.set_cons_succ]
          refine take_at 13 (some 41) (.pointer (some ⟨bx, ox + j * 3, none⟩)) rfl (by kernel_rfl) (by kernel_rfl) (by kernel_rfl) (by kernel_rfl) (fun _ _ _ h => h) (by kernel_rfl) (by assumption) ?_ ?_
          · intro w' hSw
            try dsimp only at hSw
            go_simp
          simp only [Act.put, List.setIfInBounds_toArray, List.set_cons_zero, List.set_cons_succ]
          refine take_at 14 (some 42) (.agg #[.bool (qn (v j)), .slice av nv cv, .slice bv mv dv]) rfl (by kernel_rfl) (by kernel_rfl) (by kernel_rfl) (by kernel_rfl) (fun _ _ _ h => h) (by kernel_rfl) (by assumption) ?_ ?_
          · intro w' hSw
            try dsimp only at hSw
            go_simp
          simp only [Act.put, List.setIfInBounds_toArray, List.set_cons_zero, List.set_cons_succ]
          refine wpAnyH_ready (rs := [0, 15]) (by kernel_rfl) (by simp) ?_
          refine AllReadyH.cons rfl (fun K hK => ?_) (AllReadyH.cons rfl (fun K hK => ?_) AllReadyH.nil)
          · have l0 := D5.c0
            have l1 := D5.c1
            have l2 := D5.c2
            go_simp
            clear l0 l1 l2
            refine hK.out _ _ ⟨(B.keep u5).c2, (B.keep u5).c1, (MW.keep S5).c0, (MW.keep S5).c1, (MW.keep S5).c2, (MX.keep S5).c0, (MX.keep S5).c1, (MX.keep S5).c2⟩ (fun h1 => ?_)
            clear hK K hHeld
            refine wpAnyH_ready (rs := [15]) (by kernel_rfl) (by simp) ?_
            refine AllReadyH.cons rfl (fun K hK => ?_) AllReadyH.nil
            go_simp
            go_wp2_with (go_at_call 111; with_reducible refine JM.mono ?_; rintro e w6 ⟨u6, rfl, RP6, s6⟩)
            have RQ6 := RP6
            obtain ⟨a9, n9, c9, b9, m9, d9, -, -, -, -, -, -, e9, -⟩ := RQ6
            subst e9
            have u6 : wo.Since wo.heap.size w6 := u5.trans (sinceMono s6 u5.size)
            have S6 : w.Since w.heap.size w6 := s.trans (sinceMono u6 s.size)
            have D6 := D5.keep s6
            have T6 := T5.keep s6
            have JA := l1Add_rp (qS j (by omega)) (qWj.mul (qX j hj)) (by omega) T6.read RP6.read
            refine hK.out _ _ ⟨(B.keep u6).c2, (B.keep u6).c1, (MW.keep S6).c0, (MW.keep S6).c1, (MW.keep S6).c2, (MX.keep S6).c0, (MX.keep S6).c1, (MX.keep S6).c2⟩ (fun h2 => ?_)
            clear hK K h1
            refine wpAnyH_ready (rs := [16]) (by kernel_rfl) (by simp) ?_
            refine AllReadyH.cons rfl (fun K hK => ?_) AllReadyH.nil
            go_simp
            go_wp2_with (go_at_call 110; with_reducible refine JA.mono ?_; rintro e w7 ⟨u7, rfl, RP7, s7⟩)
            have RQ7 := RP7
            obtain ⟨aa, na, ca, ba, ma, da, -, -, -, -, -, -, ea, -⟩ := RQ7
            subst ea
            have u7 : wo.Since wo.heap.size w7 := u6.trans (sinceMono s7 u6.size)
            have S7 : w.Since w.heap.size w7 := s.trans (sinceMono u7 s.size)
            have D7 := D6.keep s7
            refine hK.out _ _ ⟨(B.keep u7).c2, (B.keep u7).c1, (MW.keep S7).c0, (MW.keep S7).c1, (MW.keep S7).c2, (MX.keep S7).c0, (MX.keep S7).c1, (MX.keep S7).c2⟩ (fun h3 => ?_)
            clear hK K h2
            refine wpAnyH_ready (rs := [17]) (by kernel_rfl) (by simp) ?_
            refine AllReadyH.cons rfl (fun K hK => ?_) AllReadyH.nil
            have l0 := D7.c0
            have l1 := D7.c1
            have l2 := D7.c2
            have lf0 := D7.f 0
            have lf1 := D7.f 1
            have lf2 := D7.f 2
            go_simp
            clear l0 l1 l2 lf0 lf1 lf2
            have D8 := ((D7.set0 (.bool (qn (psum (d.B r).q (fun j => (d.W (r * C + j)).q) v j + (d.W G).q * v j)))).set1 (.slice aa na ca)).set2 (.slice ba ma da)
            have M8 : Marked w7 _ w2.heap.size := (((Marked.refl w7 _).setCell 0 (.bool (qn (psum (d.B r).q (fun j => (d.W (r * C + j)).q) v j + (d.W G).q * v j)))).setCell 1 (.slice aa na ca)).setCell 2 (.slice ba ma da)
            have R8 := (RP7.imp (p' := fun q => wo.heap.size ≤ q ∧ q ≠ w2.heap.size) (fun q _ h => by have := u6.size; have := D6.lt; omega)).marked M8 (fun h => h.2 rfl)
            have U8 := u7.trans (M8.since (B := wo.heap.size) z2)
            have S8 := s.trans (sinceMono U8 s.size)
            have z8 := M8.size
            have z7 := u7.size
            have zD := D7.lt
            refine hK.out _ _ ⟨(B.keep U8).c2, (B.keep U8).c1, (MW.keep S8).c0, (MW.keep S8).c1, (MW.keep S8).c2, (MX.keep S8).c0, (MX.keep S8).c1, (MX.keep S8).c2⟩ (fun hH9 => ?_)
            clear hK K hH9 h3
            refine wpAnyH_done (by kernel_rfl) ?_ _
            go_wp2
            go_roundw
            case rel =>
              go_light
              refine ⟨j + 1, by omega, by go_num, U8, by omega, aa, na, ca, ba, ma, da, ?_, ?_⟩
              · rw [HPS.out]; exact D8
              · rw [HPS.out]; exact R8
            case measure => simp [intOf]; omega
          · go_simp
            go_wp2_with (go_at_call 111; with_reducible refine JM.mono ?_; rintro e w6 ⟨u6, rfl, RP6, s6⟩)
            have RQ6 := RP6
            obtain ⟨a9, n9, c9, b9, m9, d9, -, -, -, -, -, -, e9, -⟩ := RQ6
            subst e9
            have u6 : wo.Since wo.heap.size w6 := u5.trans (sinceMono s6 u5.size)
            have S6 : w.Since w.heap.size w6 := s.trans (sinceMono u6 s.size)
            have D6 := D5.keep s6
            have T6 := T5.keep s6
            have JA := l1Add_rp (qS j (by omega)) (qWj.mul (qX j hj)) (by omega) T6.read RP6.read
            refine hK.out _ _ ⟨(B.keep u6).c2, (B.keep u6).c1, (MW.keep S6).c0, (MW.keep S6).c1, (MW.keep S6).c2, (MX.keep S6).c0, (MX.keep S6).c1, (MX.keep S6).c2⟩ (fun h1 => ?_)
            clear hK K hHeld
            refine wpAnyH_ready (rs := [0]) (by kernel_rfl) (by simp) ?_
            refine AllReadyH.cons rfl (fun K hK => ?_) AllReadyH.nil
            have l0 := D6.c0
            have l1 := D6.c1
            have l2 := D6.c2
            go_simp
            clear l0 l1 l2
            refine hK.out _ _ ⟨(B.keep u6).c2, (B.keep u6).c1, (MW.keep S6).c0, (MW.keep S6).c1, (MW.keep S6).c2, (MX.keep S6).c0, (MX.keep S6).c1, (MX.keep S6).c2⟩ (fun h2 => ?_)
            clear hK K h1
            refine wpAnyH_ready (rs := [16]) (by kernel_rfl) (by simp) ?_
            refine AllReadyH.cons rfl (fun K hK => ?_) AllReadyH.nil
            go_simp
            go_wp2_with (go_at_call 110; with_reducible refine JA.mono ?_; rintro e w7 ⟨u7, rfl, RP7, s7⟩)
            have RQ7 := RP7
            obtain ⟨aa, na, ca, ba, ma, da, -, -, -, -, -, -, ea, -⟩ := RQ7
            subst ea
            have u7 : wo.Since wo.heap.size w7 := u6.trans (sinceMono s7 u6.size)
            have S7 : w.Since w.heap.size w7 := s.trans (sinceMono u7 s.size)
            have D7 := D6.keep s7
            refine hK.out _ _ ⟨(B.keep u7).c2, (B.keep u7).c1, (MW.keep S7).c0, (MW.keep S7).c1, (MW.keep S7).c2, (MX.keep S7).c0, (MX.keep S7).c1, (MX.keep S7).c2⟩ (fun h3 => ?_)
            clear hK K h2
            refine wpAnyH_ready (rs := [17]) (by kernel_rfl) (by simp) ?_
            refine AllReadyH.cons rfl (fun K hK => ?_) AllReadyH.nil
            have l0 := D7.c0
            have l1 := D7.c1
            have l2 := D7.c2
            have lf0 := D7.f 0
            have lf1 := D7.f 1
            have lf2 := D7.f 2
            go_simp
            clear l0 l1 l2 lf0 lf1 lf2
            have D8 := ((D7.set0 (.bool (qn (psum (d.B r).q (fun j => (d.W (r * C + j)).q) v j + (d.W G).q * v j)))).set1 (.slice aa na ca)).set2 (.slice ba ma da)
            have M8 : Marked w7 _ w2.heap.size := (((Marked.refl w7 _).setCell 0 (.bool (qn (psum (d.B r).q (fun j => (d.W (r * C + j)).q) v j + (d.W G).q * v j)))).setCell 1 (.slice aa na ca)).setCell 2 (.slice ba ma da)
            have R8 := (RP7.imp (p' := fun q => wo.heap.size ≤ q ∧ q ≠ w2.heap.size) (fun q _ h => by have := u6.size; have := D6.lt; omega)).marked M8 (fun h => h.2 rfl)
            have U8 := u7.trans (M8.since (B := wo.heap.size) z2)
            have S8 := s.trans (sinceMono U8 s.size)
            have z8 := M8.size
            have z7 := u7.size
            have zD := D7.lt
            refine hK.out _ _ ⟨(B.keep U8).c2, (B.keep U8).c1, (MW.keep S8).c0, (MW.keep S8).c1, (MW.keep S8).c2, (MX.keep S8).c0, (MX.keep S8).c1, (MX.keep S8).c2⟩ (fun hH9 => ?_)
            clear hK K hH9 h3
            refine wpAnyH_done (by kernel_rfl) ?_ _
            go_wp2
            go_roundw
            case rel =>
              go_light
              refine ⟨j + 1, by omega, by go_num, U8, by omega, aa, na, ca, ba, ma, da, ?_, ?_⟩
              · rw [HPS.out]; exact D8
              · rw [HPS.out]; exact R8
            case measure => simp [intOf]; omega
        · have e : j = C := by omega
          subst e
          have HPC := hide (EQ.out r)
          have l0 := D4.c0
          have l1 := D4.c1
          have l2 := D4.c2
          have O4 := O.keep u4
          rw [← HPC.out] at D4 T4 l0
          have gr : (Value.slice (some ⟨g, 0, none⟩) r cap).ownBlock = some g := rfl
          have R4 : RatRP wr (fun q => (Value.slice (some ⟨g, 0, none⟩) r cap).ownBlock ≠ some q) (.agg #[.bool (qn (qApply d v r)), .slice y1 y2 y3, .slice y4 y5 y6]) (qApply d v r) := T4.imp (fun q _ hq e => by simp [Value.ownBlock] at e; omega)
          go_wp2_with (at_builtin; refine wpList_append_own_at _ rfl _ _ 28 rfl (w.heap.size + 1) 70 i0 _ 3 56 Tryz.underlying28 hi hz0 hz1 hz2 rfl (by decide) _ r xs rfl (O4.own.alloc _) ⟨wr.heap.size, 0, none⟩ 1 1 [.bool (qn (qApply d v r)), .slice y1 y2 y3, .slice y4 y5 y6] rfl rfl (new3 _ _ _ _ _) (one3 _ _ _ _ _ _ _) (by unfold maxLen; omega) (by omega) (by simp; omega) ?_)
          intro v' w6 hown hgrow _ hat
          have hown' := hown
          obtain ⟨_, ⟨_, hbad⟩ | ⟨g', cap', cur, rfl, -⟩⟩ := hown'
          · omega
          have zz : (wr.alloc (.cells #[.bool (qn (qApply d v r)), .slice y1 y2 y3, .slice y4 y5 y6] 70)).heap.size = wr.heap.size + 1 := by simp
          have sW := (World.Since.refl wr.heap.size wr).alloc (Nat.le_refl _) (.cells #[.bool (qn (qApply d v r)), .slice y1 y2 y3, .slice y4 y5 y6] 70)
          have O6 := OutL.snoc (Q := qApply d v) O4 sW (by omega) hgrow hown (by rw [zz]; exact hat) R4
          have S6 : w.Since w.heap.size w6 := (S4.trans (sinceMono sW S4.size)).grown hgrow (by have := S4.size; omega) (fun q hq => by have := (O4.own.lt q hq).1; omega)
          have z6 := hgrow.size
          have zr := u4.size
          have B4 := B.keep u4
          have B6 : Box4 w6 w.heap.size _ _ _ _ := B4.ofBlock ((hgrow.block w.heap.size (by have := B4.lt; omega) (fun e => by have := (O4.own.lt _ e.symm).1; omega)).trans (sW.block _ B4.lt))
          clear l0 l1 l2 qc1
          go_wp2
          go_roundw
          case rel => exact ⟨r + 1, by omega, by go_num, S6, by omega, B6, g', cap', _, rfl, O6⟩
          case measure => simp [intOf]; omega
    · have e : r = R := by omega
      subst e
      obtain ⟨a, b, c, e, Q⟩ := O.qs
      simp only [Value.slice.injEq, true_and] at e
      obtain ⟨rfl, rfl⟩ := e
      go_wp2
      go_ret
      exact ⟨_, b, cap, rfl, Q, s⟩

end Go.Proofs.YthaomfabdghfjaaGreat

namespace Go.Proofs.YthaomfabdghfjaaGreat
open Go.RowKit

/-- What leaves map i - 1; the input for i = 0. -/
def qO (A : Nat → AffD) (x : Nat → Rat) : Nat → Nat → Rat
  | 0 => x
  | k + 1 => qLay A x k

def nO (A : Nat → AffD) (nx : Nat) : Nat → Nat
  | 0 => nx
  | k + 1 => (A k).rows.toNat

theorem net_qB {A : Nat → AffD} {n : Nat} (P : NetP n A) (l : ∀ k, k < n → (A k).lim) (hz : szA A n ≤ 1048576) {k : Nat} (hk : k < n) : ∀ i, i < (A k).nb → Qb ((A k).B i).q 1048577 := fun i hi => by
  obtain ⟨h1, h2⟩ := q_small ((P.vals k hk).2 i hi) ((l k hk).B i hi)
  have h3 := szR_at (R := (A k).B) hi
  have h4 := szA_at (A := A) hk
  unfold AffD.size at h4
  exact qb_of h1 h2 (by omega) (by omega)

set_option maxHeartbeats 6400000 in
set_option maxRecDepth 100000 in
theorem l3Before_any (a ax : Option Addr) (lo b off n cap bx ox nx cx : Nat) (A : Nat → AffD) (x : Nat → Rat) (w : World) (P : NetP n A) (H : Affs w lo a b off n A) (HX : RatQs w (fun _ => True) ax bx ox nx x) (hnx : nx = (A 0).cols.toNat)
    (RB : ∀ k, k < n → RowB (A k) (qIn A x k)) (QB : ∀ k, k < n → ∀ i, i < (A k).nb → Qb ((A k).B i).q 1048577) :
    Calls Tryz.prog 32 #[.agg #[.slice a n cap], .slice ax nx cx, .int .i64 ((n - 1 : Nat) : Int)] w fun e w' => ∃ a' b' o' cap', e = .returned (.slice a' (A (n - 1)).rows.toNat cap') ∧ RatQs w' (fun _ => True) a' b' o' (A (n - 1)).rows.toNat (qLay A x (n - 1)) ∧ w.Since w.heap.size w' := by
  have sA : w.Since w.heap.size (w.alloc (.cells #[.slice a n cap] 33)) := (World.Since.refl _ _).alloc (Nat.le_refl _) _
  have bA := Box1.new w (.slice a n cap) 33
  have n0 := P.n0
  have n1 := P.n1
  have NP := hide P
  have HRB := hide RB
  have HQB := hide QB
  have HNX := hide hnx
  clear P RB QB hnx
  go_enter Tryz.func32, Tryz.ntmps32
  go_wp2_with fail
  generalize w.alloc (.cells #[.slice a n cap] 33) = wA at *
  go_loopw [7, 8] (fun u i wr => ∃ k : Nat, k ≤ n ∧ i = .int .i64 k ∧ wA.Since wA.heap.size wr ∧ ∃ av bv ov nv cv, u = .slice av nv cv ∧ nv = nO A nx k ∧ RatQs wr (fun _ => True) av bv ov nv (qO A x k)) (fun _ i _ => n - (intOf i).toNat)
  case atStart => exact ⟨0, Nat.zero_le _, rfl, World.Since.refl _ _, ax, bx, ox, nx, cx, rfl, rfl, HX.keep sA⟩
  case round =>
    obtain ⟨k, hk, rfl, s, av, bv, ov, nv, cv, rfl, hnv, Q⟩ := hrel
    have S1 : w.Since w.heap.size wr := sA.trans (sinceMono s sA.size)
    by_cases hlt : k < n
    · have hz : (k : Int) ≤ ((n - 1 : Nat) : Int) := by omega
      have hz2 : (k : Int) < (n : Int) := by omega
      obtain ⟨rfl, a1, a2, k1, k2, M⟩ := H k hlt
      rcases Nat.eq_zero_or_pos k with h00 | hpos
      · subst h00
        have hg : ¬ (0 : Int) < ((0 : Nat) : Int) := by omega
        have M' := M.keep S1
        have g0 := M'.c0
        have g1 := M'.c1
        have g2 := M'.c2
        have g3 := M'.c3
        simp only [Nat.zero_mul, Nat.add_zero] at g0 g1 g2 g3
        have b0 := (bA.keep s).c0
        have HNV := hide (show nv = (A 0).cols.toNat by rw [hnv]; exact HNX.out)
        clear hnv
        go_wp2_with fail
        rw [HNV.out]
        refine (l3Apply_any (A 0) lo a1 a2 k1 k2 av bv ov cv x wr (NP.out.shape 0 (by omega)) (NP.out.vals 0 (by omega)) M'.L (by rw [← HNV.out]; exact Q) (HRB.out 0 (by omega)) (HQB.out 0 (by omega))).mono ?_
        rintro e w3 ⟨a4, b4, c4, rfl, Q4, s4⟩
        go_wp2
        go_roundw
        case rel => exact ⟨0 + 1, by omega, rfl, s.trans (sinceMono s4 s.size), a4, b4, 0, (A 0).rows.toNat, c4, rfl, rfl, Q4⟩
        case measure => simp [intOf]; omega
      · obtain ⟨p, rfl⟩ : ∃ p, k = p + 1 := ⟨k - 1, by omega⟩
        have hg : (0 : Int) < ((p + 1 : Nat) : Int) := by omega
        have hch := NP.out.chain (p + 1) hlt (by omega)
        rw [Nat.add_sub_cancel] at hch
        have HNV := hide (show nv = (A (p + 1)).cols.toNat by rw [hnv, hch]; rfl)
        have HNR := hide (show nv = (A p).rows.toNat from hnv)
        have hsh := (NP.out.shape p (by omega)).1
        have hnb : nv ≤ 20000 := by rw [hnv]; show (A p).rows.toNat ≤ 20000; have := hsh.2.1; omega
        clear hnv hch hsh
        have hqq : ∀ i, i < nv → Qb (qO A x (p + 1) i) 1048577 := fun i hi => by
          show Qb (qLay A x p i) 1048577
          rw [qLay_eq]
          exact (HRB.out p (by omega)).s i (by rw [← HNR.out]; exact hi) _ (Nat.le_refl _)
        have J1 := l3Relu_any av bv ov nv cv (qO A x (p + 1)) wr (by omega) Q hqq
        clear hqq
        go_wp2_with fail
        refine J1.mono ?_
        rintro e w2 ⟨a3, b3, c3, rfl, Q3, s3⟩
        have s2 := s.trans (sinceMono s3 s.size)
        have S2 : w.Since w.heap.size w2 := sA.trans (sinceMono s2 sA.size)
        have M' := M.keep S2
        have g0 := M'.c0
        have g1 := M'.c1
        have g2 := M'.c2
        have g3 := M'.c3
        have b0 := (bA.keep s2).c0
        clear J1
        go_wp2_with fail
        rw [HNV.out]
        refine (l3Apply_any (A (p + 1)) lo a1 a2 k1 k2 a3 b3 0 c3 (fun i => qrelu (qLay A x p i)) w2 (NP.out.shape (p + 1) hlt) (NP.out.vals (p + 1) hlt) M'.L (by rw [← HNV.out]; exact Q3) (HRB.out (p + 1) hlt) (HQB.out (p + 1) hlt)).mono ?_
        rintro e w3 ⟨a4, b4, c4, rfl, Q4, s4⟩
        go_wp2
        go_roundw
        case rel => exact ⟨p + 1 + 1, by omega, by go_num, s2.trans (sinceMono s4 s2.size), a4, b4, 0, (A (p + 1)).rows.toNat, c4, rfl, rfl, Q4⟩
        case measure => simp [intOf]; omega
    · have e : k = n := by omega
      obtain ⟨p, rfl⟩ : ∃ p, n = p + 1 := ⟨n - 1, by omega⟩
      subst e
      have hz : ¬ ((p + 1 : Nat) : Int) ≤ (p : Int) := by omega
      have HNR := hide (show nv = (A p).rows.toNat from hnv)
      clear hnv
      simp only [Nat.add_sub_cancel] at *
      go_wp2
      go_ret
      refine ⟨av, ⟨cv, ?_⟩, ⟨bv, ov, ?_⟩, S1⟩
      · show Ending.returned (.slice av nv cv) = _
        rw [HNR.out]
      · rw [← HNR.out]; exact Q

set_option maxHeartbeats 6400000 in
set_option maxRecDepth 100000 in
theorem specEvalNet_no (a ax : Option Addr) (lo b off n cap lox bx ox nx cx : Nat) (A : Nat → AffD) (X : Nat → RatD) (w : World) (hz : n + szA A n + (nx + szR X nx) ≤ 1048576) (H : Affs w lo a b off n A) (HX : Rats w lox ax bx ox nx X) (hno : ¬ EvP n A nx X) :
    Calls Tryz.prog 8 #[.agg #[.slice a n cap], .slice ax nx cx] w fun e w' => ∃ c, e = .returned (.tuple #[.slice (some c) 0 0, .bool false]) ∧ w.Since w.heap.size w' := by
  have sA : w.Since w.heap.size (w.alloc (.cells #[.slice a n cap] 33)) := (World.Since.refl _ _).alloc (Nat.le_refl _) _
  have bA := Box1.new w (.slice a n cap) 33
  go_enter Tryz.func8, Tryz.ntmps8
  go_wp2_with fail
  generalize w.alloc (.cells #[.slice a n cap] 33) = wA at *
  refine (specNetOk_any a lo b off n cap A wA (by omega) (by omega) (H.keep sA)).mono ?_
  rintro e w1 ⟨r1, rfl, i1, s1⟩
  have I1 := hide i1
  have S1 : w.Since w.heap.size w1 := sA.trans (sinceMono s1 sA.size)
  have B1 := bA.keep s1
  have b0 := B1.c0
  clear i1
  cases r1
  · go_wp2
    go_ret2
    exact ⟨_, rfl, S1.alloc S1.size _⟩
  have NP := hide (I1.out.1 (by simp))
  have n0 := NP.out.n0
  obtain ⟨rfl, a1, a2, k1, k2, M⟩ := H 0 (by omega)
  have g1 := (M.keep S1).c1
  have hz0 : (0 : Int) < (n : Int) := by omega
  simp only [Nat.zero_mul, Nat.add_zero] at g1
  by_cases hl : (nx : Int) = (A 0).cols
  rotate_left
  · have q : ((nx : Int) != (A 0).cols) = true := by simpa using hl
    clear hl I1
    go_wp2
    go_ret2
    exact ⟨_, rfl, S1.alloc S1.size _⟩
  have q : ((nx : Int) != (A 0).cols) = false := by simpa using hl
  have HL := hide hl
  have HN := hide hno
  clear hl I1 hno
  go_wp2_with fail
  refine (l1AllOk_any ax lox bx ox nx cx X w1 (by omega) (by omega) (HX.keep S1)).mono ?_
  rintro e w2 ⟨r2, rfl, i2, s2⟩
  have I2 := hide i2
  have S2 := S1.trans (sinceMono s2 S1.size)
  clear i2
  cases r2
  · go_wp2
    go_ret2
    exact ⟨_, rfl, S2.alloc S2.size _⟩
  exact absurd ⟨NP.out, HL.out, I2.out.1 (by simp)⟩ HN.out

set_option maxHeartbeats 6400000 in
set_option maxRecDepth 100000 in
theorem specEvalNet_ok (a ax : Option Addr) (lo b off n cap lox bx ox nx cx : Nat) (A : Nat → AffD) (X : Nat → RatD) (w : World) (hz : n + szA A n + (nx + szR X nx) ≤ 1048576) (H : Affs w lo a b off n A) (HX : Rats w lox ax bx ox nx X) (hev : EvP n A nx X) :
    Calls Tryz.prog 8 #[.agg #[.slice a n cap], .slice ax nx cx] w fun e w' => ∃ a' b' o' cap', e = .returned (.tuple #[.slice a' (A (n - 1)).rows.toNat cap', .bool true]) ∧ RatQs w' (fun _ => True) a' b' o' (A (n - 1)).rows.toNat (qLay A (fun i => (X i).q) (n - 1)) ∧ w.Since w.heap.size w' := by
  have sA : w.Since w.heap.size (w.alloc (.cells #[.slice a n cap] 33)) := (World.Since.refl _ _).alloc (Nat.le_refl _) _
  have bA := Box1.new w (.slice a n cap) 33
  obtain ⟨NP0, hl, hok⟩ := hev
  have NP := hide NP0
  have n0 := NP0.n0
  have lims := H.aff
  have hC0 : nx = (A 0).cols.toNat := by omega
  have RB : ∀ k, k < n → RowB (A k) (qIn A (fun i => (X i).q) k) := fun k hk => net_rowB NP0 lims (by rw [← hC0]; exact hok) (by rw [← hC0]; exact HX.lim) (by rw [← hC0]; omega) hk
  have HRB := hide RB
  have HQB := hide (fun k (hk : k < n) => net_qB NP0 lims (by omega) hk)
  have QX := (HX.qs hok).imp (p' := fun _ => True) (fun _ _ _ => trivial)
  have HC0 := hide hC0
  have HOK := hide hok
  have q : ((nx : Int) != (A 0).cols) = false := by simpa using hl
  clear hl hok RB NP0 hC0 lims
  go_enter Tryz.func8, Tryz.ntmps8
  go_wp2_with fail
  generalize w.alloc (.cells #[.slice a n cap] 33) = wA at *
  refine (specNetOk_any a lo b off n cap A wA (by omega) (by omega) (H.keep sA)).mono ?_
  rintro e w1 ⟨r1, rfl, i1, s1⟩
  obtain rfl : r1 = true := i1.2 NP.out
  have S1 : w.Since w.heap.size w1 := sA.trans (sinceMono s1 sA.size)
  have B1 := bA.keep s1
  have b0 := B1.c0
  clear i1 bA
  obtain ⟨rfl, a1, a2, k1, k2, M⟩ := H 0 (by omega)
  have g1 := (M.keep S1).c1
  have hz0 : (0 : Int) < (n : Int) := by omega
  simp only [Nat.zero_mul, Nat.add_zero] at g1
  go_wp2_with fail
  refine (l1AllOk_any ax lox bx ox nx cx X w1 (by omega) (by omega) (HX.keep S1)).mono ?_
  rintro e w2 ⟨r2, rfl, i2, s2⟩
  obtain rfl : r2 = true := i2.2 HOK.out
  have S2 : w.Since w.heap.size w2 := S1.trans (sinceMono s2 S1.size)
  have b0' := (B1.keep s2).c0
  have hn1 : (n : Int) - 1 = ((n - 1 : Nat) : Int) := by omega
  clear i2 b0 g1 q
  go_wp2_with fail
  refine (l3Before_any _ ax lo b off n cap bx ox nx cx A (fun i => (X i).q) w2 NP.out (H.keep S2) (QX.keep S2) HC0.out HRB.out HQB.out).mono ?_
  rintro e w3 ⟨a', b', o', cap', rfl, Q, s3⟩
  go_wp2
  go_ret2
  exact ⟨a', b', o', cap', rfl, Q, S2.trans (sinceMono s3 S2.size)⟩

end Go.Proofs.YthaomfabdghfjaaGreat

namespace Go.Proofs.YthaomfabdghfjaaGreat
open Go.RowKit

theorem Box1.frame {w w' : World} {S : Nat → Prop} {c : Nat} {x : Value} (h : Box1 w c x) (F : Fra w w' S) (hS : ¬ S c) : Box1 w' c x :=
  ⟨(F.cell (a := ⟨c, 0, none⟩) hS).trans h.c0, fun k => (F.frozen c k).trans (h.f k)⟩

theorem RIn.frame {w w' : World} {S : Nat → Prop} {a b : Option Addr} {ba oa n ca bb ob m cb : Nat} {X Y : Nat → Nat} (R : RIn w a b ba oa n ca bb ob m cb X Y) (F : Fra w w' S) (h1 : 0 < n → ¬ S ba) (h2 : 0 < m → ¬ S bb) : RIn w' a b ba oa n ca bb ob m cb X Y :=
  ⟨R.nc, R.mc, R.ac, R.bc, F.limbs R.LX h1, F.limbs R.LY h2, R.lX, R.lY, R.pX, R.pY, R.m0⟩

theorem RatOs.frame {w w' : World} {S : Nat → Prop} {b n B : Nat} {Q : Nat → Rat} {E : Nat → Nat} (T : RatOs w b n Q E) (F : Fra w w' S) (hB : B ≤ b) (hS : ∀ k, B ≤ k → ¬ S k) : RatOs w' b n Q E := by
  refine ⟨fun i hi => ?_, T.lo, T.mono⟩
  obtain ⟨g, h, a1, n1, k1, a2, n2, k2, X, Y, r⟩ := T.at_ i hi
  have hb := T.base (show i ≤ n by omega)
  have sb : ¬ S b := hS b hB
  exact ⟨g, h, a1, n1, k1, a2, n2, k2, X, Y, (F.cell (a := ⟨b, i * 3, none⟩) sb).trans r.c0, (F.cell (a := ⟨b, i * 3 + 1, none⟩) sb).trans r.c1, (F.cell (a := ⟨b, i * 3 + 2, none⟩) sb).trans r.c2,
    r.R.frame F (fun h0 => hS g (by have := (r.lg h0).1; omega)) (fun h0 => hS h (by have := (r.lh h0).1; omega)), r.v1, r.v2,
    fun h0 => ⟨(r.lg h0).1, (r.lg h0).2.1, fun o => by rw [F.frozen]; exact (r.lg h0).2.2 o⟩, fun h0 => ⟨(r.lh h0).1, (r.lh h0).2.1, fun o => by rw [F.frozen]; exact (r.lh h0).2.2 o⟩, r.ne⟩

/-- What the evaluation of a net answers: m rationals and ok. -/
structure EvR (n : Nat) (A : Nat → AffD) (nx : Nat) (X : Nat → RatD) (m : Nat) (ok : Bool) (Q : Nat → Rat) : Prop where
  c : (EvP n A nx X ∧ m = (A (n - 1)).rows.toNat ∧ ok = true ∧ Q = qLay A (fun i => (X i).q) (n - 1)) ∨ (¬ EvP n A nx X ∧ m = 0 ∧ ok = false)

theorem evR_ex (n : Nat) (A : Nat → AffD) (nx : Nat) (X : Nat → RatD) : ∃ m ok Q, EvR n A nx X m ok Q := by
  by_cases h : EvP n A nx X
  · exact ⟨_, _, _, ⟨.inl ⟨h, rfl, rfl, rfl⟩⟩⟩
  · exact ⟨0, false, fun _ => 0, ⟨.inr ⟨h, rfl, rfl⟩⟩⟩

theorem EvR.bounds {n : Nat} {A : Nat → AffD} {nx : Nat} {X : Nat → RatD} {m : Nat} {ok : Bool} {Q : Nat → Rat} (e : EvR n A nx X m ok Q) {w : World} {lo b off lox bx ox : Nat} {a ax : Option Addr} (H : Affs w lo a b off n A) (HX : Rats w lox ax bx ox nx X) (hz : n + szA A n + (nx + szR X nx) ≤ 1048576) :
    m ≤ 20000 ∧ ∀ i, i < m → Qb (Q i) 1048577 := by
  rcases e.c with ⟨⟨NP, hl, hok⟩, rfl, -, rfl⟩ | ⟨-, rfl, -⟩
  · have n0 := NP.n0
    have hC0 : nx = (A 0).cols.toNat := by omega
    have hsh := NP.shape (n - 1) (by omega)
    refine ⟨by have := hsh.1.2.1; omega, fun i hi => ?_⟩
    rw [qLay_eq]
    exact (net_rowB NP H.aff (by rw [← hC0]; exact hok) (by rw [← hC0]; exact HX.lim) (by rw [← hC0]; omega) (show n - 1 < n by omega)).s i hi _ (Nat.le_refl _)
  · exact ⟨Nat.zero_le _, fun i hi => absurd hi (by omega)⟩

/-- impl.EvalNet, both ways. -/
theorem implEvalNet_u (a ax : Option Addr) (lo b off n cap lox bx ox nx cx : Nat) (A : Nat → AffD) (X : Nat → RatD) (w : World) (m : Nat) (ok : Bool) (Q : Nat → Rat) (hw : 0 ≤ w.heap.size) (hT : Tab w) (hz : n + szA A n + (nx + szR X nx) ≤ 1048576) (hnc : n ≤ cap) (H : Affs w lo a b off n A) (HX : Rats w lox ax bx ox nx X) (hev : EvR n A nx X m ok Q) :
    Calls Tryz.prog 11 #[.agg #[.slice a n cap], .slice ax nx cx] w fun e w' => ∃ a' c E cap', e = .returned (.tuple #[.slice a' m cap', .bool ok]) ∧ (0 < m → a' = some ⟨c, 0, none⟩) ∧ w.heap.size ≤ c ∧
      RatOs w' c m Q E ∧ (0 < m → ∀ o, w'.frozen? ⟨c, o, none⟩ = false) ∧ w.Since w.heap.size w' := by
  rcases hev.c with ⟨ev, rfl, rfl, rfl⟩ | ⟨ev, rfl, rfl⟩
  · refine (implEvalNet_ok a ax lo b off n cap lox bx ox nx cx A X w hw hT hz hnc H HX ev).mono ?_
    rintro e w' ⟨c, E, rfl, l, O, R, -, s⟩
    exact ⟨_, c, E, _, rfl, fun _ => rfl, l, O, fun _ => R.f, s⟩
  · refine (implEvalNet_no a ax lo b off n cap lox bx ox nx cx A X w hw hT hz H HX ev).mono ?_
    rintro e w' ⟨rfl, s⟩
    exact ⟨_, w'.heap.size, fun _ => w'.heap.size + 1, _, rfl, fun h => absurd h (by omega), s.size, ⟨fun i hi => absurd hi (by omega), Nat.lt_succ_self _, fun i hi => absurd hi (by omega)⟩, fun h => absurd h (by omega), s⟩

/-- spec.EvalNet, both ways. -/
theorem specEvalNet_u (a ax : Option Addr) (lo b off n cap lox bx ox nx cx : Nat) (A : Nat → AffD) (X : Nat → RatD) (w : World) (m : Nat) (ok : Bool) (Q : Nat → Rat) (hz : n + szA A n + (nx + szR X nx) ≤ 1048576) (H : Affs w lo a b off n A) (HX : Rats w lox ax bx ox nx X) (hev : EvR n A nx X m ok Q) :
    Calls Tryz.prog 8 #[.agg #[.slice a n cap], .slice ax nx cx] w fun e w' => ∃ a' b' o' cap', e = .returned (.tuple #[.slice a' m cap', .bool ok]) ∧ RatQs w' (fun _ => True) a' b' o' m Q ∧ w.Since w.heap.size w' := by
  rcases hev.c with ⟨ev, rfl, rfl, rfl⟩ | ⟨ev, rfl, rfl⟩
  · exact specEvalNet_ok a ax lo b off n cap lox bx ox nx cx A X w hz H HX ev
  · refine (specEvalNet_no a ax lo b off n cap lox bx ox nx cx A X w hz H HX ev).mono ?_
    rintro e w' ⟨c, rfl, s⟩
    exact ⟨_, 0, 0, _, rfl, fun i hi => absurd hi (by omega), s⟩

/-- The answer as a list of rationals. -/
theorem RatOs.qs' {w : World} {a : Option Addr} {b n : Nat} {Q : Nat → Rat} {E : Nat → Nat} (T : RatOs w b n Q E) (ha : 0 < n → a = some ⟨b, 0, none⟩) : RatQs w (fun _ => True) a b 0 n Q := fun i hi => by
  rw [ha (by omega)]; exact T.qs i hi

end Go.Proofs.YthaomfabdghfjaaGreat

namespace Go.Proofs.YthaomfabdghfjaaGreat
open Go.RowKit

set_option maxHeartbeats 6400000 in
set_option maxRecDepth 100000 in
theorem evalNet_law (a ax : Option Addr) (lo b off n cap lox bx ox nx cx : Nat) (A : Nat → AffD) (X : Nat → RatD) (w : World) (hw : 0 ≤ w.heap.size) (hT : Tab w) (hz : n + szA A n + (nx + szR X nx) ≤ 1048576) (H : Affs w lo a b off n A) (HX : Rats w lox ax bx ox nx X) :
    Calls Tryz.prog 3 #[.agg #[.slice a n cap], .slice ax nx cx] w fun e w' => e = .returned (.bool true) ∧ w.Since w.heap.size w' := by
  obtain ⟨m, ok, Q, er⟩ := evR_ex n A nx X
  obtain ⟨hm, hq⟩ := er.bounds H HX hz
  have hzz := hide hz
  have sA : w.Since w.heap.size (w.alloc (.cells #[.slice a n cap] 24)) := (World.Since.refl _ _).alloc (Nat.le_refl _) _
  have bA := Box1.new w (.slice a n cap) 24
  have J0 := szNet_any a lo b off n cap 1048576 A _ (by omega) (by omega) (H.keep sA)
  rw [szl_ok (show n + szA A n ≤ 1048576 by omega)] at J0
  have hl : ¬ (((1048576 - (n + szA A n) : Nat) : Int) < 0) := by omega
  go_enter Tryz.func3, Tryz.ntmps3
  go_wp2_with fail
  generalize w.alloc (.cells #[.slice a n cap] 24) = wA at *
  refine J0.mono ?_
  rintro e w0 ⟨rfl, s0⟩
  have S0 : w.Since w.heap.size w0 := sA.trans (sinceMono s0 sA.size)
  have B0 := bA.keep s0
  have J1 := szRatS_any ax lox bx ox nx cx (1048576 - (n + szA A n)) X w0 (by omega) (by omega) (HX.keep S0)
  rw [szl_ok (show nx + szR X nx ≤ 1048576 - (n + szA A n) by omega)] at J1
  clear bA J0
  go_wp2_with fail
  refine J1.mono ?_
  rintro e w1 ⟨rfl, s1⟩
  have S1 : w.Since w.heap.size w1 := S0.trans (sinceMono s1 S0.size)
  have B1 := B0.keep s1
  have b0 := B1.c0
  have hl2 : ¬ (((1048576 - (n + szA A n) - (nx + szR X nx) : Nat) : Int) < 0) := by omega
  clear J1 B0 hl
  -- w0 := spec.EvalNet(toNet(aN), toRatS(aX))
  go_wp2_with fail
  refine (toNet_own a lo b off n cap A w1 (by omega) (by omega) (H.keep S1)).mono ?_
  rintro e w2 ⟨c2, rfl, -, -, -, H2, s2⟩
  have S2 : w.Since w.heap.size w2 := S1.trans (sinceMono s2 S1.size)
  have B2 := B1.keep s2
  clear b0 B1 hl2
  go_wp2_with fail
  refine (toRatS_own ax lox bx ox nx cx X w2 (by omega) (by omega) (HX.keep S2)).mono ?_
  rintro e w3 ⟨c3, rfl, -, -, -, X3, s3⟩
  have S3 : w.Since w.heap.size w3 := S2.trans (sinceMono s3 S2.size)
  have B3 := B2.keep s3
  have H3 := H2.keep s3
  clear B2 H2
  go_wp2_with fail
  refine (specEvalNet_u _ _ _ c2 0 n n _ c3 0 nx nx A X w3 m ok Q hzz.out H3 X3 er).mono ?_
  rintro e w4 ⟨a4, b4, o4, cap4, rfl, Q4, s4⟩
  have S4 : w.Since w.heap.size w4 := S3.trans (sinceMono s4 S3.size)
  have B4 := B3.keep s4
  have b0 := B4.c0
  clear H3 X3 B3
  -- x0 := toNet(aN)
  go_wp2_with fail
  refine (toNet_own a lo b off n cap A w4 (by omega) (by omega) (H.keep S4)).mono ?_
  rintro e w5 ⟨c5, rfl, l5, l5', U5, H5, s5⟩
  have S5 : w.Since w.heap.size w5 := S4.trans (sinceMono s5 S4.size)
  have B5 := B4.keep s5
  clear b0
  have t5 : w5.Since w5.heap.size (w5.alloc (.cells #[.slice (some ⟨c5, 0, none⟩) n n] 33)) := (World.Since.refl _ _).alloc (Nat.le_refl _) _
  have C6 := Box1.new w5 (.slice (some ⟨c5, 0, none⟩) n n) 33
  go_wp2_with fail
  generalize w5.alloc (.cells #[.slice (some ⟨c5, 0, none⟩) n n] 33) = w6 at *
  have S6 : w.Since w.heap.size w6 := S5.trans (sinceMono t5 S5.size)
  have p6 : w4.Since w4.heap.size w6 := s5.trans (sinceMono t5 s5.size)
  have B6 := B5.keep t5
  have H6 := H5.keep t5
  have U6 := U5.keep t5
  have z6 := C6.lt
  clear B5 H5 U5
  -- x1 := toRatS(aX)
  refine (toRatS_own ax lox bx ox nx cx X w6 (by omega) (by omega) (HX.keep S6)).mono ?_
  rintro e w7 ⟨c7, rfl, l7, l7', U7, X7, s7⟩
  have S7 : w.Since w.heap.size w7 := S6.trans (sinceMono s7 S6.size)
  have p7 : w4.Since w4.heap.size w7 := p6.trans (sinceMono s7 p6.size)
  have B7 := B6.keep s7
  have C7 := C6.keep s7
  have H7 := H6.keep s7
  have V7 := U6.keep s7
  have b0 := B7.c0
  have c0 := C7.c0
  clear B6 C6 H6 U6
  -- g0 := impl.EvalNet(x0, x1)
  go_wp2_with fail
  refine (implEvalNet_u _ _ _ c5 0 n n _ c7 0 nx nx A X w7 m ok Q (Nat.zero_le _) (hT.keepN hw S7) hzz.out (Nat.le_refl _) H7 X7 er).mono ?_
  rintro e w8 ⟨a8, c8, E8, cap8, rfl, ha8, l8, O8, f8, s8⟩
  have S8 : w.Since w.heap.size w8 := S7.trans (sinceMono s8 S7.size)
  have p8 : w4.Since w4.heap.size w8 := p7.trans (sinceMono s8 p7.size)
  have B8 := B7.keep s8
  have C8 := C7.keep s8
  have H8 := H7.keep s8
  have V8 := V7.keep s8
  have X8 := X7.keep s8
  have U8 := U7.keep s8
  clear b0 c0 B7 C7 H7 V7 X7 U7
  -- eqRatS(g0, w0)
  go_wp2_with fail
  refine (eqRatS_q a8 a4 c8 0 cap8 b4 o4 cap4 m Q w8 (by omega) hq (O8.qs' ha8) (Q4.keep p8)).mono ?_
  rintro e w9 ⟨rfl, s9⟩
  have q9a : w8.Since w8.heap.size w9 := s9
  have b0 := (B8.keep q9a).c0
  have c0 := (C8.keep q9a).c0
  go_wp2_with fail
  have q9 : w8.Since w8.heap.size w9.drew := s9.trans (sinceMono ((World.Since.refl _ _).drew) s9.size)
  have S9 : w.Since w.heap.size w9.drew := S8.trans (sinceMono q9 S8.size)
  have J2 := toNet_any a lo b off n cap A w9.drew (by omega) (by omega) (H.keep S9)
  go_region_held3 (fun w' => w'.cell? ⟨w.heap.size, 0, none⟩ = some (.slice a n cap) ∧ w'.cell? ⟨w5.heap.size, 0, none⟩ = some (.slice (some ⟨c5, 0, none⟩) n n)) (go_keep)
    (first
      | (go_at_call 9
         with_reducible refine J2.mono ?_
         rintro e w10 ⟨c10, rfl, -, -, H10, s10⟩
         have q10 : w8.Since w8.heap.size w10 := q9.trans (sinceMono s10 q9.size)
         have J3 := eqNet_true _ _ _ c5 0 n _ c10 0 n n A w10 (by omega) (by omega) (H8.keep q10) H10
         have i0 := (B8.keep q10).c0
         have l0 := (C8.keep q10).c0)
      | (go_at_call 13
         with_reducible refine J3.mono ?_
         rintro e w11 ⟨rfl, s11⟩
         have q11 : w8.Since w8.heap.size w11 := q10.trans (sinceMono s11 q10.size)
         have i0' := (B8.keep q11).c0
         have l0' := (C8.keep q11).c0))
  all_goals clear i0 l0 i0' l0' b0 c0 J2 J3
  all_goals go_wp2_with fail
  have S11 : w.Since w.heap.size w11 := S8.trans (sinceMono q11 S8.size)
  -- eqRatS(x1, toRatS(aX))
  refine (toRatS_any ax lox bx ox nx cx X w11 (by omega) (by omega) (HX.keep S11)).mono ?_
  rintro e w12 ⟨c12, rfl, -, -, X12, s12⟩
  have q12 : w8.Since w8.heap.size w12 := q11.trans (sinceMono s12 q11.size)
  go_wp2_with fail
  refine (eqRatS_true _ _ _ c7 0 nx _ c12 0 nx nx X w12 (by omega) (by omega) (X8.keep q12) X12).mono ?_
  rintro e w13 ⟨rfl, s13⟩
  have q13 : w8.Since w8.heap.size w13 := q12.trans (sinceMono s13 q12.size)
  have c0 := (C8.keep q13).c0
  -- markNet(x0, 1)
  go_wp2_with fail
  refine (markNet_own _ _ c5 n n 1 A w13 (by omega) (by omega) (by omega) (V8.keep q13)).mono ?_
  rintro e w15 ⟨k15, h15, rfl, w14, s14, F15⟩
  have q14 : w8.Since w8.heap.size w14 := q13.trans (sinceMono s14 q13.size)
  have z4 : w4.heap.size ≤ w5.heap.size := by omega
  clear c0
  go_wp2_with fail
  -- markRatS(x1, ..)
  refine (markRatS_own _ _ c7 nx nx k15 w15 (by omega) (by omega) ((U8.keep q14).frame F15 (fun k h1 h2 h3 => by have : k < w5.heap.size := h3.2; omega))).mono ?_
  rintro e w16 ⟨k16, h16, rfl, F16⟩
  have hk16 : ¬ ((k16 : Int) < 0) := by omega
  have p14 : w4.Since w4.heap.size w14 := p8.trans (sinceMono q14 p8.size)
  have p16 : w4.Since w4.heap.size w16 := (p14.trans (F15.since (fun k h => h.1))).trans (F16.since (fun k h => by have : w6.heap.size ≤ k := h.1; omega))
  have O16 : RatOs w16 c8 m Q E8 := ((O8.keep q14).frame F15 l8 (fun k h1 h2 => by have : k < w5.heap.size := h2.2; have := s7.size; omega)).frame F16 l8 (fun k h1 h2 => by have : k < w7.heap.size := h2.2; omega)
  have J4 := eqRatS_q a8 a4 c8 0 cap8 b4 o4 cap4 m Q w16 (by omega) hq (O16.qs' ha8) (Q4.keep p16)
  go_wp2_with fail
  refine J4.mono ?_
  rintro e w17 ⟨rfl, s17⟩
  have p17 : w4.Since w4.heap.size w17 := p16.trans (sinceMono s17 p16.size)
  have O17 := O16.keep s17
  have f17 : 0 < m → ∀ o, w17.frozen? ⟨c8, o, none⟩ = false := fun h0 o => by
    obtain ⟨g', h', a1', n1', k1', a2', n2', k2', X', Y', r'⟩ := O16.at_ 0 h0
    obtain ⟨g8, h8, x1', x2', x3', x4', x5', x6', X8', Y8', r8⟩ := O8.at_ 0 h0
    rw [s17.frozen (a := ⟨c8, o, none⟩) r'.lt, F16.frozen, F15.frozen, q14.frozen (a := ⟨c8, o, none⟩) r8.lt]; exact f8 h0 o
  -- markRatS(g0, 1)
  clear J4 hk16
  go_wp2_with fail
  refine (markRatS_any a8 c8 m cap8 E8 1 w17 (by omega) (by omega) ha8 O17.mono O17.lo f17 (O17.own (fun i hi => (hq i hi).more (by omega)))).mono ?_
  rintro e w18 ⟨K18, hK0, hK1, rfl, F18, M18⟩
  have z7 := s7.size
  have p18 : w4.Since w4.heap.size w18 := p17.trans (F18.since (fun k h => by have := O17.lo; have := h.2; rcases this with h1 | h1 <;> omega))
  have hk18 : ¬ ((K18 m : Int) < 0) := by omega
  -- heldRatS(g0, 1)
  go_wp2_with fail
  refine (heldRatS_any a8 c8 m cap8 E8 K18 1 w18 (by omega) (by omega) ha8 hK0 M18).mono ?_
  rintro e w18' ⟨rfl, rfl⟩
  have S18 : w.Since w.heap.size w18' := S4.trans (sinceMono p18 S4.size)
  have B18 : Box1 w18' w.heap.size (.slice a n cap) := B4.keep p18
  have b0 := B18.c0
  go_wp2_with fail
  -- the second time
  refine (toNet_own a lo b off n cap A w18' (by omega) (by omega) (H.keep S18)).mono ?_
  rintro e w19 ⟨c19, rfl, -, -, -, H19, s19⟩
  have S19 : w.Since w.heap.size w19 := S18.trans (sinceMono s19 S18.size)
  clear b0 hk18
  go_wp2_with fail
  refine (toRatS_own ax lox bx ox nx cx X w19 (by omega) (by omega) (HX.keep S19)).mono ?_
  rintro e w20 ⟨c20, rfl, -, -, -, X20, s20⟩
  have S20 : w.Since w.heap.size w20 := S19.trans (sinceMono s20 S19.size)
  have H20 := H19.keep s20
  go_wp2_with fail
  refine (implEvalNet_u _ _ _ c19 0 n n _ c20 0 nx nx A X w20 m ok Q (Nat.zero_le _) (hT.keepN hw S20) hzz.out (Nat.le_refl _) H20 X20 er).mono ?_
  rintro e w21 ⟨a21, c21, E21, cap21, rfl, ha21, l21, O21, f21, s21⟩
  have S21 : w.Since w.heap.size w21 := S20.trans (sinceMono s21 S20.size)
  have p21 : w4.Since w4.heap.size w21 := ((p18.trans (sinceMono s19 p18.size)).trans (sinceMono s20 (Nat.le_trans p18.size s19.size))).trans (sinceMono s21 (Nat.le_trans (Nat.le_trans p18.size s19.size) s20.size))
  go_wp2_with fail
  refine (eqRatS_q a21 a4 c21 0 cap21 b4 o4 cap4 m Q w21 (by omega) hq (O21.qs' ha21) (Q4.keep p21)).mono ?_
  rintro e w22 ⟨rfl, s22⟩
  go_wp2
  go_ret
  exact ⟨rfl, S21.trans (sinceMono s22 S21.size)⟩

set_option maxHeartbeats 1600000 in
set_option maxRecDepth 100000 in
theorem evalNet_long1 (a ax : Option Addr) (lo b off n cap nx cx : Nat) (A : Nat → AffD) (w : World) (hn : n ≤ 9223372036854775807) (hz : 1048576 < n + szA A n) (H : Affs w lo a b off n A) :
    Calls Tryz.prog 3 #[.agg #[.slice a n cap], .slice ax nx cx] w fun e w' => e = .returned (.bool true) ∧ w.Since w.heap.size w' := by
  have sA : w.Since w.heap.size (w.alloc (.cells #[.slice a n cap] 24)) := (World.Since.refl _ _).alloc (Nat.le_refl _) _
  have J0 := szNet_any a lo b off n cap 1048576 A _ (by omega) hn (H.keep sA)
  rw [szl_no hz] at J0
  go_enter Tryz.func3, Tryz.ntmps3
  go_wp2_with fail
  refine J0.mono ?_
  rintro e w1 ⟨rfl, s1⟩
  go_wp2
  go_ret
  exact ⟨rfl, sA.trans (sinceMono s1 sA.size)⟩

set_option maxHeartbeats 1600000 in
set_option maxRecDepth 100000 in
theorem evalNet_long2 (a ax : Option Addr) (lo b off n cap lox bx ox nx cx : Nat) (A : Nat → AffD) (X : Nat → RatD) (w : World) (hz : n + szA A n ≤ 1048576) (hnx : nx ≤ 9223372036854775807) (hz2 : 1048576 < n + szA A n + (nx + szR X nx)) (H : Affs w lo a b off n A) (HX : Rats w lox ax bx ox nx X) :
    Calls Tryz.prog 3 #[.agg #[.slice a n cap], .slice ax nx cx] w fun e w' => e = .returned (.bool true) ∧ w.Since w.heap.size w' := by
  have sA : w.Since w.heap.size (w.alloc (.cells #[.slice a n cap] 24)) := (World.Since.refl _ _).alloc (Nat.le_refl _) _
  have J0 := szNet_any a lo b off n cap 1048576 A _ (by omega) (by omega) (H.keep sA)
  rw [szl_ok hz] at J0
  have hl : ¬ (((1048576 - (n + szA A n) : Nat) : Int) < 0) := by omega
  go_enter Tryz.func3, Tryz.ntmps3
  go_wp2_with fail
  generalize w.alloc (.cells #[.slice a n cap] 24) = wA at *
  refine J0.mono ?_
  rintro e w0 ⟨rfl, s0⟩
  have S0 : w.Since w.heap.size w0 := sA.trans (sinceMono s0 sA.size)
  have J1 := szRatS_any ax lox bx ox nx cx (1048576 - (n + szA A n)) X w0 (by omega) hnx (HX.keep S0)
  rw [szl_no (show 1048576 - (n + szA A n) < nx + szR X nx by omega)] at J1
  clear J0
  go_wp2_with fail
  refine J1.mono ?_
  rintro e w1 ⟨rfl, s1⟩
  go_wp2
  go_ret
  exact ⟨rfl, S0.trans (sinceMono s1 S0.size)⟩

end Go.Proofs.YthaomfabdghfjaaGreat
