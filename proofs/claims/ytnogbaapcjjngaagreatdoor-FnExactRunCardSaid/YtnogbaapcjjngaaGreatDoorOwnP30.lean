import Derived.Test.YtnogbaapcjjngaaGreatDoorOwnP27
import Derived.Test.YtnogbaapcjjngaaGreatDoorOwnP4
import Derived.Maps.AppendAt
import Derived.Deep.AppendLies
import Derived.Test.YtnogbaapcjjngaaGreatDoorOwnP26
import Derived.Test.YtnogbaapcjjngaaGreatDoorOwnP21
set_option maxHeartbeats 6400000
set_option maxRecDepth 100000
namespace Go.Proofs.YtnogbaapcjjngaaGreatDoor
open Go.RowKit
theorem xx4.blocks {w w' : World} {p : Nat -> Prop} {v : Value} {q : Rat} (h : xx4 w p v q) (hb : ∀ g, g < w.heap.size -> p g -> w'.heap[g]? = w.heap[g]?) : xx4 w' p v q := by
 obtain ⟨a, n, ca, b, m, cb, ba, oa, bb, ob, X, Y, h1, R, h3, h4, h5, h6⟩ := h; have LX : xq1 w' a ba oa n X := fun j hj => ⟨(R.LX j hj).1, (World.cell?_of_block (w := w) (a := ⟨ba, oa + j, none⟩) (hb ba (R.LX.lt (by omega)) (h5 (by omega)))).trans (R.LX j hj).2⟩
 have LY : xq1 w' b bb ob m Y := fun j hj => ⟨(R.LY j hj).1, (World.cell?_of_block (w := w) (a := ⟨bb, ob + j, none⟩) (hb bb (R.LY.lt (by omega)) (h6 (by omega)))).trans (R.LY j hj).2⟩
 exact ⟨a, n, ca, b, m, cb, ba, oa, bb, ob, X, Y, h1, ⟨R.nc, R.mc, R.ac, R.bc, LX, LY, R.lX, R.lY, R.pX, R.pY, R.m0⟩, h3, h4, h5, h6⟩
structure OutL (w : World) (base : Nat) (v : Value) (k : Nat) (Q : Nat -> Rat) (xs : List Value) : Prop where
 own : w.ownsRow base 61 3 v k xs
 at_ : ∀ i, i < k -> ∃ x y, xs[i * 3]? = some (.bool (qn (Q i))) /\ xs[i * 3 + 1]? = some x /\ xs[i * 3 + 2]? = some y /\ xx4 w (fun g => v.ownBlock ≠ some g) (.agg #[.bool (qn (Q i)), x, y]) (Q i)
theorem OutL.keep {w w' : World} {base k : Nat} {v : Value} {Q : Nat -> Rat} {xs : List Value} (h : OutL w base v k Q xs) (s : w.Since w.heap.size w') : OutL w' base v k Q xs := by
 refine ⟨h.own.kept (row := none) ⟨s.os, s.tape, s.output, s.size, fun k hk _ => s.block k hk⟩ (Classical.em _), fun i hi => ?_⟩; obtain ⟨x, y, h1, h2, h3, h4⟩ := h.at_ i hi; exact ⟨x, y, h1, h2, h3, h4.keep s⟩
theorem OutL.snoc {w w1 w' : World} {base k : Nat} {v v' : Value} {Q : Nat -> Rat} {xs : List Value} {x y : Value} (h : OutL w base v k Q xs) (s1 : w.Since w.heap.size w1) (hs : w.heap.size < w1.heap.size) (g : w1.grownBy w' v.ownBlock) (own : w'.ownsRow base 61 3 v' (k + 1) (xs ++ [.bool (qn (Q k)), x, y]))
 (hat : v'.ownBlock = v.ownBlock ∨ v'.ownBlock = some w1.heap.size) (R : xx4 w (fun g => v.ownBlock ≠ some g) (.agg #[.bool (qn (Q k)), x, y]) (Q k)) : OutL w' base v' (k + 1) Q (xs ++ [.bool (qn (Q k)), x, y]) := by
 have hl : xs.length = k * 3 := h.own.1
 have mv : ∀ {u : Value} {q : Rat}, xx4 w (fun g => v.ownBlock ≠ some g) u q -> xx4 w' (fun g => v'.ownBlock ≠ some g) u q := fun {u q} r => by
  have r2 : xx4 w (fun g => v.ownBlock ≠ some g /\ v'.ownBlock ≠ some g) u q := r.imp (fun j hj hp => ⟨hp, fun e => by
   rcases hat with h | h
   . exact hp (h.symm.trans e)
   . rw [e] at h; simp at h; omega⟩)
  have r3 : xx4 w' (fun g => v.ownBlock ≠ some g /\ v'.ownBlock ≠ some g) u q := r2.blocks (fun j hj hp => (g.block j (by omega) (fun e => hp.1 e.symm)).trans (s1.block j hj)); exact r3.imp (fun _ _ hp => hp.2)
 refine ⟨own, fun i hi => ?_⟩
 by_cases e : i = k
 . subst e
   refine ⟨x, y, ?_, ?_, ?_, mv R⟩
   . rw [List.getElem?_append_right (by omega), hl]; simp
   . rw [List.getElem?_append_right (by omega), hl]; simp
   . rw [List.getElem?_append_right (by omega), hl]; simp
 . obtain ⟨x', y', h1, h2, h3, h4⟩ := h.at_ i (by omega)
   exact ⟨x', y', by rw [List.getElem?_append_left (by omega)]; exact h1, by rw [List.getElem?_append_left (by omega)]; exact h2, by rw [List.getElem?_append_left (by omega)]; exact h3, mv h4⟩
theorem OutL.qs {w : World} {base k : Nat} {v : Value} {Q : Nat -> Rat} {xs : List Value} (h : OutL w base v k Q xs) : ∃ a b cap, v = .slice a k cap /\ xx8 w (fun _ => True) a b 0 k Q := by
 have hc := @World.ownsRow.cells _ _ _ _ _ _ _ h.own; have h2 := h.own; have hat := h.at_; obtain ⟨_, ⟨rfl, rfl⟩ | ⟨g, cap, cur, rfl, hg, hb, hn, _⟩⟩ := h2
 . exact ⟨none, 0, 0, rfl, fun i hi => absurd hi (by omega)⟩
 . refine ⟨_, g, cap, rfl, fun i hi => ⟨rfl, ?_⟩⟩
   obtain ⟨x, y, h1, h2, h3, h4⟩ := hat i hi; have e1 := hc (g := g) rfl _ _ h1; have e2 := hc (g := g) rfl _ _ h2; have e3 := hc (g := g) rfl _ _ h3; rw [Go.WideShapes.add_plain] at e1 e2 e3; exact ⟨x, y, e1, by rw [Nat.add_assoc]; exact e2, by rw [Nat.add_assoc]; exact e3, h4.imp (fun _ _ _ => trivial)⟩
theorem new3 (w : World) (x y z : Value) (t : TypeId) : ∀ j u, ([x, y, z] : List Value)[j]? = some u -> (w.alloc (.cells #[x, y, z] t)).cell? ((⟨w.heap.size, 0, none⟩ : Addr).add j) = some u := fun j u hu => by
 rw [Go.WideShapes.add_plain, Nat.zero_add]
 rcases j with _ | _ | _ | j
 . simp at hu; subst hu; simp [go_sem]
 . simp at hu; subst hu; simp [go_sem]
 . simp at hu; subst hu; simp [go_sem]
 . simp at hu
theorem one3 (f : Bool) (a b : Option Addr) (n c m d : Nat) : ∀ u ∈ ([.bool f, .slice a n c, .slice b m d] : List Value), u.oneCell' = true := by
 intro u hu
 simp at hu
 rcases hu with rfl | rfl | rfl <;> rfl
theorem yw0 : ∃ i, Tryz.prog.info? 61 = some i /\ i.zero = some (.agg #[.bool false, .slice none 0 0, .slice none 0 0]) /\ i.size = 3 /\ i.bytes = 56 := by
 obtain ⟨i, hi, h⟩ := Option.map_eq_some_iff.1 info_Rat; simp only [Prod.mk.injEq] at h; exact ⟨i, hi, h.1, h.2.1, h.2.2⟩
theorem l3Relu_any (ax : Option Addr) (bx ox n cx : Nat) (v : Nat -> Rat) (w : World) (hn : n <= 1048576) (HX : xx8 w (fun _ => True) ax bx ox n v) (hq : ∀ i, i < n -> Qb (v i) 1048577) :
 Calls Tryz.prog 118 #[.slice ax n cx] w fun e w' => ∃ a b cap, e = .returned (.slice a n cap) /\ xx8 w' (fun _ => True) a b 0 n (fun i => xk1 (v i)) /\ w.Since w.heap.size w' := by
 obtain ⟨i0, hi, hz0, hz1, hz2⟩ := yw0; have sA := sal w (.cells #[] 61); have oA : OutL (w.alloc (.cells #[] 61)) w.heap.size (.slice (some ⟨w.heap.size, 0, none⟩) 0 0) 0 (fun i => xk1 (v i)) [] := ⟨World.ownsRow_made w #[] 0 (Nat.le_refl _) (Nat.zero_le _) rfl, fun i hi => absurd hi (by omega)⟩; go_enter Tryz.func118, Tryz.ntmps118; go_wp2
 go_loopw [3, 4] (fun u i wr => ∃ k : Nat, k <= n /\ i = .int .i64 k /\ w.Since w.heap.size wr /\ w.heap.size < wr.heap.size /\ ∃ g cap xs, u = .slice (some ⟨g, 0, none⟩) k cap /\ OutL wr w.heap.size (.slice (some ⟨g, 0, none⟩) k cap) k (fun i => xk1 (v i)) xs) (fun _ i _ => n - (intOf i).toNat)
 case atStart => exact ⟨0, Nat.zero_le _, rfl, sA, by simp, w.heap.size, 0, [], rfl, oA⟩
 case round =>
  obtain ⟨k, hk, rfl, s, hsz, g, cap, xs, rfl, O⟩ := hrel
  by_cases hlt : k < n
  . obtain ⟨rfl, x, y, M⟩ := HX k hlt
    have HR := M.R.read; obtain ⟨a6, n6, c6, b6, m6, d6, -, -, -, -, -, -, e6, -⟩ := M.R; simp only [Value.agg.injEq, Array.mk.injEq, List.cons.injEq, and_true, true_and] at e6; obtain ⟨rfl, rfl⟩ := e6; have M' := M.keep s; have g0 := M'.c0; have g1 := M'.c1; have g2 := M'.c2; have hz : (k : Int) < (n : Int) := by omega
    have bl := M.lt; have dr := sdr wr; have S1 := s.trans (sM dr s.size); have g0' := (M.keep S1).c0; have g1' := (M.keep S1).c1; have g2' := (M.keep S1).c2; have J1 := xv2 wr.drew; have gl := O.own.lt g rfl; go_wp2_with fail
    go_region_held3 (fun w' => w'.cell? ⟨bx, ox + k * 3, none⟩ = some (.bool (qn (v k))) /\ w'.cell? ⟨bx, ox + k * 3 + 1, none⟩ = some (.slice a6 n6 c6) /\ w'.cell? ⟨bx, ox + k * 3 + 2, none⟩ = some (.slice b6 m6 d6)) (go_keep)
     (first
       | (go_at_call 104
          with_reducible refine J1.mono ?_
          rintro e w4 ⟨u4, rfl, RV, s4⟩; have RP : xx4 w4 (fun g => wr.drew.heap.size <= g) u4 (0 : Rat) := RatV.rp (q := 0) RV; have RZ := RP.read; obtain ⟨a7, n7, c7, b7, m7, d7, -, -, -, -, -, -, e7, -⟩ := RP; subst e7; have S4 := S1.trans (sM s4 S1.size); have J2 := l1Max_relu (.slice a6 n6 c6) (.slice b6 m6 d6) (.slice a7 n7 c7) (.slice b7 m7 d7) (v k) w4 (hq k hlt) (HR.keep S4) RZ; have j0 := (M.keep S4).c0; have j1 := (M.keep S4).c1; have j2 := (M.keep S4).c2)
       | (go_at_call 153
          with_reducible refine J2.mono ?_
          rintro e w5 ⟨u5, rfl, RP5, s5⟩; have RQ5 := RP5; obtain ⟨a8, n8, c8, b8, m8, d8, -, -, -, -, -, -, e8, -⟩ := RQ5; subst e8; have u45 := dr.trans (sM (s4.trans (sM s5 s4.size)) dr.size); have S5 := s.trans (sM u45 s.size); have O5 := O.keep u45; have z4 := s4.size; have R5 : xx4 w5 (fun q => (Value.slice (some ⟨g, 0, none⟩) k cap).ownBlock ≠ some q) (.agg #[.bool (qn (xk1 (v k))), .slice a8 n8 c8, .slice b8 m8 d8]) (xk1 (v k)) := RP5.imp (fun q _ hq e => by simp [Value.ownBlock] at e; have := z4; have : wr.drew.heap.size = wr.heap.size := rfl; omega); have i0' := (M.keep S5).c0; have i1' := (M.keep S5).c1; have i2' := (M.keep S5).c2; have zw5 := u45.size)
       | (refine step_append_lies _ rfl _ _ 30 rfl w.heap.size 61 i0 _ 3 56 Tryz.underlying30 hi hz0 hz1 hz2 rfl (by decide) _ k xs rfl (O5.own.alloc _) ⟨w5.heap.size, 0, none⟩ 1 1 [.bool (qn (xk1 (v k))), .slice a8 n8 c8, .slice b8 m8 d8] rfl rfl (new3 _ _ _ _ _) (one3 _ _ _ _ _ _ _) (by decide) (by unfold maxLen; omega) (by omega) (by simp; omega) (w5.heap.size + 1) (by simp) ?_
          intro g' cap' w6 hown hgrow hat hlt6; have sW := sal w5 (.cells #[.bool (qn (xk1 (v k))), .slice a8 n8 c8, .slice b8 m8 d8] 61); have hne : some bx ≠ (Value.slice (some ⟨g, 0, none⟩) k cap).ownBlock := fun e => by simp [Value.ownBlock] at e; omega
          have y0 := hgrow.cell ((sW.cell (a := ⟨bx, ox + k * 3, none⟩) (show bx < w5.heap.size by omega)).trans i0') hne; have y1 := hgrow.cell ((sW.cell (a := ⟨bx, ox + k * 3 + 1, none⟩) (show bx < w5.heap.size by omega)).trans i1') hne; have y2 := hgrow.cell ((sW.cell (a := ⟨bx, ox + k * 3 + 2, none⟩) (show bx < w5.heap.size by omega)).trans i2') hne))
    all_goals go_wp2
    all_goals go_roundw
    case rel =>
     have zz : (w5.alloc (.cells #[.bool (qn (xk1 (v k))), .slice a8 n8 c8, .slice b8 m8 d8] 61)).heap.size = w5.heap.size + 1 := by simp
     have hat' : (Value.slice (some ⟨g', 0, none⟩) (k + 1) cap').ownBlock = (Value.slice (some ⟨g, 0, none⟩) k cap).ownBlock ∨ (Value.slice (some ⟨g', 0, none⟩) (k + 1) cap').ownBlock = some (w5.alloc (.cells #[.bool (qn (xk1 (v k))), .slice a8 n8 c8, .slice b8 m8 d8] 61)).heap.size := by
      rcases hat with h | h
      . exact Or.inl h.symm
      . right; rw [zz, h]; rfl
     have O6 := OutL.snoc (Q := fun i => xk1 (v i)) O5 sW (by omega) hgrow hown hat' R5; have S6 := (S5.trans (sM sW S5.size)).grown hgrow (by omega) (fun q hq => (O5.own.lt q hq).1); have z6 := hgrow.size; exact ⟨k + 1, by omega, by go_num, S6, by omega, g', cap', _, rfl, O6⟩
    case measure => simp [intOf]; omega
  . have e : k = n := by omega
    subst e; obtain ⟨a, b, c, e, Q⟩ := O.qs; simp only [Value.slice.injEq, true_and] at e; obtain ⟨rfl, rfl⟩ := e; go_wp2; go_ret; exact ⟨_, b, cap, rfl, Q, s⟩
theorem l3Apply_any (d : AffD) (lo : Nat) (a1 a2 : Option Addr) (k1 k2 : Nat) (ax : Option Addr) (bx ox cx : Nat) (v : Nat -> Rat) (w : World) (hd : d.shape) (hv : d.vals) (H : AffL w lo d a1 a2 k1 k2)
 (HX : xx8 w (fun _ => True) ax bx ox d.cols.toNat v) (hB : RowB d v) (hBq : ∀ i, i < d.nb -> Qb (d.B i).q 1048577) :
 Calls Tryz.prog 119 #[.agg #[.int .i64 d.rows, .int .i64 d.cols, .slice a1 d.nw k1, .slice a2 d.nb k2], .slice ax d.cols.toNat cx] w fun e w' => ∃ a b cap, e = .returned (.slice a d.rows.toNat cap) /\
  xx8 w' (fun _ => True) a b 0 d.rows.toNat (yj3 d v) /\ w.Since w.heap.size w' := by
 obtain ⟨i0, hi, hz0, hz1, hz2⟩ := yw0; obtain ⟨⟨hr0, hr1, hc0, hc1⟩, hnw, hnb⟩ := hd; obtain ⟨R, hR⟩ : ∃ R, R = d.rows.toNat := ⟨_, rfl⟩; obtain ⟨C, hC⟩ : ∃ C, C = d.cols.toNat := ⟨_, rfl⟩; have eR : d.rows = (R : Int) := by omega
 have eC : d.cols = (C : Int) := by omega
 have hnw' : d.nw = R * C := by rw [eR, eC, <- Int.natCast_mul] at hnw; exact Int.ofNat_inj.1 hnw
 have hnb' : d.nb = R := by omega
 have QB := hide hB; have EQ := hide (show ∀ r, yj3 d v r = psum (d.B r).q (fun j => (d.W (r * C + j)).q) v C by intro r; rw [hC]; rfl); rw [<- hC] at HX; rw [<- hR, <- hC, eR, eC]; have HR := hide hR; have HCc := hide hC; obtain ⟨b1, o1, -, LW⟩ := H.LW; obtain ⟨b2, o2, -, LB⟩ := H.LB; have QW := LW.qs hv.1; have QQ := LB.qs hv.2; rw [hnw'] at QW; rw [hnb'] at QQ hBq; have hRb : R <= 20000 := by omega
 have hCb : C <= 20000 := by omega
 have hRC : R * C <= 20000 * 20000 := Nat.mul_le_mul hRb hCb; have HNW := hide hnw'; rw [hnb']; clear hr0 hr1 hc0 hc1 hnw hnb hR hC hB hv eR eC H LW LB hnw' hnb'; obtain ⟨wA, eA⟩ : ∃ wA : World, wA = (w.alloc (.cells #[.int .i64 R, .int .i64 C, .slice a1 d.nw k1, .slice a2 R k2] 74)).alloc (.cells #[] 61) := ⟨_, rfl⟩; have sA : w.Since w.heap.size wA := by rw [eA]; exact ((World.Since.refl _ _).alloc (Nat.le_refl _) _).alloc (by simp) _
 have zA : wA.heap.size = w.heap.size + 1 + 1 := by rw [eA]; simp
 have bA : Box4 wA w.heap.size (.int .i64 R) (.int .i64 C) (.slice a1 d.nw k1) (.slice a2 R k2) := by rw [eA]; exact (Box4.new w _ _ _ _ _).keep ((World.Since.refl _ _).alloc (Nat.le_refl _) _)
 have oA : OutL wA (w.heap.size + 1) (.slice (some ⟨w.heap.size + 1, 0, none⟩) 0 0) 0 (yj3 d v) [] := by
  rw [eA]; have := World.ownsRow_made (base := w.heap.size + 1) (e := 61) (size := 3) (w.alloc (.cells #[.int .i64 R, .int .i64 C, .slice a1 d.nw k1, .slice a2 R k2] 74)) #[] 0 (by simp) (Nat.zero_le _) rfl; rw [show (w.alloc (.cells #[.int .i64 R, .int .i64 C, .slice a1 d.nw k1, .slice a2 R k2] 74)).heap.size = w.heap.size + 1 by simp] at this; exact ⟨this, fun i hi => absurd hi (by omega)⟩
 have EA := hide eA; clear eA; go_enter Tryz.func119, Tryz.ntmps119; go_wp2_with fail; rw [<- EA.out]; clear EA
 go_loopw [5, 6] (fun u i wr => ∃ k : Nat, k <= R /\ i = .int .i64 k /\ w.Since w.heap.size wr /\ w.heap.size + 1 < wr.heap.size /\ Box4 wr w.heap.size (.int .i64 R) (.int .i64 C) (.slice a1 d.nw k1) (.slice a2 R k2) /\ ∃ g cap xs, u = .slice (some ⟨g, 0, none⟩) k cap /\ OutL wr (w.heap.size + 1) (.slice (some ⟨g, 0, none⟩) k cap) k (yj3 d v) xs) (fun _ i _ => R - (intOf i).toNat)
 case atStart => exact ⟨0, Nat.zero_le _, rfl, sA, by omega, bA, w.heap.size + 1, 0, [], rfl, oA⟩
 case round =>
  rename World => wo
  obtain ⟨r, hr, rfl, s, hsz, B, g, cap, xs, rfl, O⟩ := hrel; have q0 := B.c0
  by_cases hlt : r < R
  . obtain ⟨rfl, xb, yb, MB⟩ := QQ r hlt
    have HRB := MB.R.read; obtain ⟨a6, n6, c6, b6, m6, d6, -, -, -, -, -, -, e6, -⟩ := MB.R; simp only [Value.agg.injEq, Array.mk.injEq, List.cons.injEq, and_true, true_and] at e6; obtain ⟨rfl, rfl⟩ := e6; have q3 := B.c3; have g0 := (MB.keep s).c0; have g1 := (MB.keep s).c1; have g2 := (MB.keep s).c2; have hz : (r : Int) < (R : Int) := by omega
    have qS : ∀ k, k <= C -> Qb (psum (d.B r).q (fun j => (d.W (r * C + j)).q) v k) 1048577 := fun j hj => by have := QB.out.s r (by rw [<- HR.out]; exact hlt) j (by rw [<- HCc.out]; exact hj); rw [<- HCc.out] at this; exact this
    have hrow : r * C + C <= R * C := by rw [<- Nat.succ_mul]; exact Nat.mul_le_mul_right _ hlt
    have qW : ∀ j, j < C -> Qb (d.W (r * C + j)).q 1048577 := fun j hj => QB.out.W _ (by rw [HNW.out]; omega)
    have qX : ∀ j, j < C -> Qb (v j) 1048577 := fun j hj => QB.out.v j (by rw [<- HCc.out]; exact hj)
    go_wp2_with fail; refine (l1Copy_q (hBq r hlt) (by omega) (HRB.keep s)).mono ?_; rintro e w2 ⟨u2, rfl, RP2, s2⟩; have RQ2 := RP2; obtain ⟨a7, n7, c7, b7, m7, d7, -, -, -, -, -, -, e7, -⟩ := RQ2; subst e7; have t3 := sal w2 (.cells #[.bool (qn (d.B r).q), .slice a7 n7 c7, .slice b7 m7 d7] 61); have D3 := Box3.new w2 (.bool (qn (d.B r).q)) (.slice a7 n7 c7) (.slice b7 m7 d7) 61; clear g0 g1 g2 q3 q0; go_wp2_with fail; have u3 : wo.Since wo.heap.size (w2.alloc (.cells #[.bool (qn (d.B r).q), .slice a7 n7 c7, .slice b7 m7 d7] 61)) := s2.trans (sM t3 s2.size); have R3 : xx4 (w2.alloc (.cells #[.bool (qn (d.B r).q), .slice a7 n7 c7, .slice b7 m7 d7] 61)) (fun q => wo.heap.size <= q /\ q ≠ w2.heap.size) (.agg #[.bool (qn (d.B r).q), .slice a7 n7 c7, .slice b7 m7 d7]) (d.B r).q := (RP2.imp (fun q hq h => ⟨h, by omega⟩)).keep t3; have z2 := s2.size; generalize w2.alloc (.cells #[.bool (qn (d.B r).q), .slice a7 n7 c7, .slice b7 m7 d7] 61) = w3 at *; have gl := O.own.lt g rfl
    go_loopw [8] (fun i wi => ∃ j : Nat, j <= C /\ i = .int .i64 j /\ wo.Since wo.heap.size wi /\ w2.heap.size < wi.heap.size /\ ∃ a9 n9 c9 b9 m9 d9, Box3 wi w2.heap.size (.bool (qn (psum (d.B r).q (fun j => (d.W (r * C + j)).q) v j))) (.slice a9 n9 c9) (.slice b9 m9 d9) /\
     xx4 wi (fun q => wo.heap.size <= q /\ q ≠ w2.heap.size) (.agg #[.bool (qn (psum (d.B r).q (fun j => (d.W (r * C + j)).q) v j)), .slice a9 n9 c9, .slice b9 m9 d9]) (psum (d.B r).q (fun j => (d.W (r * C + j)).q) v j)) (fun i _ => C - (intOf i).toNat)
    case atStart => exact ⟨0, Nat.zero_le _, rfl, u3, D3.lt, a7, n7, c7, b7, m7, d7, D3, R3⟩
    case round =>
     obtain ⟨j, hjC, rfl, u4, z4, y1, y2, y3, y4, y5, y6, D4, T4⟩ := hrel; have S4 := s.trans (sM u4 s.size); have qc1 := (B.keep u4).c1
     by_cases hj : j < C
     . obtain ⟨G, hG⟩ : ∃ G, G = r * C + j := ⟨_, rfl⟩
       obtain ⟨F, hF⟩ : ∃ F, F = r * C := ⟨_, rfl⟩; have hGn : G < R * C := by omega
       obtain ⟨rfl, xw, yw, MW⟩ := QW G hGn; obtain ⟨rfl, xv, yv, MX⟩ := HX j hj; have RW := MW.R.read; have RX := MX.R.read; obtain ⟨aw, nw, cw, bw, mw, dw, -, -, -, -, -, -, ew, -⟩ := MW.R; obtain ⟨av, nv, cv, bv, mv, dv, -, -, -, -, -, -, ev, -⟩ := MX.R; simp only [Value.agg.injEq, Array.mk.injEq, List.cons.injEq, and_true, true_and] at ew ev; obtain ⟨rfl, rfl⟩ := ew; obtain ⟨rfl, rfl⟩ := ev; have dr := sdr wr; have u5 := u4.trans (sM dr u4.size); have S5 := s.trans (sM u5 s.size); have D5 := D4.keep dr; have T5 := T4.keep dr; have qWj := qW j hj; rw [<- hG] at qWj; have JM := l1Mul_q qWj (qX j hj) (by omega) (RW.keep S5) (RX.keep S5); have HPS := hide (show psum (d.B r).q (fun j => (d.W (r * C + j)).q) v (j + 1) = psum (d.B r).q (fun j => (d.W (r * C + j)).q) v j + (d.W G).q * v j by rw [hG]; rfl); have eF : (r : Int) * (C : Int) = (F : Int) := by rw [hF, Int.natCast_mul]
       have eG : (F : Int) + (j : Int) = (G : Int) := by omega
       have hF1 : (F : Int) <= 400000000 := by omega
       have hG1 : (G : Int) <= 400000000 := by omega
       have hG2 : (G : Int) < (d.nw : Int) := by rw [HNW.out]; omega
       have hj1 : (j : Int) < (C : Int) := by omega
       clear hG hF; go_wp2_with fail; refine wp_region_held_drew (S := (fun w' => w'.cell? ⟨w.heap.size, 2, none⟩ = some (.slice (some ⟨b1, o1, none⟩) d.nw k1) /\ w'.cell? ⟨w.heap.size, 1, none⟩ = some (.int .i64 C) /\ w'.cell? ⟨b1, o1 + G * 3, none⟩ = some (.bool (qn (d.W G).q)) /\ w'.cell? ⟨b1, o1 + G * 3 + 1, none⟩ = some (.slice aw nw cw) /\ w'.cell? ⟨b1, o1 + G * 3 + 2, none⟩ = some (.slice bw mw dw) /\ w'.cell? ⟨bx, ox + j * 3, none⟩ = some (.bool (qn (v j))) /\ w'.cell? ⟨bx, ox + j * 3 + 1, none⟩ = some (.slice av nv cv) /\ w'.cell? ⟨bx, ox + j * 3 + 2, none⟩ = some (.slice bv mv dv))) (by kernel_rfl) ⟨(B.keep u5).c2, (B.keep u5).c1, (MW.keep S5).c0, (MW.keep S5).c1, (MW.keep S5).c2, (MX.keep S5).c0, (MX.keep S5).c1, (MX.keep S5).c2⟩ (fun hHeld => ?_); refine tk 1 29 (.pointer (some ⟨w.heap.size, 2, none⟩)) ?_; simp only [ap, la, lz, ls]; refine ta 2 30 (.slice (some ⟨b1, o1, none⟩) d.nw k1) ?_ ?_
       . intro w' hSw
         try dsimp only at hSw
         go_simp
       simp only [ap, la, lz, ls]; refine tk 3 31 (.int .i64 r) ?_; simp only [ap, la, lz, ls]; refine tk 4 32 (.pointer (some ⟨w.heap.size, 1, none⟩)) ?_; simp only [ap, la, lz, ls]; refine ta 5 33 (.int .i64 C) ?_ ?_
       . intro w' hSw
         try dsimp only at hSw
         go_simp
       simp only [ap, la, lz, ls]; refine ta 6 34 (.int .i64 F) ?_ ?_
       . intro w' hSw
         try dsimp only at hSw
         go_simp; rw [IntKind.wrap_i64]; omega
       simp only [ap, la, lz, ls]; refine tk 7 35 (.int .i64 j) ?_; simp only [ap, la, lz, ls]; refine ta 8 36 (.int .i64 G) ?_ ?_
       . intro w' hSw
         try dsimp only at hSw
         go_simp; rw [IntKind.wrap_i64]; omega
       simp only [ap, la, lz, ls]; refine ta 9 37 (.pointer (some ⟨b1, o1 + G * 3, none⟩)) ?_ ?_
       . intro w' hSw
         try dsimp only at hSw
         go_simp
       simp only [ap, la, lz, ls]; refine ta 10 38 (.agg #[.bool (qn (d.W G).q), .slice aw nw cw, .slice bw mw dw]) ?_ ?_
       . intro w' hSw
         try dsimp only at hSw
         go_simp
       simp only [ap, la, lz, ls]; refine tk 11 39 (.slice (some ⟨bx, ox, none⟩) C cx) ?_; simp only [ap, la, lz, ls]; refine tk 12 40 (.int .i64 j) ?_; simp only [ap, la, lz, ls]; refine ta 13 41 (.pointer (some ⟨bx, ox + j * 3, none⟩)) ?_ ?_
       . intro w' hSw
         try dsimp only at hSw
         go_simp
       simp only [ap, la, lz, ls]; refine ta 14 42 (.agg #[.bool (qn (v j)), .slice av nv cv, .slice bv mv dv]) ?_ ?_
       . intro w' hSw
         try dsimp only at hSw
         go_simp
       simp only [ap, la, lz, ls]; refine wpAnyH_ready (rs := [0, 15]) (by kernel_rfl) (by simp) ?_; refine AllReadyH.cons rfl (fun K hK => ?_) (AllReadyH.cons rfl (fun K hK => ?_) AllReadyH.nil)
       focus
        have l0 := D5.c0; have l1 := D5.c1; have l2 := D5.c2; go_simp; clear l0 l1 l2; refine hK.out _ _ ⟨(B.keep u5).c2, (B.keep u5).c1, (MW.keep S5).c0, (MW.keep S5).c1, (MW.keep S5).c2, (MX.keep S5).c0, (MX.keep S5).c1, (MX.keep S5).c2⟩ (fun h1 => ?_); clear hK K hHeld; refine wpAnyH_ready (rs := [15]) (by kernel_rfl) (by simp) ?_; refine AllReadyH.cons rfl (fun K hK => ?_) AllReadyH.nil; go_simp
        go_wp2_with (go_at_call 156; with_reducible refine JM.mono ?_; rintro e w6 ⟨u6, rfl, RP6, s6⟩)
        have RQ6 := RP6; obtain ⟨a9, n9, c9, b9, m9, d9, -, -, -, -, -, -, e9, -⟩ := RQ6; subst e9; have u6 := u5.trans (sM s6 u5.size); have S6 := s.trans (sM u6 s.size); have D6 := D5.keep s6; have T6 := T5.keep s6; have JA := l1Add_rp (qS j (by omega)) (qWj.mul (qX j hj)) (by omega) T6.read RP6.read
       rotate_left
       focus
        go_simp
        go_wp2_with (go_at_call 156; with_reducible refine JM.mono ?_; rintro e w6 ⟨u6, rfl, RP6, s6⟩)
        have RQ6 := RP6; obtain ⟨a9, n9, c9, b9, m9, d9, -, -, -, -, -, -, e9, -⟩ := RQ6; subst e9; have u6 := u5.trans (sM s6 u5.size); have S6 := s.trans (sM u6 s.size); have D6 := D5.keep s6; have T6 := T5.keep s6; have JA := l1Add_rp (qS j (by omega)) (qWj.mul (qX j hj)) (by omega) T6.read RP6.read; refine hK.out _ _ ⟨(B.keep u6).c2, (B.keep u6).c1, (MW.keep S6).c0, (MW.keep S6).c1, (MW.keep S6).c2, (MX.keep S6).c0, (MX.keep S6).c1, (MX.keep S6).c2⟩ (fun h1 => ?_); clear hK K hHeld; refine wpAnyH_ready (rs := [0]) (by kernel_rfl) (by simp) ?_; refine AllReadyH.cons rfl (fun K hK => ?_) AllReadyH.nil; have l0 := D6.c0; have l1 := D6.c1; have l2 := D6.c2; go_simp; clear l0 l1 l2
       all_goals
        refine hK.out _ _ ⟨(B.keep u6).c2, (B.keep u6).c1, (MW.keep S6).c0, (MW.keep S6).c1, (MW.keep S6).c2, (MX.keep S6).c0, (MX.keep S6).c1, (MX.keep S6).c2⟩ (fun h2 => ?_); clear hK K h1; refine wpAnyH_ready (rs := [16]) (by kernel_rfl) (by simp) ?_; refine AllReadyH.cons rfl (fun K hK => ?_) AllReadyH.nil; go_simp
        go_wp2_with (go_at_call 155; with_reducible refine JA.mono ?_; rintro e w7 ⟨u7, rfl, RP7, s7⟩)
        have RQ7 := RP7; obtain ⟨aa, na, ca, ba, ma, da, -, -, -, -, -, -, ea, -⟩ := RQ7; subst ea; have u7 := u6.trans (sM s7 u6.size); have S7 := s.trans (sM u7 s.size); have D7 := D6.keep s7; refine hK.out _ _ ⟨(B.keep u7).c2, (B.keep u7).c1, (MW.keep S7).c0, (MW.keep S7).c1, (MW.keep S7).c2, (MX.keep S7).c0, (MX.keep S7).c1, (MX.keep S7).c2⟩ (fun h3 => ?_); clear hK K h2; refine wpAnyH_ready (rs := [17]) (by kernel_rfl) (by simp) ?_; refine AllReadyH.cons rfl (fun K hK => ?_) AllReadyH.nil; have l0 := D7.c0; have l1 := D7.c1; have l2 := D7.c2; have lf0 := D7.f 0; have lf1 := D7.f 1; have lf2 := D7.f 2; go_simp; clear l0 l1 l2 lf0 lf1 lf2; have D8 := ((D7.set0 (.bool (qn (psum (d.B r).q (fun j => (d.W (r * C + j)).q) v j + (d.W G).q * v j)))).set1 (.slice aa na ca)).set2 (.slice ba ma da); have M8 : xq0 w7 _ w2.heap.size := (((xq0.refl w7 _).setCell 0 (.bool (qn (psum (d.B r).q (fun j => (d.W (r * C + j)).q) v j + (d.W G).q * v j)))).setCell 1 (.slice aa na ca)).setCell 2 (.slice ba ma da); have R8 := (RP7.imp (p' := fun q => wo.heap.size <= q /\ q ≠ w2.heap.size) (fun q _ h => by have := u6.size; have := D6.lt; omega)).marked M8 (fun h => h.2 rfl); have U8 := u7.trans (M8.since (B := wo.heap.size) z2); have S8 := s.trans (sM U8 s.size); have z8 := M8.size; have z7 := u7.size; have zD := D7.lt; refine hK.out _ _ ⟨(B.keep U8).c2, (B.keep U8).c1, (MW.keep S8).c0, (MW.keep S8).c1, (MW.keep S8).c2, (MX.keep S8).c0, (MX.keep S8).c1, (MX.keep S8).c2⟩ (fun hH9 => ?_); clear hK K hH9 h3; refine wpAnyH_done (by kernel_rfl) ?_ _; go_wp2; go_roundw
        case rel =>
         go_light; refine ⟨j + 1, by omega, by go_num, U8, by omega, aa, na, ca, ba, ma, da, ?_, ?_⟩
         . rw [HPS.out]; exact D8
         . rw [HPS.out]; exact R8
        case measure => simp [intOf]; omega
     . have e : j = C := by omega
       subst e; have HPC := hide (EQ.out r); have l0 := D4.c0; have l1 := D4.c1; have l2 := D4.c2; have O4 := O.keep u4; rw [<- HPC.out] at D4 T4 l0; have gr : (Value.slice (some ⟨g, 0, none⟩) r cap).ownBlock = some g := rfl; have R4 : xx4 wr (fun q => (Value.slice (some ⟨g, 0, none⟩) r cap).ownBlock ≠ some q) (.agg #[.bool (qn (yj3 d v r)), .slice y1 y2 y3, .slice y4 y5 y6]) (yj3 d v r) := T4.imp (fun q _ hq e => by simp [Value.ownBlock] at e; omega)
       go_wp2_with (at_builtin; refine wpList_append_own_at _ rfl _ _ 30 rfl (w.heap.size + 1) 61 i0 _ 3 56 Tryz.underlying30 hi hz0 hz1 hz2 rfl (by decide) _ r xs rfl (O4.own.alloc _) ⟨wr.heap.size, 0, none⟩ 1 1 [.bool (qn (yj3 d v r)), .slice y1 y2 y3, .slice y4 y5 y6] rfl rfl (new3 _ _ _ _ _) (one3 _ _ _ _ _ _ _) (by unfold maxLen; omega) (by omega) (by simp; omega) ?_)
       intro v' w6 hown hgrow _ hat; have hown' := hown; obtain ⟨_, ⟨_, hbad⟩ | ⟨g', cap', cur, rfl, -⟩⟩ := hown'
       . omega
       have zz : (wr.alloc (.cells #[.bool (qn (yj3 d v r)), .slice y1 y2 y3, .slice y4 y5 y6] 61)).heap.size = wr.heap.size + 1 := by simp
       have sW := sal wr (.cells #[.bool (qn (yj3 d v r)), .slice y1 y2 y3, .slice y4 y5 y6] 61); have O6 := OutL.snoc (Q := yj3 d v) O4 sW (by omega) hgrow hown (by rw [zz]; exact hat) R4; have S6 := (S4.trans (sM sW S4.size)).grown hgrow (by have := S4.size; omega) (fun q hq => by have := (O4.own.lt q hq).1; omega); have z6 := hgrow.size; have zr := u4.size; have B4 := B.keep u4; have B6 : Box4 w6 w.heap.size _ _ _ _ := B4.ofBlock ((hgrow.block w.heap.size (by have := B4.lt; omega) (fun e => by have := (O4.own.lt _ e.symm).1; omega)).trans (sW.block _ B4.lt)); clear l0 l1 l2 qc1; go_wp2; go_roundw
       case rel => exact ⟨r + 1, by omega, by go_num, S6, by omega, B6, g', cap', _, rfl, O6⟩
       case measure => simp [intOf]; omega
  . have e : r = R := by omega
    subst e; obtain ⟨a, b, c, e, Q⟩ := O.qs; simp only [Value.slice.injEq, true_and] at e; obtain ⟨rfl, rfl⟩ := e; go_wp2; go_ret; exact ⟨_, b, cap, rfl, Q, s⟩
def qO (A : Nat -> AffD) (x : Nat -> Rat) : Nat -> Nat -> Rat
 | 0 => x
 | k + 1 => qLay A x k
def nO (A : Nat -> AffD) (nx : Nat) : Nat -> Nat
 | 0 => nx
 | k + 1 => (A k).rows.toNat
theorem net_qB {A : Nat -> AffD} {n : Nat} (P : NetP n A) (l : ∀ k, k < n -> (A k).lim) (hz : szA A n <= 1048576) {k : Nat} (hk : k < n) : ∀ i, i < (A k).nb -> Qb ((A k).B i).q 1048577 := fun i hi => by
 obtain ⟨h1, h2⟩ := q_small ((P.vals k hk).2 i hi) ((l k hk).B i hi); have h3 := szR_at (R := (A k).B) hi; have h4 := szA_at (A := A) hk; unfold AffD.size at h4; exact qb_of h1 h2 (by omega) (by omega)
theorem l3Before_any (a ax : Option Addr) (lo b off n cap bx ox nx cx : Nat) (A : Nat -> AffD) (x : Nat -> Rat) (w : World) (P : NetP n A) (H : Affs w lo a b off n A) (HX : xx8 w (fun _ => True) ax bx ox nx x) (hnx : nx = (A 0).cols.toNat)
 (RB : ∀ k, k < n -> RowB (A k) (qIn A x k)) (QB : ∀ k, k < n -> ∀ i, i < (A k).nb -> Qb ((A k).B i).q 1048577) :
 Calls Tryz.prog 79 #[.agg #[.slice a n cap], .slice ax nx cx, .int .i64 ((n - 1 : Nat) : Int)] w fun e w' => ∃ a' b' o' cap', e = .returned (.slice a' (A (n - 1)).rows.toNat cap') /\ xx8 w' (fun _ => True) a' b' o' (A (n - 1)).rows.toNat (qLay A x (n - 1)) /\ w.Since w.heap.size w' := by
 have sA := sal w (.cells #[.slice a n cap] 24); have bA := Box1.new w (.slice a n cap) 24; have n0 := P.n0; have n1 := P.n1; have NP := hide P; have HRB := hide RB; have HQB := hide QB; have HNX := hide hnx; clear P RB QB hnx; go_enter Tryz.func79, Tryz.ntmps79; go_wp2_with fail; generalize w.alloc (.cells #[.slice a n cap] 24) = wA at *
 go_loopw [7, 8] (fun u i wr => ∃ k : Nat, k <= n /\ i = .int .i64 k /\ wA.Since wA.heap.size wr /\ ∃ av bv ov nv cv, u = .slice av nv cv /\ nv = nO A nx k /\ xx8 wr (fun _ => True) av bv ov nv (qO A x k)) (fun _ i _ => n - (intOf i).toNat)
 case atStart => exact ⟨0, Nat.zero_le _, rfl, World.Since.refl _ _, ax, bx, ox, nx, cx, rfl, rfl, HX.keep sA⟩
 case round =>
  obtain ⟨k, hk, rfl, s, av, bv, ov, nv, cv, rfl, hnv, Q⟩ := hrel; have S1 := sA.trans (sM s sA.size)
  by_cases hlt : k < n
  . have hz : (k : Int) <= ((n - 1 : Nat) : Int) := by omega
    have hz2 : (k : Int) < (n : Int) := by omega
    obtain ⟨rfl, a1, a2, k1, k2, M⟩ := H k hlt
    rcases Nat.eq_zero_or_pos k with h00 | hpos
    . subst h00
      have hg : ¬ (0 : Int) < ((0 : Nat) : Int) := by omega
      have M' := M.keep S1; have g0 := M'.c0; have g1 := M'.c1; have g2 := M'.c2; have g3 := M'.c3; simp only [Nat.zero_mul, Nat.add_zero] at g0 g1 g2 g3; have b0 := (bA.keep s).c0; have HNV := hide (show nv = (A 0).cols.toNat by rw [hnv]; exact HNX.out); clear hnv; go_wp2_with fail; rw [HNV.out]; refine (l3Apply_any (A 0) lo a1 a2 k1 k2 av bv ov cv x wr (NP.out.shape 0 (by omega)) (NP.out.vals 0 (by omega)) M'.L (by rw [<- HNV.out]; exact Q) (HRB.out 0 (by omega)) (HQB.out 0 (by omega))).mono ?_; rintro e w3 ⟨a4, b4, c4, rfl, Q4, s4⟩; go_wp2; go_roundw
      case rel => exact ⟨0 + 1, by omega, rfl, s.trans (sM s4 s.size), a4, b4, 0, (A 0).rows.toNat, c4, rfl, rfl, Q4⟩
      case measure => simp [intOf]; omega
    . obtain ⟨p, rfl⟩ : ∃ p, k = p + 1 := ⟨k - 1, by omega⟩
      have hg : (0 : Int) < ((p + 1 : Nat) : Int) := by omega
      have hch := NP.out.chain (p + 1) hlt (by omega); rw [Nat.add_sub_cancel] at hch; have HNV := hide (show nv = (A (p + 1)).cols.toNat by rw [hnv, hch]; rfl); have HNR := hide (show nv = (A p).rows.toNat from hnv); have hsh := (NP.out.shape p (by omega)).1; have hnb : nv <= 20000 := by rw [hnv]; show (A p).rows.toNat <= 20000; have := hsh.2.1; omega
      clear hnv hch hsh
      have hqq : ∀ i, i < nv -> Qb (qO A x (p + 1) i) 1048577 := fun i hi => by
       show Qb (qLay A x p i) 1048577
       rw [qLay_eq]; exact (HRB.out p (by omega)).s i (by rw [<- HNR.out]; exact hi) _ (Nat.le_refl _)
      have J1 := l3Relu_any av bv ov nv cv (qO A x (p + 1)) wr (by omega) Q hqq; clear hqq; go_wp2_with fail; refine J1.mono ?_; rintro e w2 ⟨a3, b3, c3, rfl, Q3, s3⟩; have s2 := s.trans (sM s3 s.size); have S2 := sA.trans (sM s2 sA.size); have M' := M.keep S2; have g0 := M'.c0; have g1 := M'.c1; have g2 := M'.c2; have g3 := M'.c3; have b0 := (bA.keep s2).c0; clear J1; go_wp2_with fail; rw [HNV.out]; refine (l3Apply_any (A (p + 1)) lo a1 a2 k1 k2 a3 b3 0 c3 (fun i => xk1 (qLay A x p i)) w2 (NP.out.shape (p + 1) hlt) (NP.out.vals (p + 1) hlt) M'.L (by rw [<- HNV.out]; exact Q3) (HRB.out (p + 1) hlt) (HQB.out (p + 1) hlt)).mono ?_; rintro e w3 ⟨a4, b4, c4, rfl, Q4, s4⟩; go_wp2; go_roundw
      case rel => exact ⟨p + 1 + 1, by omega, by go_num, s2.trans (sM s4 s2.size), a4, b4, 0, (A (p + 1)).rows.toNat, c4, rfl, rfl, Q4⟩
      case measure => simp [intOf]; omega
  . have e : k = n := by omega
    obtain ⟨p, rfl⟩ : ∃ p, n = p + 1 := ⟨n - 1, by omega⟩; subst e; have hz : ¬ ((p + 1 : Nat) : Int) <= (p : Int) := by omega
    have HNR := hide (show nv = (A p).rows.toNat from hnv); clear hnv; simp only [Nat.add_sub_cancel] at *; go_wp2; go_ret; refine ⟨av, ⟨cv, ?_⟩, ⟨bv, ov, ?_⟩, S1⟩
    . show Ending.returned (.slice av nv cv) = _
      rw [HNR.out]
    . rw [<- HNR.out]; exact Q
theorem specEvalNet_no (a ax : Option Addr) (lo b off n cap lox bx ox nx cx : Nat) (A : Nat -> AffD) (X : Nat -> RatD) (w : World) (hz : n + szA A n + (nx + szR X nx) <= 1048576) (H : Affs w lo a b off n A) (HX : Rats w lox ax bx ox nx X) (hno : ¬ EvP n A nx X) :
 Calls Tryz.prog 43 #[.agg #[.slice a n cap], .slice ax nx cx] w fun e w' => ∃ c, e = .returned (.tuple #[.slice (some c) 0 0, .bool false]) /\ w.Since w.heap.size w' := by
 have sA := sal w (.cells #[.slice a n cap] 24); have bA := Box1.new w (.slice a n cap) 24; go_enter Tryz.func43, Tryz.ntmps43; go_wp2_with fail; generalize w.alloc (.cells #[.slice a n cap] 24) = wA at *; refine (yv0 a lo b off n cap A wA (by omega) (by omega) (H.keep sA)).mono ?_; rintro e w1 ⟨r1, rfl, i1, s1⟩; have I1 := hide i1; have S1 := sA.trans (sM s1 sA.size); have B1 := bA.keep s1; have b0 := B1.c0; clear i1; cases r1
 . go_wp2
   go_ret2; exact ⟨_, rfl, S1.alloc S1.size _⟩
 have NP := hide (I1.out.1 (by simp)); have n0 := NP.out.n0; obtain ⟨rfl, a1, a2, k1, k2, M⟩ := H 0 (by omega); have g1 := (M.keep S1).c1; have hz0 : (0 : Int) < (n : Int) := by omega
 simp only [Nat.zero_mul, Nat.add_zero] at g1
 by_cases hl : (nx : Int) = (A 0).cols
 rotate_left
 . have q : ((nx : Int) != (A 0).cols) = true := by simpa using hl
   clear hl I1; go_wp2; go_ret2; exact ⟨_, rfl, S1.alloc S1.size _⟩
 have q : ((nx : Int) != (A 0).cols) = false := by simpa using hl
 have HL := hide hl; have HN := hide hno; clear hl I1 hno; go_wp2_with fail; refine (yv7 ax lox bx ox nx cx X w1 (by omega) (by omega) (HX.keep S1)).mono ?_; rintro e w2 ⟨r2, rfl, i2, s2⟩; have I2 := hide i2; have S2 := S1.trans (sM s2 S1.size); clear i2; cases r2
 . go_wp2
   go_ret2; exact ⟨_, rfl, S2.alloc S2.size _⟩
 exact absurd ⟨NP.out, HL.out, I2.out.1 (by simp)⟩ HN.out
theorem specEvalNet_ok (a ax : Option Addr) (lo b off n cap lox bx ox nx cx : Nat) (A : Nat -> AffD) (X : Nat -> RatD) (w : World) (hz : n + szA A n + (nx + szR X nx) <= 1048576) (H : Affs w lo a b off n A) (HX : Rats w lox ax bx ox nx X) (hev : EvP n A nx X) :
 Calls Tryz.prog 43 #[.agg #[.slice a n cap], .slice ax nx cx] w fun e w' => ∃ a' b' o' cap', e = .returned (.tuple #[.slice a' (A (n - 1)).rows.toNat cap', .bool true]) /\ xx8 w' (fun _ => True) a' b' o' (A (n - 1)).rows.toNat (qLay A (fun i => (X i).q) (n - 1)) /\ w.Since w.heap.size w' := by
 have sA := sal w (.cells #[.slice a n cap] 24); have bA := Box1.new w (.slice a n cap) 24; obtain ⟨NP0, hl, hok⟩ := hev; have NP := hide NP0; have n0 := NP0.n0; have lims := H.aff; have hC0 : nx = (A 0).cols.toNat := by omega
 have RB : ∀ k, k < n -> RowB (A k) (qIn A (fun i => (X i).q) k) := fun k hk => net_rowB NP0 lims (by rw [<- hC0]; exact hok) (by rw [<- hC0]; exact HX.lim) (by rw [<- hC0]; omega) hk
 have HRB := hide RB; have HQB := hide (fun k (hk : k < n) => net_qB NP0 lims (by omega) hk); have QX := (HX.qs hok).imp (p' := fun _ => True) (fun _ _ _ => trivial); have HC0 := hide hC0; have HOK := hide hok; have q : ((nx : Int) != (A 0).cols) = false := by simpa using hl
 clear hl hok RB NP0 hC0 lims; go_enter Tryz.func43, Tryz.ntmps43; go_wp2_with fail; generalize w.alloc (.cells #[.slice a n cap] 24) = wA at *; refine (yv0 a lo b off n cap A wA (by omega) (by omega) (H.keep sA)).mono ?_; rintro e w1 ⟨r1, rfl, i1, s1⟩; obtain rfl : r1 = true := i1.2 NP.out; have S1 := sA.trans (sM s1 sA.size); have B1 := bA.keep s1; have b0 := B1.c0; clear i1 bA; obtain ⟨rfl, a1, a2, k1, k2, M⟩ := H 0 (by omega); have g1 := (M.keep S1).c1; have hz0 : (0 : Int) < (n : Int) := by omega
 simp only [Nat.zero_mul, Nat.add_zero] at g1; go_wp2_with fail; refine (yv7 ax lox bx ox nx cx X w1 (by omega) (by omega) (HX.keep S1)).mono ?_; rintro e w2 ⟨r2, rfl, i2, s2⟩; obtain rfl : r2 = true := i2.2 HOK.out; have S2 := S1.trans (sM s2 S1.size); have b0' := (B1.keep s2).c0; have hn1 : (n : Int) - 1 = ((n - 1 : Nat) : Int) := by omega
 clear i2 b0 g1 q; go_wp2_with fail; refine (l3Before_any _ ax lo b off n cap bx ox nx cx A (fun i => (X i).q) w2 NP.out (H.keep S2) (QX.keep S2) HC0.out HRB.out HQB.out).mono ?_; rintro e w3 ⟨a', b', o', cap', rfl, Q, s3⟩; go_wp2; go_ret2; exact ⟨a', b', o', cap', rfl, Q, S2.trans (sM s3 S2.size)⟩
end Go.Proofs.YtnogbaapcjjngaaGreatDoor
