import Derived.Test.YthaomfabdghfjaaGreatOwnP24
import Derived.Laws.OwnMore
import Derived.Test.YthaomfabdghfjaaGreatOwnP25
import Derived.Test.YthaomfabdghfjaaGreatOwnP2
import Derived.Deep.AppendLies
import Derived.Test.YthaomfabdghfjaaGreatOwnP22
import Derived.Test.YthaomfabdghfjaaGreatOwnP19
set_option maxHeartbeats 6400000
set_option maxRecDepth 100000
namespace Go.Proofs.YthaomfabdghfjaaGreat
open Go.RowKit
theorem l2CopyAll_q (ax : Option Addr) (bx ox n cx : Nat) (v : Nat -> Rat) (w : World) (hn : n <= 1048576) (HX : xj5 w (fun _ => True) ax bx ox n v) (hq : ∀ i, i < n -> Qb (v i) 1048640) :
 Calls Tryz.prog 58 #[.slice ax n cx] w fun e w' => ∃ a b cap, e = .returned (.slice a n cap) /\ xj5 w' (fun _ => True) a b 0 n (fun i => v i) /\ w.Since w.heap.size w' := by
 obtain ⟨i0, hi, hz0, hz1, hz2⟩ := infoRat; have sA := sal w (.cells #[] 70); have oA : OutL (w.alloc (.cells #[] 70)) w.heap.size (.slice (some ⟨w.heap.size, 0, none⟩) 0 0) 0 (fun i => v i) [] := ⟨World.ownsRow_made w #[] 0 (Nat.le_refl _) (Nat.zero_le _) rfl, fun i hi => absurd hi (by omega)⟩; go_enter Tryz.func58, Tryz.ntmps58; go_wp2
 go_loopw [3, 4] (fun u i wr => ∃ k : Nat, k <= n /\ i = .int .i64 k /\ w.Since w.heap.size wr /\ w.heap.size < wr.heap.size /\ ∃ g cap xs, u = .slice (some ⟨g, 0, none⟩) k cap /\ OutL wr w.heap.size (.slice (some ⟨g, 0, none⟩) k cap) k (fun i => v i) xs) (fun _ i _ => n - (intOf i).toNat)
 case atStart => exact ⟨0, Nat.zero_le _, rfl, sA, by simp, w.heap.size, 0, [], rfl, oA⟩
 case round =>
  obtain ⟨k, hk, rfl, s, hsz, g, cap, xs, rfl, O⟩ := hrel
  by_cases hlt : k < n
  . obtain ⟨rfl, x, y, M⟩ := HX k hlt
    have HR := M.R.read; obtain ⟨a6, n6, c6, b6, m6, d6, -, -, -, -, -, -, e6, -⟩ := M.R; simp only [Value.agg.injEq, Array.mk.injEq, List.cons.injEq, and_true, true_and] at e6; obtain ⟨rfl, rfl⟩ := e6; have M' := M.keep s; have g0 := M'.c0; have g1 := M'.c1; have g2 := M'.c2; have hz : (k : Int) < (n : Int) := by omega
    have bl := M.lt; have gl := O.own.lt g rfl; have J1 := l1Copy_q (hq k hlt) (by omega) (HR.keep s); go_wp2_with fail; refine J1.mono ?_; rintro e w5 ⟨u5, rfl, RP5, s5⟩; have RQ5 := RP5; obtain ⟨a8, n8, c8, b8, m8, d8, -, -, -, -, -, -, e8, -⟩ := RQ5; subst e8; have S5 := s.trans (sM s5 s.size); have O5 := O.keep s5; have zw5 := s5.size; have R5 : xz4 w5 (fun q => (Value.slice (some ⟨g, 0, none⟩) k cap).ownBlock ≠ some q) (.agg #[.bool (qn (v k)), .slice a8 n8 c8, .slice b8 m8 d8]) (v k) := RP5.imp (fun q _ hq e => by simp [Value.ownBlock] at e; have hq' : wr.heap.size <= q := hq; omega)
    go_wp2_with (at_builtin; refine wpList_append_own_at _ rfl _ _ 28 rfl w.heap.size 70 i0 _ 3 56 Tryz.underlying28 hi hz0 hz1 hz2 rfl (by decide) _ k xs rfl (O5.own.alloc _) ⟨w5.heap.size, 0, none⟩ 1 1 [.bool (qn (v k)), .slice a8 n8 c8, .slice b8 m8 d8] rfl rfl (new3 _ _ _ _ _) (one3 _ _ _ _ _ _ _) (by unfold maxLen; omega) (by omega) (by simp; omega) ?_)
    intro v' w6 hown hgrow _ hat; have hown' := hown; obtain ⟨_, ⟨_, hbad⟩ | ⟨g', cap', cur, rfl, -⟩⟩ := hown'
    . omega
    have zz : (w5.alloc (.cells #[.bool (qn (v k)), .slice a8 n8 c8, .slice b8 m8 d8] 70)).heap.size = w5.heap.size + 1 := by simp
    have sW := sal w5 (.cells #[.bool (qn (v k)), .slice a8 n8 c8, .slice b8 m8 d8] 70); have O6 := OutL.snoc (Q := fun i => v i) O5 sW (by omega) hgrow hown (by rw [zz]; exact hat) R5; have S6 := (S5.trans (sM sW S5.size)).grown hgrow (by omega) (fun q hq => (O5.own.lt q hq).1); have z6 := hgrow.size; clear g0 g1 g2; go_wp2; go_roundw
    case rel => exact ⟨k + 1, by omega, by go_num, S6, by omega, g', cap', _, rfl, O6⟩
    case measure => simp [intOf]; omega
  . have e : k = n := by omega
    subst e; obtain ⟨a, b, c, e, Q⟩ := O.qs; simp only [Value.slice.injEq, true_and] at e; obtain ⟨rfl, rfl⟩ := e; go_wp2; go_ret; exact ⟨_, b, cap, rfl, Q, s⟩
structure OutG (w : World) (lo base : Nat) (v : Value) (k : Nat) (Q : Nat -> Rat) (xs : List Value) : Prop where
 own : w.ownsRow base 70 3 v k xs
 at_ : ∀ i, i < k -> ∃ x y, xs[i * 3]? = some (.bool (qn (Q i))) /\ xs[i * 3 + 1]? = some x /\ xs[i * 3 + 2]? = some y /\ xz4 w (fun g => lo <= g /\ v.ownBlock ≠ some g) (.agg #[.bool (qn (Q i)), x, y]) (Q i)
theorem OutG.keep {w w' : World} {lo base k : Nat} {v : Value} {Q : Nat -> Rat} {xs : List Value} (h : OutG w lo base v k Q xs) (s : w.Since w.heap.size w') : OutG w' lo base v k Q xs := by
 refine ⟨h.own.kept (row := none) ⟨s.os, s.tape, s.output, s.size, fun k hk _ => s.block k hk⟩ (Classical.em _), fun i hi => ?_⟩; obtain ⟨x, y, h1, h2, h3, h4⟩ := h.at_ i hi; exact ⟨x, y, h1, h2, h3, h4.keep s⟩
theorem OutG.snoc {w w1 w' : World} {lo base k : Nat} {v v' : Value} {Q : Nat -> Rat} {xs : List Value} {x y : Value} (h : OutG w lo base v k Q xs) (s1 : w.Since w.heap.size w1) (hs : w.heap.size < w1.heap.size) (g : w1.grownBy w' v.ownBlock) (own : w'.ownsRow base 70 3 v' (k + 1) (xs ++ [.bool (qn (Q k)), x, y]))
 (hat : v'.ownBlock = v.ownBlock ∨ v'.ownBlock = some w1.heap.size) (R : xz4 w (fun g => lo <= g /\ v.ownBlock ≠ some g) (.agg #[.bool (qn (Q k)), x, y]) (Q k)) : OutG w' lo base v' (k + 1) Q (xs ++ [.bool (qn (Q k)), x, y]) := by
 have hl : xs.length = k * 3 := h.own.1
 have mv : ∀ {u : Value} {q : Rat}, xz4 w (fun g => lo <= g /\ v.ownBlock ≠ some g) u q -> xz4 w' (fun g => lo <= g /\ v'.ownBlock ≠ some g) u q := fun {u q} r => by
  have r2 : xz4 w (fun g => v.ownBlock ≠ some g /\ (lo <= g /\ v'.ownBlock ≠ some g)) u q := r.imp (fun j hj hp => ⟨hp.2, hp.1, fun e => by
   rcases hat with h | h
   . exact hp.2 (h.symm.trans e)
   . rw [e] at h; simp at h; omega⟩)
  have r3 : xz4 w' (fun g => v.ownBlock ≠ some g /\ (lo <= g /\ v'.ownBlock ≠ some g)) u q := r2.blocks (fun j hj hp => (g.block j (by omega) (fun e => hp.1 e.symm)).trans (s1.block j hj)); exact r3.imp (fun _ _ hp => hp.2)
 refine ⟨own, fun i hi => ?_⟩
 by_cases e : i = k
 . subst e
   refine ⟨x, y, ?_, ?_, ?_, mv R⟩
   . rw [List.getElem?_append_right (by omega), hl]; simp
   . rw [List.getElem?_append_right (by omega), hl]; simp
   . rw [List.getElem?_append_right (by omega), hl]; simp
 . obtain ⟨x', y', h1, h2, h3, h4⟩ := h.at_ i (by omega)
   exact ⟨x', y', by rw [List.getElem?_append_left (by omega)]; exact h1, by rw [List.getElem?_append_left (by omega)]; exact h2, by rw [List.getElem?_append_left (by omega)]; exact h3, mv h4⟩
theorem OutG.qs {w : World} {lo base k g cap : Nat} {Q : Nat -> Rat} {xs : List Value} (h : OutG w lo base (.slice (some ⟨g, 0, none⟩) k cap) k Q xs) : xj5 w (fun g => lo <= g) (some ⟨g, 0, none⟩) g 0 k Q /\ base <= g /\ k <= cap := by
 have hc := @World.ownsRow.cells _ _ _ _ _ _ _ h.own; have hat := h.at_; refine ⟨fun i hi => ⟨rfl, ?_⟩, (h.own.lt g rfl).1, ?_⟩
 . obtain ⟨x, y, h1, h2, h3, h4⟩ := hat i hi
   have e1 := hc (g := g) rfl _ _ h1; have e2 := hc (g := g) rfl _ _ h2; have e3 := hc (g := g) rfl _ _ h3; rw [Go.WideShapes.add_plain] at e1 e2 e3; exact ⟨x, y, e1, by rw [Nat.add_assoc]; exact e2, by rw [Nat.add_assoc]; exact e3, h4.imp (fun _ _ h => h.1)⟩
 . obtain ⟨_, ⟨e, _⟩ | ⟨g', cap', cur, e, hg, hb, hn, _⟩⟩ := h.own
   . simp at e
   . simp only [Value.slice.injEq] at e
     obtain ⟨_, _, rfl⟩ := e
     assumption
theorem l2Vector_q (d : xq1) (n m : Nat) (h : yv5 d n m) (hm : m <= 1048576) (hn : n <= 1000) (hnv : d.nv <= 1002000) (aV : Option Addr) (bV oV k1 : Nat) (ax az : Option Addr) (bx ox cx lz cz bz oz : Nat) (X Z : Nat -> Rat) (w : World)
 (HV : xj5 w (fun _ => True) aV bV oV d.nv d.w) (qw : ∀ i, i < d.nv -> Qb (d.w i) 1048640) (HX : xj5 w (fun _ => True) ax bx ox n X) (qx : ∀ i, i < n -> Qb (X i) 1048640) (HZ : d.op = 4 -> xj5 w (fun _ => True) az bz oz lz Z /\ m <= lz /\ ∀ i, i < lz -> Qb (Z i) 1048640)
 (q1 : d.op = 1 -> ∀ e, e < m -> ∀ k, k <= n -> Qb (psum 0 (fun t => d.w (e * (n + 1) + t)) X k) 1048640) (q6 : d.op = 6 -> ∀ e, e < m -> ∀ k, k <= d.k.toNat -> Qb (psum 0 d.w (fun t => X (e * d.s.toNat + t)) k) 1048640) :
 Calls Tryz.prog 57 #[.agg #[.int .i64 d.op, .int .i64 d.a, .int .i64 d.b, .int .i64 d.k, .int .i64 d.s, .slice aV d.nv k1], .slice ax n cx, .slice az lz cz, .int .i64 (m : Int)] w fun r w' => ∃ b cap, r = .returned (.slice (some ⟨b, 0, none⟩) m cap) /\ m <= cap /\ w.heap.size <= b /\ xj5 w' (fun g => w.heap.size <= g) (some ⟨b, 0, none⟩) b 0 m (vecN d X Z n) /\ w.Since w.heap.size w' := by
 obtain ⟨i0, hi, hz0, hz1, hz2⟩ := infoRat; have sA : w.Since w.heap.size ((w.alloc (.cells #[.int .i64 d.op, .int .i64 d.a, .int .i64 d.b, .int .i64 d.k, .int .i64 d.s, .slice aV d.nv k1] 84)).alloc (.cells #[] 70)) := ((World.Since.refl _ _).alloc (Nat.le_refl _) _).alloc (by simp) _; have zA : ((w.alloc (.cells #[.int .i64 d.op, .int .i64 d.a, .int .i64 d.b, .int .i64 d.k, .int .i64 d.s, .slice aV d.nv k1] 84)).alloc (.cells #[] 70)).heap.size = w.heap.size + 1 + 1 := by simp
 have nA : Box6 ((w.alloc (.cells #[.int .i64 d.op, .int .i64 d.a, .int .i64 d.b, .int .i64 d.k, .int .i64 d.s, .slice aV d.nv k1] 84)).alloc (.cells #[] 70)) w.heap.size (.int .i64 d.op) (.int .i64 d.a) (.int .i64 d.b) (.int .i64 d.k) (.int .i64 d.s) (.slice aV d.nv k1) := (Box6.new w _ _ _ _ _ _ _).keep ((World.Since.refl _ _).alloc (Nat.le_refl _) _)
 have oA : OutG ((w.alloc (.cells #[.int .i64 d.op, .int .i64 d.a, .int .i64 d.b, .int .i64 d.k, .int .i64 d.s, .slice aV d.nv k1] 84)).alloc (.cells #[] 70)) w.heap.size (w.heap.size + 1) (.slice (some ⟨w.heap.size + 1, 0, none⟩) 0 0) 0 (fun i => vecN d X Z n i) [] := by
  have := World.ownsRow_made (base := w.heap.size + 1) (e := 70) (size := 3) (w.alloc (.cells #[.int .i64 d.op, .int .i64 d.a, .int .i64 d.b, .int .i64 d.k, .int .i64 d.s, .slice aV d.nv k1] 84)) #[] 0 (by simp) (Nat.zero_le _) rfl; exact ⟨by simpa using this, fun i hi => absurd hi (by omega)⟩
 go_enter Tryz.func57, Tryz.ntmps57; go_wp2_with fail; generalize (w.alloc (.cells #[.int .i64 d.op, .int .i64 d.a, .int .i64 d.b, .int .i64 d.k, .int .i64 d.s, .slice aV d.nv k1] 84)).alloc (.cells #[] 70) = wA at *
 go_loopw [9, 10] (fun u i wr => ∃ k : Nat, k <= m /\ i = .int .i64 k /\ wA.Since (w.heap.size + 1) wr /\ w.heap.size + 1 < wr.heap.size /\ ∃ g cap xs, u = .slice (some ⟨g, 0, none⟩) k cap /\ OutG wr w.heap.size (w.heap.size + 1) (.slice (some ⟨g, 0, none⟩) k cap) k (fun i => vecN d X Z n i) xs) (fun _ i _ => m - (intOf i).toNat)
 case atStart => exact ⟨0, Nat.zero_le _, rfl, World.Since.refl _ _, by omega, w.heap.size + 1, 0, [], rfl, oA⟩
 case round =>
  obtain ⟨k, hk, rfl, T, hsz, g, cap, xs, rfl, O⟩ := hrel; have s := sA.trans (sM T (by omega))
  by_cases hlt : k < m
  . have nB := nA.since T (by omega)
    have p0 := nB.c0; have p1 := nB.c1; have p2 := nB.c2; have p3 := nB.c3; have p4 := nB.c4; have p5 := nB.c5; have hz : (k : Int) < (m : Int) := by omega
    have gl := O.own.lt g rfl; have J1 := l2Element_q d n m k h hlt hn hnv aV bV oV k1 ax az bx ox cx lz cz bz oz X Z wr (HV.keep s) qw (HX.keep s) qx (fun ho => ⟨(HZ ho).1.keep s, (HZ ho).2⟩) (fun ho => q1 ho k hlt) (fun ho => q6 ho k hlt); go_wp2_with fail; refine J1.mono ?_; rintro e w5 ⟨u5, rfl, RP5, s5⟩; have RQ5 := RP5; obtain ⟨a8, n8, c8, b8, m8, d8, -, -, -, -, -, -, e8, -⟩ := RQ5; subst e8; have zw5 := s5.size; have T5 : wA.Since (w.heap.size + 1) w5 := T.trans (sM s5 (by omega)); have O5 := O.keep s5; have R5 : xz4 w5 (fun q => w.heap.size <= q /\ (Value.slice (some ⟨g, 0, none⟩) k cap).ownBlock ≠ some q) (.agg #[.bool (qn (vecN d X Z n k)), .slice a8 n8 c8, .slice b8 m8 d8]) (vecN d X Z n k) := RP5.imp (fun q _ hq => by have hq' : wr.heap.size <= q := hq; exact ⟨by omega, fun e => by simp [Value.ownBlock] at e; omega⟩); generalize hQ : vecN d X Z n k = qk at *
    go_wp2_with (at_builtin; refine wpList_append_own_at _ rfl _ _ 28 rfl (w.heap.size + 1) 70 i0 _ 3 56 Tryz.underlying28 hi hz0 hz1 hz2 rfl (by decide) _ k xs rfl (O5.own.alloc _) ⟨w5.heap.size, 0, none⟩ 1 1 [.bool (qn qk), .slice a8 n8 c8, .slice b8 m8 d8] rfl rfl (new3 _ _ _ _ _) (one3 _ _ _ _ _ _ _) (by unfold maxLen; omega) (by omega) (by simp; omega) ?_)
    intro v' w6 hown hgrow _ hat; have hown' := hown; obtain ⟨_, ⟨_, hbad⟩ | ⟨g', cap', cur, rfl, -⟩⟩ := hown'
    . omega
    have zz : (w5.alloc (.cells #[.bool (qn qk), .slice a8 n8 c8, .slice b8 m8 d8] 70)).heap.size = w5.heap.size + 1 := by simp
    have sW := sal w5 (.cells #[.bool (qn qk), .slice a8 n8 c8, .slice b8 m8 d8] 70); subst hQ; have O6 := OutG.snoc (Q := fun i => vecN d X Z n i) O5 sW (by omega) hgrow hown (by rw [zz]; exact hat) R5; have S6 : wA.Since (w.heap.size + 1) w6 := (T5.trans (sM sW (by omega))).grown hgrow (by omega) (fun q hq => (O5.own.lt q hq).1); have z6 := hgrow.size; clear p0 p1 p2 p3 p4 p5; go_wp2; go_roundw
    case rel => exact ⟨k + 1, by omega, by go_num, S6, by omega, g', cap', _, rfl, O6⟩
    case measure => simp [intOf]; omega
  . have e : k = m := by omega
    subst e; obtain ⟨Q, hb, hc⟩ := O.qs; go_wp2; go_ret; exact ⟨g, cap, rfl, hc, by omega, Q, s⟩
def yw9 (e : Ending) (w : World) (lo : Nat) (g : xq8) : Prop := ∃ n X c a ad cap b, e = .returned (.tuple #[.slice ad n cap, .int .i64 c, .int .i64 a]) /\ Outc g n X c a /\ Ints w ad b 0 n X /\ (0 < n -> lo <= b /\ b < w.heap.size /\ ∀ o, w.frozen? ⟨b, o, none⟩ = false)
theorem yw9.none {w : World} {lo : Nat} {g : xq8} {c a : Int} {ad : Option Addr} {cap : Nat} (h : Outc g 0 (fun _ => 0) c a) : yw9 (.returned (.tuple #[.slice ad 0 cap, .int .i64 c, .int .i64 a])) w lo g :=
 ⟨0, fun _ => 0, c, a, ad, cap, 0, rfl, h, fun j hj => absurd hj (by omega), fun h => absurd h (by omega)⟩
theorem implCheckGraph_any (g : xq8) (aL aH aN : Option Addr) (lo kL kH kN : Nat) (w : World) (hw : 0 <= w.heap.size) (hT : Tab w) (hd : g.size <= 1048576) (H : GraL w lo g aL aH aN kL kH kN) :
 Calls Tryz.prog 20 #[.agg #[.int .i64 g.inn, .int .i64 g.rounds, .slice aL g.nl kL, .slice aH g.nh kH, .slice aN g.nn kN, .int .i64 g.out]] w fun e w' => yw9 e w' w.heap.size g /\ w.Since w.heap.size w' := by
 obtain ⟨i0, hi, hz0, hz1, hz2⟩ := infoInt; have ts := hd; unfold xq8.size at ts; have sA := sal w (.cells #[.int .i64 g.inn, .int .i64 g.rounds, .slice aL g.nl kL, .slice aH g.nh kH, .slice aN g.nn kN, .int .i64 g.out] 50); have zA : (w.alloc (.cells #[.int .i64 g.inn, .int .i64 g.rounds, .slice aL g.nl kL, .slice aH g.nh kH, .slice aN g.nn kN, .int .i64 g.out] 50)).heap.size = w.heap.size + 1 := by simp
 have bA := Box6.new w (.int .i64 g.inn) (.int .i64 g.rounds) (.slice aL g.nl kL) (.slice aH g.nh kH) (.slice aN g.nn kN) (.int .i64 g.out) 50; go_enter Tryz.func20, Tryz.ntmps20; go_wp2_with fail; generalize w.alloc (.cells #[.int .i64 g.inn, .int .i64 g.rounds, .slice aL g.nl kL, .slice aH g.nh kH, .slice aN g.nn kN, .int .i64 g.out] 50) = wA at *; refine (headFits_any g aL aH aN lo kL kH kN wA (Nat.zero_le _) (hT.stay hw sA) hd (H.keep sA)).mono ?_; rintro e w0 ⟨⟨r0, rfl, hr⟩, s0⟩; have S0 := sA.trans (sM s0 sA.size); have B0 := bA.keep s0; have z0 := s0.size; cases r0
 . have N := hide (show ¬ HeadP g from fun h => by have := hr.2 h; cases this)
   clear hr; go_wp2
   go_ret3
   exact ⟨yw9.none (.inl ⟨N.out, rfl, rfl, rfl⟩), S0⟩
 have P := hide (hr.1 rfl); clear hr; obtain ⟨bL, oL, -, LL⟩ := H.LL; obtain ⟨bH, oH, -, LH⟩ := H.LH; obtain ⟨bN, oN, -, LN⟩ := H.LN; have QL := LL.qs P.out.okL; have QH := LH.qs P.out.okH; have i1 := P.out.i1; have i2 := P.out.i2; have eL := P.out.l; have eH := P.out.h; obtain ⟨I, hI⟩ : ∃ I : Nat, g.inn = I := ⟨g.inn.toNat, by omega⟩; have nlI : g.nl = I := by omega
 have nhI : g.nh = I := by omega
 have HnlI := hide nlI; have HnhI := hide nhI; have HhI := hide hI; have qa0 := B0.c0; rw [HhI.out] at qa0; clear eL eH nlI nhI hI bA; go_wp2_with fail
 go_loopw [17] (fun i wr => ∃ k : Nat, k <= I /\ i = .int .i64 k /\ w.Since w.heap.size wr /\ w.heap.size < wr.heap.size /\ Box6 wr w.heap.size (.int .i64 g.inn) (.int .i64 g.rounds) (.slice aL g.nl kL) (.slice aH g.nh kH) (.slice aN g.nn kN) (.int .i64 g.out) /\ Hid (∀ j, j < k -> ¬ yq2 g j)) (fun i _ => I - (intOf i).toNat)
 case atStart => exact ⟨0, Nat.zero_le _, rfl, S0, by omega, B0, hide (fun j hj => absurd hj (by omega))⟩
 case round =>
  obtain ⟨k, hk, rfl, s, hsz, B, NB⟩ := hrel
  by_cases hlt : k < I
  . obtain ⟨eaL, xl, yl, CL⟩ := QL k (by rw [HnlI.out]; exact hlt)
    obtain ⟨eaH, xh, yh, CH⟩ := QH k (by rw [HnhI.out]; exact hlt); subst eaL eaH; have bl := ratD_qb (P.out.okL k (by rw [HnlI.out]; exact hlt)) (LL.lim k (by rw [HnlI.out]; exact hlt)) (by have := szR_at (R := g.Lo) (n := g.nl) (k := k) (by rw [HnlI.out]; exact hlt); omega); have bh := ratD_qb (P.out.okH k (by rw [HnhI.out]; exact hlt)) (LH.lim k (by rw [HnhI.out]; exact hlt)) (by have := szR_at (R := g.Hi) (n := g.nh) (k := k) (by rw [HnhI.out]; exact hlt); omega); obtain ⟨al, nl, cl, bbl, ml, dl, -, -, -, -, -, -, el, -⟩ := CL.R; obtain ⟨ah, nh, ch, bbh, mh, dh, -, -, -, -, -, -, eh, -⟩ := CH.R; simp only [Value.agg.injEq, Array.mk.injEq, List.cons.injEq, and_true, true_and] at el eh; obtain ⟨rfl, rfl⟩ := el; obtain ⟨rfl, rfl⟩ := eh; have dr := sdr wr; have S1 := s.trans (sM dr s.size); have J1 := orderOf_q bl bh (by omega) (CL.keep S1).R.read (CH.keep S1).R.read; obtain ⟨c, hc⟩ : ∃ c, qcmp (g.Lo k).q (g.Hi k).q = c := ⟨_, rfl⟩; rw [hc] at J1; have HC := hide hc; have C1 := CL.keep s; have C2 := CH.keep s; have q2 := B.c2; have q3 := B.c3; have g0 := C1.c0; have g1 := C1.c1; have g2 := C1.c2; have h0 := C2.c0; have h1 := C2.c1; have h2 := C2.c2; have hzI : (k : Int) < (I : Int) := by omega
    have hzl : (k : Int) < (g.nl : Int) := by rw [HnlI.out]; exact hzI
    have hzh : (k : Int) < (g.nh : Int) := by rw [HnhI.out]; exact hzI
    clear hc bl bh
    by_cases hb : 0 < c
    . have BB := hide (show yq2 g k by unfold yq2; rw [HC.out]; exact hb)
      go_wp2_with fail
      go_region_held3 (fun w' => w'.cell? ⟨w.heap.size, 2, none⟩ = some (.slice (some ⟨bL, oL, none⟩) g.nl kL) /\ w'.cell? ⟨w.heap.size, 3, none⟩ = some (.slice (some ⟨bH, oH, none⟩) g.nh kH) /\ w'.cell? ⟨bL, oL + k * 3, none⟩ = some (.bool (qn (g.Lo k).q)) /\ w'.cell? ⟨bL, oL + k * 3 + 1, none⟩ = some (.slice al nl cl) /\ w'.cell? ⟨bL, oL + k * 3 + 2, none⟩ = some (.slice bbl ml dl) /\
       w'.cell? ⟨bH, oH + k * 3, none⟩ = some (.bool (qn (g.Hi k).q)) /\ w'.cell? ⟨bH, oH + k * 3 + 1, none⟩ = some (.slice ah nh ch) /\ w'.cell? ⟨bH, oH + k * 3 + 2, none⟩ = some (.slice bbh mh dh)) (go_keep)
       (first
         | (go_at_call 52
            with_reducible refine J1.mono ?_
            rintro e w2 ⟨rfl, s2⟩; have u2 := dr.trans (sM s2 dr.size); have S2 := s.trans (sM u2 s.size); have B2 := B.keep u2; have j2 := B2.c2; have j3 := B2.c3; have k0 := (CL.keep S2).c0; have k1 := (CL.keep S2).c1; have k2 := (CL.keep S2).c2; have l0 := (CH.keep S2).c0; have l1 := (CH.keep S2).c1; have l2 := (CH.keep S2).c2))
      all_goals go_wp2
      all_goals go_ret3
      exact ⟨yw9.none (.inr (.inl ⟨P.out, k, by rw [HhI.out]; exact hzI, NB.out, BB.out, rfl, rfl, rfl⟩)), S2⟩
    . have BB := hide (show ¬ yq2 g k by unfold yq2; rw [HC.out]; exact hb)
      go_wp2_with fail
      go_region_held3 (fun w' => w'.cell? ⟨w.heap.size, 2, none⟩ = some (.slice (some ⟨bL, oL, none⟩) g.nl kL) /\ w'.cell? ⟨w.heap.size, 3, none⟩ = some (.slice (some ⟨bH, oH, none⟩) g.nh kH) /\ w'.cell? ⟨bL, oL + k * 3, none⟩ = some (.bool (qn (g.Lo k).q)) /\ w'.cell? ⟨bL, oL + k * 3 + 1, none⟩ = some (.slice al nl cl) /\ w'.cell? ⟨bL, oL + k * 3 + 2, none⟩ = some (.slice bbl ml dl) /\
       w'.cell? ⟨bH, oH + k * 3, none⟩ = some (.bool (qn (g.Hi k).q)) /\ w'.cell? ⟨bH, oH + k * 3 + 1, none⟩ = some (.slice ah nh ch) /\ w'.cell? ⟨bH, oH + k * 3 + 2, none⟩ = some (.slice bbh mh dh)) (go_keep)
       (first
         | (go_at_call 52
            with_reducible refine J1.mono ?_
            rintro e w2 ⟨rfl, s2⟩; have u2 := dr.trans (sM s2 dr.size); have S2 := s.trans (sM u2 s.size); have B2 := B.keep u2; have j2 := B2.c2; have j3 := B2.c3; have k0 := (CL.keep S2).c0; have k1 := (CL.keep S2).c1; have k2 := (CL.keep S2).c2; have l0 := (CH.keep S2).c0; have l1 := (CH.keep S2).c1; have l2 := (CH.keep S2).c2))
      all_goals go_wp2
      all_goals go_roundw
      case rel => exact ⟨k + 1, by omega, by go_num, S2, Nat.lt_of_lt_of_le hsz u2.size, B2, hide (fun j hj => by
       by_cases e : j = k
       . subst e; exact BB.out
       . exact NB.out j (by omega))⟩
      case measure => simp [intOf]; omega
  have e : k = I := by omega
  subst e; have BX := hide (show ∀ j : Nat, (j : Int) < g.inn -> ¬ yq2 g j from fun j hj => NB.out j (by rw [HhI.out] at hj; omega)); clear NB QL QH qa0; go_wp2_with fail; refine (allKinds_any wr).mono ?_; rintro e w1 ⟨rfl, K1, s1⟩; obtain ⟨m, hm⟩ : ∃ m, wr.heap.size = m := ⟨_, rfl⟩; rw [hm] at K1 ⊢; have HM := hide hm; clear hm; have S1 := s.trans (sM s1 s.size); have B1 := B.keep s1; have z1 := s1.size; have zK := K1.lt; have q0 := B1.c0; have q4 := B1.c4; have sB := sal w1 (.cells #[.int .i64 g.inn] 3)
  have O1 : IntL (w1.alloc (.cells #[.int .i64 g.inn] 3)) w1.heap.size (.slice (some ⟨w1.heap.size, 0, none⟩) 1 1) 1 (dimA g 0) [.int .i64 g.inn] := ⟨World.ownsRow_lit w1 #[.int .i64 g.inn] 1 (Nat.le_refl _) (by decide) rfl, fun i hi => by
   have : i = 0 := by omega
   subst this; rfl⟩
  have q4' := (B1.keep sB).c4; go_wp2_with fail; have z2 : (w1.alloc (.cells #[.int .i64 g.inn] 3)).heap.size = w1.heap.size + 1 := by simp
  have S2 := S1.trans (sM sB S1.size); have B2 := B1.keep sB; have K2 := K1.keep sB; generalize w1.alloc (.cells #[.int .i64 g.inn] 3) = w2 at *
  have hD0 := hide (show Dok (dimA g 0) 1 from fun j hj => by
   have : j = 0 := by omega
   subst this; exact ⟨i1, i2⟩)
  go_loopw [7, 41] (fun u i wr' => ∃ k : Nat, k <= g.nn /\ i = .int .i64 k /\ w.Since w.heap.size wr' /\ w1.heap.size < wr'.heap.size /\ Box6 wr' w.heap.size (.int .i64 g.inn) (.int .i64 g.rounds) (.slice aL g.nl kL) (.slice aH g.nh kH) (.slice aN g.nn kN) (.int .i64 g.out) /\ xk6 wr' m /\ Hid (∀ j, j < k -> nc g j = 0) /\ Hid (Dok (dimA g k) (k + 1)) /\ ∃ gd cap xs, u = .slice (some ⟨gd, 0, none⟩) (k + 1) cap /\ IntL wr' w1.heap.size (.slice (some ⟨gd, 0, none⟩) (k + 1) cap) (k + 1) (dimA g k) xs) (fun _ i _ => g.nn - (intOf i).toNat)
  case atStart => exact ⟨0, Nat.zero_le _, rfl, S2, by omega, B2, K2, hide (fun j hj => absurd hj (by omega)), hD0, w1.heap.size, 1, _, rfl, O1⟩
  case round =>
   obtain ⟨k, hk, rfl, s, hsz, B, K, NZ, HD, gd, cap, xs, rfl, O⟩ := hrel; have q5 := B.c5; have q4 := B.c4
   by_cases hlt : k < g.nn
   . obtain ⟨eaN, a1, k1, M⟩ := LN k hlt
     subst eaN; have M' := M.keep s; have g0 := M'.c0; have g1 := M'.c1; have g2 := M'.c2; have g3 := M'.c3; have g4 := M'.c4; have g5 := M'.c5; have hz : (k : Int) < (g.nn : Int) := by omega
     have hsN := szN_at (A := g.N) hlt; have nn1000 := P.out.n; have sC := sal wr (.cells #[.int .i64 (g.N k).op, .int .i64 (g.N k).a, .int .i64 (g.N k).b, .int .i64 (g.N k).k, .int .i64 (g.N k).s, .slice a1 (g.N k).nv k1] 84); go_wp2_with fail; have u3 := s.trans (sM sC s.size); generalize wr.alloc (.cells #[.int .i64 (g.N k).op, .int .i64 (g.N k).a, .int .i64 (g.N k).b, .int .i64 (g.N k).k, .int .i64 (g.N k).s, .slice a1 (g.N k).nv k1] 84) = w3 at *; have O3 := O.keep sC; have J := dimensionOf_any (g.N k) a1 lo k1 m (some ⟨gd, 0, none⟩) gd (k + 1) cap (dimA g k) w3 (Nat.zero_le _) (hT.stay hw u3) (K.keep sC) (by omega) (M.L.keep u3) O3.ints HD.out; obtain ⟨cc, hcc⟩ : ∃ cc, xq4 (dimA g k) (k + 1) (g.N k) = cc := ⟨_, rfl⟩; obtain ⟨dd, hdd⟩ : ∃ dd, xv7 (dimA g k) (k + 1) (g.N k) = dd := ⟨_, rfl⟩; rw [hcc, hdd] at J; refine J.mono ?_; rintro e w4 ⟨rfl, s4⟩; have u4 := sC.trans (sM s4 sC.size); have S4 := s.trans (sM u4 s.size); have HCC := hide hcc; have HDD := hide hdd; clear hcc hdd J g0 g1 g2 g3 g4 g5 M'
     by_cases hc : cc = 0
     . have q : (cc != 0) = false := by simp [hc]
       have HC := hide hc; clear hc; have O4 := O.keep u4; have z4 := u4.size
       go_wp2_with (at_builtin; refine wpList_append_own_at _ rfl _ _ 45 rfl w1.heap.size 3 i0 (.int .i64 0) 1 8 Tryz.underlying45 hi hz0 hz1 hz2 rfl (by decide) _ _ _ rfl (O4.own.alloc _) ⟨w4.heap.size, 0, none⟩ 1 1 [.int .i64 dd] rfl rfl (xv0 _ _ _) (xw4 _ rfl) (by unfold maxLen; omega) (by omega) (by simp; omega) ?_)
       intro v' w5 hown' hgrow hnn hat; obtain ⟨g', cap', rfl, hg1, hg2⟩ := hown'.form (by omega); have sW := sal w4 (.cells #[.int .i64 dd] 3); have S5 := (S4.trans (sM sW S4.size)).grown hgrow (by simp; have := S4.size; omega) (fun q hq => by have := (O4.own.lt q hq).1; have := S1.size; omega); have HN : Hid (nc g k = 0) := hide (HCC.out.trans HC.out); have B4 := (B.keep u4).keep sW; have K4 := (K.keep u4).keep sW; have hgb : ∀ q, q < w1.heap.size -> w5.heap[q]? = (w4.alloc (.cells #[.int .i64 dd] 3)).heap[q]? := fun q hq => hgrow.block q (by simp; have := O4.own.lt _ (rfl : (Value.slice (some ⟨gd, 0, none⟩) (k + 1) cap).ownBlock = some gd); omega) (fun e => by have := (O4.own.lt q e.symm).1; omega)
       have z5 := hgrow.size; clear hnn hat q; go_wp2; go_roundw
       case rel =>
        have zz : (w4.alloc (.cells #[.int .i64 dd] 3)).heap.size = w4.heap.size + 1 := by simp
        have hB : Box6 w5 w.heap.size (.int .i64 g.inn) (.int .i64 g.rounds) (.slice aL g.nl kL) (.slice aH g.nh kH) (.slice (some ⟨bN, oN, none⟩) g.nn kN) (.int .i64 g.out) := by
         have hl : w.heap.size < w1.heap.size := by have := B1.lt; omega
         exact ⟨(World.cell?_of_block (a := ⟨w.heap.size, 0, none⟩) (hgb _ hl)).trans B4.c0, (World.cell?_of_block (a := ⟨w.heap.size, 1, none⟩) (hgb _ hl)).trans B4.c1, (World.cell?_of_block (a := ⟨w.heap.size, 2, none⟩) (hgb _ hl)).trans B4.c2, (World.cell?_of_block (a := ⟨w.heap.size, 3, none⟩) (hgb _ hl)).trans B4.c3, (World.cell?_of_block (a := ⟨w.heap.size, 4, none⟩) (hgb _ hl)).trans B4.c4, (World.cell?_of_block (a := ⟨w.heap.size, 5, none⟩) (hgb _ hl)).trans B4.c5, fun o => by
          have := B4.f o; unfold World.frozen? at this ⊢; rw [hgb _ hl]; exact this⟩
        have hK : xk6 w5 m := by
         unfold xk6; rw [hgb m zK]; exact K4
        have eD : dd = xx4 (dimA g k) (g.N k) := by
         rw [<- HDD.out]; unfold xv7; rw [if_pos (HCC.out.trans HC.out)]
        have at2 : ∀ i, i < k + 1 -> xs[i]? = some (.int .i64 (dimA g (k + 1) i)) := fun i hi => by rw [yw3 g (by omega)]; exact O.at_ i hi
        refine ⟨k + 1, by omega, by go_num, S5, by omega, hB, hK, hide (fun j hj => ?_), hide (fun j hj => ?_), g', cap', _, rfl, IntL.snoc O.len at2 hown' (by rw [yw4, <- eD])⟩
        . by_cases e : j = k
          . subst e; exact HN.out
          . exact NZ.out j (by omega)
        . by_cases e : j = k + 1
          . subst e; rw [yw4]; exact dim_ok HD.out (HCC.out.trans HC.out)
          . rw [yw3 g (by omega)]; exact HD.out j (by omega)
       case measure => simp [intOf]; omega
     . have q : (cc != 0) = true := by simp [hc]
       have HN : Hid (nc g k = cc) := hide HCC.out; go_wp2
       go_ret3
       refine ⟨?_, S4⟩; exact yw9.none (.inr (.inr (.inl ⟨P.out, BX.out, k, hlt, NZ.out, by rw [HN.out]; exact hc, rfl, HN.out.symm, by go_num⟩)))
   have e : k = g.nn := by omega
   have HE := hide e; have KZ := hide (show ∀ j, j < g.nn -> nc g j = 0 from fun j hj => NZ.out j (by omega)); clear e NZ
   by_cases ho : g.out < 0
   . go_wp2
     go_ret3
     exact ⟨yw9.none (.inr (.inr (.inr (.inl ⟨P.out, BX.out, KZ.out, by omega, rfl, rfl, rfl⟩)))), s⟩
   by_cases ho2 : (g.nn : Int) < g.out
   . go_wp2
     go_ret3
     exact ⟨yw9.none (.inr (.inr (.inr (.inl ⟨P.out, BX.out, KZ.out, by omega, rfl, rfl, rfl⟩)))), s⟩
   have hl := O.own.lt gd rfl; go_wp2
   go_ret3
   refine ⟨⟨k + 1, dimA g k, 0, 0, some ⟨gd, 0, none⟩, cap, gd, rfl, .inr (.inr (.inr (.inr ⟨P.out, BX.out, KZ.out, ⟨by omega, by omega⟩, by rw [HE.out], fun j hj => by rw [HE.out], rfl, rfl⟩))), O.ints, fun _ => ⟨by have := S1.size; omega, hl.2, fun o => O.own.frozenAt o⟩⟩, s⟩
theorem l2NodeCode_any (g : xq8) (d : xq1) (aL aH : Option Addr) (lo kL kH kN bN oN : Nat) (a1 : Option Addr) (k1 i : Nat) (aD : Option Addr) (bD cD : Nat) (D : Nat -> Int) (w : World) (hd : d.size <= 1048576) (M : NodM w lo bN (oN + i * 6) d a1 k1) (hi : i < g.nn) (hnn : g.nn <= 1000) (HD : Ints w aD bD 0 (i + 1) D) (hD : Dok D (i + 1)) :
 Calls Tryz.prog 48 #[.agg #[.int .i64 g.inn, .int .i64 g.rounds, .slice aL g.nl kL, .slice aH g.nh kH, .slice (some ⟨bN, oN, none⟩) g.nn kN, .int .i64 g.out], .slice aD (i + 1) cD, .int .i64 ((i + 1 : Nat) : Int)] w fun e w' => e = .returned (.int .i64 (xq4 D (i + 1) d)) /\ w.Since w.heap.size w' := by
 obtain ⟨op, a, b, k, s, nv, V⟩ := d
 by_cases h : op < 1 ∨ 7 < op
 . exact l2NodeCode_no g op a b k s nv V aL aH lo kL kH kN bN oN a1 k1 i aD cD D w h hd M hi hnn
 have hc : op = 1 ∨ op = 2 ∨ op = 3 ∨ op = 4 ∨ op = 5 ∨ op = 6 ∨ op = 7 := by omega
 clear h
 rcases hc with rfl | rfl | rfl | rfl | rfl | rfl | rfl
 . exact l2NodeCode1 g a b k s nv V aL aH lo kL kH kN bN oN a1 k1 i aD bD cD D w hd M hi hnn HD hD
 . exact l2NodeCode2 g a b k s nv V aL aH lo kL kH kN bN oN a1 k1 i aD bD cD D w hd M hi hnn HD hD
 . exact l2NodeCode3 g a b k s nv V aL aH lo kL kH kN bN oN a1 k1 i aD bD cD D w hd M hi hnn HD hD
 . exact l2NodeCode4 g a b k s nv V aL aH lo kL kH kN bN oN a1 k1 i aD bD cD D w hd M hi hnn HD hD
 . exact l2NodeCode5 g a b k s nv V aL aH lo kL kH kN bN oN a1 k1 i aD bD cD D w hd M hi hnn HD hD
 . exact l2NodeCode6 g a b k s nv V aL aH lo kL kH kN bN oN a1 k1 i aD bD cD D w hd M hi hnn HD hD
 . exact l2NodeCode7 g a b k s nv V aL aH lo kL kH kN bN oN a1 k1 i aD bD cD D w hd M hi hnn HD hD
theorem yz9 (g : xq8) (aL aH aN : Option Addr) (lo kL kH kN : Nat) (w : World) (hd : g.size <= 1048576) (H : GraL w lo g aL aH aN kL kH kN) :
 Calls Tryz.prog 18 #[.agg #[.int .i64 g.inn, .int .i64 g.rounds, .slice aL g.nl kL, .slice aH g.nh kH, .slice aN g.nn kN, .int .i64 g.out]] w fun e w' => yw9 e w' w.heap.size g /\ w.Since w.heap.size w' := by
 obtain ⟨i0, hi, hz0, hz1, hz2⟩ := infoInt; have ts := hd; unfold xq8.size at ts; obtain ⟨wA, eA⟩ : ∃ wA : World, wA = (w.alloc (.cells #[.int .i64 g.inn, .int .i64 g.rounds, .slice aL g.nl kL, .slice aH g.nh kH, .slice aN g.nn kN, .int .i64 g.out] 50)).alloc (.cells #[] 3) := ⟨_, rfl⟩; have sA : w.Since w.heap.size wA := by rw [eA]; exact ((World.Since.refl _ _).alloc (Nat.le_refl _) _).alloc (by simp) _
 have zA : wA.heap.size = w.heap.size + 1 + 1 := by rw [eA]; simp
 have bA : Box6 wA w.heap.size (.int .i64 g.inn) (.int .i64 g.rounds) (.slice aL g.nl kL) (.slice aH g.nh kH) (.slice aN g.nn kN) (.int .i64 g.out) := by rw [eA]; exact (Box6.new w _ _ _ _ _ _ _).keep ((World.Since.refl _ _).alloc (Nat.le_refl _) _)
 have EA := hide eA; clear eA; go_enter Tryz.func18, Tryz.ntmps18; go_wp2_with fail; rw [<- EA.out]; clear EA; have q0 := bA.c0; have q1 := bA.c1; have q2 := bA.c2; have q3 := bA.c3; have q4 := bA.c4; have q5 := bA.c5; refine (xj7 g.inn 1 1000 wA).mono ?_; rintro e w1 ⟨⟨r, rfl, hr⟩, hw1⟩; have hw2 := hw1.symm; clear hw1; subst hw2; cases r
 . have N := hide (show ¬ HeadP g from fun h => by have := hr.2 (by unfold InP; have := h.i1; have := h.i2; omega); cases this)
   clear hr; go_wp2
   go_ret3
   exact ⟨yw9.none (.inl ⟨N.out, rfl, rfl, rfl⟩), sA⟩
 have I1 := hide (hr.1 rfl); clear hr; go_wp2_with fail; refine (xj7 g.rounds 0 1000 wA).mono ?_; rintro e w1 ⟨⟨r, rfl, hr⟩, hw1⟩; have hw2 := hw1.symm; clear hw1; subst hw2; cases r
 . have N := hide (show ¬ HeadP g from fun h => by have := hr.2 (by unfold InP; have := h.r0; have := h.r1; omega); cases this)
   clear hr; go_wp2
   go_ret3
   exact ⟨yw9.none (.inl ⟨N.out, rfl, rfl, rfl⟩), sA⟩
 have I2 := hide (hr.1 rfl); clear hr
 by_cases h7 : 1000 < g.nn
 . have q7 : (1000 : Int) < (g.nn : Int) := by omega
   go_wp2
   go_ret3
   exact ⟨yw9.none (.inl ⟨fun h => by have := h.n; omega, rfl, rfl, rfl⟩), sA⟩
 have q7 : ¬ (1000 : Int) < (g.nn : Int) := by omega
 by_cases h5 : (g.nl : Int) = g.inn
 case neg =>
  have q5' : ((g.nl : Int) != g.inn) = true := by simp [h5]
  go_wp2
  go_ret3
  exact ⟨yw9.none (.inl ⟨fun h => h5 h.l, rfl, rfl, rfl⟩), sA⟩
 have q5' : ((g.nl : Int) != g.inn) = false := by simp [h5]
 have H5 := hide h5; clear h5
 by_cases h6 : (g.nh : Int) = g.inn
 case neg =>
  have q6 : ((g.nh : Int) != g.inn) = true := by simp [h6]
  go_wp2
  go_ret3
  exact ⟨yw9.none (.inl ⟨fun h => h6 h.h, rfl, rfl, rfl⟩), sA⟩
 have q6 : ((g.nh : Int) != g.inn) = false := by simp [h6]
 have H6 := hide h6; clear h6; obtain ⟨bL, oL, -, LL⟩ := H.LL; obtain ⟨bH, oH, -, LH⟩ := H.LH; obtain ⟨bN, oN, -, LN⟩ := H.LN; have J1 := xx8 aL lo bL oL g.nl kL g.Lo wA (by omega) (by omega) (LL.keep sA); go_wp2_with fail; refine J1.mono ?_; rintro e w1 ⟨r, rfl, hr, s1⟩; have S1 := sA.trans (sM s1 sA.size); have B1 := bA.keep s1; have z1 := s1.size; cases r
 . have N := hide (show ¬ HeadP g from fun h => by have := hr.2 h.okL; cases this)
   clear hr; go_wp2
   go_ret3
   exact ⟨yw9.none (.inl ⟨N.out, rfl, rfl, rfl⟩), S1⟩
 have OL := hide (hr.1 rfl); clear hr q0 q1 q2 q3 q4 q5 J1; have q3 := B1.c3; have J2 := xx8 aH lo bH oH g.nh kH g.Hi w1 (by omega) (by omega) (LH.keep S1); go_wp2_with fail; refine J2.mono ?_; rintro e w2 ⟨r, rfl, hr, s2⟩; have S2 := S1.trans (sM s2 S1.size); have B2 := B1.keep s2; have z2 := s2.size; cases r
 . have N := hide (show ¬ HeadP g from fun h => by have := hr.2 h.okH; cases this)
   clear hr; go_wp2
   go_ret3
   exact ⟨yw9.none (.inl ⟨N.out, rfl, rfl, rfl⟩), S2⟩
 have P : Hid (HeadP g) := hide ⟨I1.out.1, I1.out.2, I2.out.1, I2.out.2, H5.out, H6.out, by omega, OL.out, hr.1 rfl⟩; clear hr q3 J2; have QL := LL.qs P.out.okL; have QH := LH.qs P.out.okH; have i1 := P.out.i1; have i2 := P.out.i2; obtain ⟨I, hI⟩ : ∃ I : Nat, g.inn = I := ⟨g.inn.toNat, by omega⟩; have HnlI := hide (show g.nl = I by have := H5.out; omega); have HnhI := hide (show g.nh = I by have := H6.out; omega); have HhI := hide hI; clear hI q5' q6; go_wp2_with fail
 go_loopw [6] (fun i wr => ∃ k : Nat, k <= I /\ i = .int .i64 k /\ w.Since w.heap.size wr /\ w.heap.size < wr.heap.size /\ Box6 wr w.heap.size (.int .i64 g.inn) (.int .i64 g.rounds) (.slice aL g.nl kL) (.slice aH g.nh kH) (.slice aN g.nn kN) (.int .i64 g.out) /\ Hid (∀ j, j < k -> ¬ yq2 g j)) (fun i _ => I - (intOf i).toNat)
 case atStart => exact ⟨0, Nat.zero_le _, rfl, S2, by omega, B2, hide (fun j hj => absurd hj (by omega))⟩
 case round =>
  obtain ⟨k, hk, rfl, s, hsz, B, NB⟩ := hrel; have qa0 := B.c0; rw [HhI.out] at qa0
  by_cases hlt : k < I
  . obtain ⟨eaL, xl, yl, CL⟩ := QL k (by rw [HnlI.out]; exact hlt)
    obtain ⟨eaH, xh, yh, CH⟩ := QH k (by rw [HnhI.out]; exact hlt); subst eaL eaH; have bl := ratD_qb (P.out.okL k (by rw [HnlI.out]; exact hlt)) (LL.lim k (by rw [HnlI.out]; exact hlt)) (by have := szR_at (R := g.Lo) (n := g.nl) (k := k) (by rw [HnlI.out]; exact hlt); omega); have bh := ratD_qb (P.out.okH k (by rw [HnhI.out]; exact hlt)) (LH.lim k (by rw [HnhI.out]; exact hlt)) (by have := szR_at (R := g.Hi) (n := g.nh) (k := k) (by rw [HnhI.out]; exact hlt); omega); obtain ⟨al, nl, cl, bbl, ml, dl, -, -, -, -, -, -, el, -⟩ := CL.R; obtain ⟨ah, nh, ch, bbh, mh, dh, -, -, -, -, -, -, eh, -⟩ := CH.R; simp only [Value.agg.injEq, Array.mk.injEq, List.cons.injEq, and_true, true_and] at el eh; obtain ⟨rfl, rfl⟩ := el; obtain ⟨rfl, rfl⟩ := eh; have dr := sdr wr; have S3 := s.trans (sM dr s.size); have J1 := l1Cmp_q bl bh (by omega) (CL.keep S3).R.read (CH.keep S3).R.read; obtain ⟨c, hc⟩ : ∃ c, qcmp (g.Lo k).q (g.Hi k).q = c := ⟨_, rfl⟩; rw [hc] at J1; have HC := hide hc; have C1 := CL.keep s; have C2 := CH.keep s; have q2 := B.c2; have q3 := B.c3; have g0 := C1.c0; have g1 := C1.c1; have g2 := C1.c2; have h0 := C2.c0; have h1 := C2.c1; have h2 := C2.c2; have hzI : (k : Int) < (I : Int) := by omega
    have hzl : (k : Int) < (g.nl : Int) := by rw [HnlI.out]; exact hzI
    have hzh : (k : Int) < (g.nh : Int) := by rw [HnhI.out]; exact hzI
    clear hc bl bh
    by_cases hb : 0 < c
    . have BB := hide (show yq2 g k by unfold yq2; rw [HC.out]; exact hb)
      go_wp2_with fail
      go_region_held3 (fun w' => w'.cell? ⟨w.heap.size, 2, none⟩ = some (.slice (some ⟨bL, oL, none⟩) g.nl kL) /\ w'.cell? ⟨w.heap.size, 3, none⟩ = some (.slice (some ⟨bH, oH, none⟩) g.nh kH) /\ w'.cell? ⟨bL, oL + k * 3, none⟩ = some (.bool (qn (g.Lo k).q)) /\ w'.cell? ⟨bL, oL + k * 3 + 1, none⟩ = some (.slice al nl cl) /\ w'.cell? ⟨bL, oL + k * 3 + 2, none⟩ = some (.slice bbl ml dl) /\
       w'.cell? ⟨bH, oH + k * 3, none⟩ = some (.bool (qn (g.Hi k).q)) /\ w'.cell? ⟨bH, oH + k * 3 + 1, none⟩ = some (.slice ah nh ch) /\ w'.cell? ⟨bH, oH + k * 3 + 2, none⟩ = some (.slice bbh mh dh)) (go_keep)
       (first
         | (go_at_call 47
            with_reducible refine J1.mono ?_
            rintro e w3 ⟨rfl, s3⟩; have u3 := dr.trans (sM s3 dr.size); have S4 := s.trans (sM u3 s.size); have B3 := B.keep u3; have j2 := B3.c2; have j3 := B3.c3; have k0 := (CL.keep S4).c0; have k1 := (CL.keep S4).c1; have k2 := (CL.keep S4).c2; have l0 := (CH.keep S4).c0; have l1 := (CH.keep S4).c1; have l2 := (CH.keep S4).c2))
      all_goals go_wp2
      all_goals go_ret3
      exact ⟨yw9.none (.inr (.inl ⟨P.out, k, by rw [HhI.out]; exact hzI, NB.out, BB.out, rfl, rfl, rfl⟩)), S4⟩
    . have BB := hide (show ¬ yq2 g k by unfold yq2; rw [HC.out]; exact hb)
      go_wp2_with fail
      go_region_held3 (fun w' => w'.cell? ⟨w.heap.size, 2, none⟩ = some (.slice (some ⟨bL, oL, none⟩) g.nl kL) /\ w'.cell? ⟨w.heap.size, 3, none⟩ = some (.slice (some ⟨bH, oH, none⟩) g.nh kH) /\ w'.cell? ⟨bL, oL + k * 3, none⟩ = some (.bool (qn (g.Lo k).q)) /\ w'.cell? ⟨bL, oL + k * 3 + 1, none⟩ = some (.slice al nl cl) /\ w'.cell? ⟨bL, oL + k * 3 + 2, none⟩ = some (.slice bbl ml dl) /\
       w'.cell? ⟨bH, oH + k * 3, none⟩ = some (.bool (qn (g.Hi k).q)) /\ w'.cell? ⟨bH, oH + k * 3 + 1, none⟩ = some (.slice ah nh ch) /\ w'.cell? ⟨bH, oH + k * 3 + 2, none⟩ = some (.slice bbh mh dh)) (go_keep)
       (first
         | (go_at_call 47
            with_reducible refine J1.mono ?_
            rintro e w3 ⟨rfl, s3⟩; have u3 := dr.trans (sM s3 dr.size); have S4 := s.trans (sM u3 s.size); have B3 := B.keep u3; have j2 := B3.c2; have j3 := B3.c3; have k0 := (CL.keep S4).c0; have k1 := (CL.keep S4).c1; have k2 := (CL.keep S4).c2; have l0 := (CH.keep S4).c0; have l1 := (CH.keep S4).c1; have l2 := (CH.keep S4).c2))
      all_goals go_wp2
      all_goals go_roundw
      case rel => exact ⟨k + 1, by omega, by go_num, S4, Nat.lt_of_lt_of_le hsz u3.size, B3, hide (fun j hj => by
       by_cases e : j = k
       . subst e; exact BB.out
       . exact NB.out j (by omega))⟩
      case measure => simp [intOf]; omega
  have e : k = I := by omega
  subst e; have BX := hide (show ∀ j : Nat, (j : Int) < g.inn -> ¬ yq2 g j from fun j hj => NB.out j (by rw [HhI.out] at hj; omega)); have qb0 := B.c0; clear NB QL QH; have sB := sal wr (.cells #[.int .i64 (k : Int)] 3)
  have O1 : IntL (wr.alloc (.cells #[.int .i64 (k : Int)] 3)) wr.heap.size (.slice (some ⟨wr.heap.size, 0, none⟩) 1 1) 1 (dimA g 0) [.int .i64 (k : Int)] := ⟨World.ownsRow_lit wr #[.int .i64 (k : Int)] 1 (Nat.le_refl _) (by decide) rfl, fun i hi => by
   have : i = 0 := by omega
   subst this
   show some (Value.int .i64 (k : Int)) = some (.int .i64 g.inn)
   rw [HhI.out]⟩
  clear qb0; go_wp2_with fail; have z3 : (wr.alloc (.cells #[.int .i64 (k : Int)] 3)).heap.size = wr.heap.size + 1 := by simp
  have S3 := s.trans (sM sB s.size); have B3 := B.keep sB; obtain ⟨m, hm⟩ : ∃ m, wr.heap.size = m := ⟨_, rfl⟩; generalize wr.alloc (.cells #[.int .i64 (k : Int)] 3) = w3 at *; rw [hm] at O1 z3 hsz ⊢; have hsz0 := hsz; have HM := hide hm; clear hm
  have hD0 := hide (show Dok (dimA g 0) 1 from fun j hj => by
   have : j = 0 := by omega
   subst this; exact ⟨i1, i2⟩)
  go_loopw [7, 8] (fun u i wr' => ∃ k : Nat, k <= g.nn /\ i = .int .i64 ((k + 1 : Nat) : Int) /\ w.Since w.heap.size wr' /\ m < wr'.heap.size /\ Box6 wr' w.heap.size (.int .i64 g.inn) (.int .i64 g.rounds) (.slice aL g.nl kL) (.slice aH g.nh kH) (.slice aN g.nn kN) (.int .i64 g.out) /\ Hid (∀ j, j < k -> nc g j = 0) /\ Hid (Dok (dimA g k) (k + 1)) /\ ∃ gd cap xs, u = .slice (some ⟨gd, 0, none⟩) (k + 1) cap /\ IntL wr' m (.slice (some ⟨gd, 0, none⟩) (k + 1) cap) (k + 1) (dimA g k) xs) (fun _ i _ => g.nn + 1 - (intOf i).toNat)
  case atStart => exact ⟨0, Nat.zero_le _, rfl, S3, by omega, B3, hide (fun j hj => absurd hj (by omega)), hD0, m, 1, _, rfl, O1⟩
  case round =>
   obtain ⟨k, hk, rfl, s, hsz, B, NZ, HD, gd, cap, xs, rfl, O⟩ := hrel; have q5 := B.c5; have q4 := B.c4; have nn1000 := P.out.n
   by_cases hlt : k < g.nn
   . obtain ⟨eaN, a1, k1, M⟩ := LN k hlt
     subst eaN; have hsN := szN_at (A := g.N) hlt; have q0 := B.c0; have q1 := B.c1; have q2 := B.c2; have q3 := B.c3; have hz : ((k + 1 : Nat) : Int) <= (g.nn : Int) := by omega
     have hzk : (k : Int) < (g.nn : Int) := by omega
     have J := l2NodeCode_any g (g.N k) aL aH lo kL kH kN bN oN a1 k1 k (some ⟨gd, 0, none⟩) gd cap (dimA g k) wr (by omega) (M.keep s) hlt nn1000 O.ints HD.out; obtain ⟨cc, hcc⟩ : ∃ cc, xq4 (dimA g k) (k + 1) (g.N k) = cc := ⟨_, rfl⟩; rw [hcc] at J; go_wp2_with fail; refine J.mono ?_; rintro e w4 ⟨rfl, s4⟩; have S4 := s.trans (sM s4 s.size); have HCC := hide hcc; clear hcc J q0 q1 q2 q3
     by_cases hc : cc = 0
     . have q : (cc != 0) = false := by simp [hc]
       have HC := hide hc; clear hc; obtain ⟨F, G, SH⟩ := yz4 (HCC.out.trans HC.out); obtain ⟨j, hj⟩ : ∃ j : Nat, (g.N k).a = j := ⟨(g.N k).a.toNat, by have := G.1; omega⟩; have hjn : j < k + 1 := by have := G.2.1; omega
       have hDj := HD.out j hjn; obtain ⟨x, hx⟩ : ∃ x, dimA g k j = x := ⟨_, rfl⟩; rw [hx] at hDj; have d4 := sdr w4; have u5 := s4.trans (sM d4 s4.size); have S5 := s.trans (sM u5 s.size); have B5 := B.keep u5; have M5 := M.keep S5; obtain ⟨-, hx5⟩ := ((O.keep u5).ints) j hjn; rw [Nat.zero_add, hx] at hx5; have ea : (dimA g k) (g.N k).a.toNat = x := by rw [hj]; exact hx
       have JD := l2NodeDim_any (g.N k).op (j : Int) (g.N k).b (g.N k).k (g.N k).s x a1 (g.N k).nv k1 w4.drew hDj.1 hDj.2
        (fun h => by have f := F.k; rw [h] at f; exact f)
        (fun h => by
          have f := F.k; have f2 := F.s; rw [h] at f f2; have f' : 1 <= (g.N k).k /\ (g.N k).k <= 1000 := f; have f2' : 1 <= (g.N k).s /\ (g.N k).s <= 1000 := f2; refine ⟨f'.1, ?_, f2'.1, f2'.2⟩
          by_cases hh : (g.N k).k > x
          . exfalso
            unfold xj3 at SH; rw [ea] at SH
            simp [h, hh] at SH
          . omega)
       obtain ⟨dd, hdd⟩ : ∃ dd, dimX (g.N k).op (g.N k).k (g.N k).s x = dd := ⟨_, rfl⟩; rw [hdd] at JD; have eD : Hid (dd = xx4 (dimA g k) (g.N k)) := hide (by rw [<- hdd]; unfold dimX xx4; rw [ea]); have HN : Hid (nc g k = 0) := hide (HCC.out.trans HC.out); have hzj : (j : Int) < ((k + 1 : Nat) : Int) := by omega
       have ez : ((k + 1 : Nat) : Int) - 1 = (k : Int) := by omega
       have HJ := hide hj; have HF := hide F; have HG := hide G; have HS := hide SH; have HXX := hide hx; have HEA := hide ea; clear hdd F G SH ea hx; have q4 := (B.keep s4).c4; clear hj; go_wp2_with fail; refine wp_region_held_drew (S := fun w' => w'.cell? ⟨w.heap.size, 4, none⟩ = some (.slice (some ⟨bN, oN, none⟩) g.nn kN) /\ w'.cell? ⟨bN, oN + k * 6, none⟩ = some (.int .i64 (g.N k).op) /\ w'.cell? ⟨bN, oN + k * 6 + 1, none⟩ = some (.int .i64 (j : Int)) /\ w'.cell? ⟨bN, oN + k * 6 + 2, none⟩ = some (.int .i64 (g.N k).b) /\ w'.cell? ⟨bN, oN + k * 6 + 3, none⟩ = some (.int .i64 (g.N k).k) /\ w'.cell? ⟨bN, oN + k * 6 + 4, none⟩ = some (.int .i64 (g.N k).s) /\ w'.cell? ⟨bN, oN + k * 6 + 5, none⟩ = some (.slice a1 (g.N k).nv k1)) (by kernel_rfl) ⟨B5.c4, M5.c0, (by rw [<- HJ.out]; exact M5.c1), M5.c2, M5.c3, M5.c4, M5.c5⟩ (fun hHeld => ?_); refine tk 0 94 (.slice (some ⟨gd, 0, none⟩) (k + 1) cap) ?_; simp only [ap, List.setIfInBounds_toArray, List.set_cons_zero, ls]; refine tk 1 95 (.pointer (some ⟨w.heap.size, 4, none⟩)) ?_; simp only [ap, List.setIfInBounds_toArray, List.set_cons_zero, ls]; refine ta 2 96 (.slice (some ⟨bN, oN, none⟩) g.nn kN) ?_ ?_
       . intro w' hSw
         try dsimp only at hSw
         go_simp
       simp only [ap, List.setIfInBounds_toArray, List.set_cons_zero, ls]; refine tk 3 97 (.int .i64 ((k + 1 : Nat) : Int)) ?_; simp only [ap, List.setIfInBounds_toArray, List.set_cons_zero, ls]; refine ta 4 98 (.int .i64 (k : Int)) ?_ ?_
       . intro w' hSw
         try dsimp only at hSw
         go_simp; rw [IntKind.wrap_i64]; omega
       simp only [ap, List.setIfInBounds_toArray, List.set_cons_zero, ls]; refine ta 5 99 (.pointer (some ⟨bN, oN + k * 6, none⟩)) ?_ ?_
       . intro w' hSw
         try dsimp only at hSw
         go_simp
       simp only [ap, List.setIfInBounds_toArray, List.set_cons_zero, ls]; refine ta 6 100 (.agg #[.int .i64 (g.N k).op, .int .i64 (j : Int), .int .i64 (g.N k).b, .int .i64 (g.N k).k, .int .i64 (g.N k).s, .slice a1 (g.N k).nv k1]) ?_ ?_
       . intro w' hSw
         try dsimp only at hSw
         go_simp
       simp only [ap, List.setIfInBounds_toArray, List.set_cons_zero, ls]; refine tk 7 101 (.slice (some ⟨gd, 0, none⟩) (k + 1) cap) ?_; simp only [ap, List.setIfInBounds_toArray, List.set_cons_zero, ls]; refine tk 8 102 (.pointer (some ⟨w.heap.size, 4, none⟩)) ?_; simp only [ap, List.setIfInBounds_toArray, List.set_cons_zero, ls]; refine ta 9 103 (.slice (some ⟨bN, oN, none⟩) g.nn kN) ?_ ?_
       . intro w' hSw
         try dsimp only at hSw
         go_simp
       simp only [ap, List.setIfInBounds_toArray, List.set_cons_zero, ls]; refine tk 10 104 (.int .i64 ((k + 1 : Nat) : Int)) ?_; simp only [ap, List.setIfInBounds_toArray, List.set_cons_zero, ls]; refine ta 11 105 (.int .i64 (k : Int)) ?_ ?_
       . intro w' hSw
         try dsimp only at hSw
         go_simp; rw [IntKind.wrap_i64]; omega
       simp only [ap, List.setIfInBounds_toArray, List.set_cons_zero, ls]; refine ta 12 106 (.pointer (some ⟨bN, oN + k * 6, none⟩)) ?_ ?_
       . intro w' hSw
         try dsimp only at hSw
         go_simp
       simp only [ap, List.setIfInBounds_toArray, List.set_cons_zero, ls]; refine ta 13 107 (.pointer (some ⟨bN, oN + k * 6 + 1, none⟩)) ?_ ?_
       . intro w' hSw
         try dsimp only at hSw
         go_simp
       simp only [ap, List.setIfInBounds_toArray, List.set_cons_zero, ls]; refine ta 14 108 (.int .i64 (j : Int)) ?_ ?_
       . intro w' hSw
         try dsimp only at hSw
         go_simp
       simp only [ap, List.setIfInBounds_toArray, List.set_cons_zero, ls]; refine ta 15 109 (.pointer (some ⟨gd, j, none⟩)) ?_ ?_
       . intro w' hSw
         try dsimp only at hSw
         go_simp; intro h; omega
       simp only [ap, List.setIfInBounds_toArray, List.set_cons_zero, ls]; refine wpAnyH_ready (rs := [16]) (by kernel_rfl) (by simp) ?_; refine AllReadyH.cons rfl (fun K hK => ?_) AllReadyH.nil; have lx := hx5; go_simp; clear lx; refine hK.out _ _ ⟨B5.c4, M5.c0, (by rw [<- HJ.out]; exact M5.c1), M5.c2, M5.c3, M5.c4, M5.c5⟩ (fun h1 => ?_); clear hK K hHeld; refine wpAnyH_ready (rs := [17]) (by kernel_rfl) (by simp) ?_; refine AllReadyH.cons rfl (fun K hK => ?_) AllReadyH.nil; go_simp
       go_wp2_with (go_at_call 49; with_reducible refine JD.mono ?_; rintro e w6 ⟨rfl, s6⟩)
       have u6 := u5.trans (sM s6 u5.size); have S6 := s.trans (sM u6 s.size); have B6 := B.keep u6; have M6 := M.keep S6; have O6 := O.keep u6; have z6 := u6.size; refine hK.out _ _ ⟨B6.c4, M6.c0, (by rw [<- HJ.out]; exact M6.c1), M6.c2, M6.c3, M6.c4, M6.c5⟩ (fun h2 => ?_); clear hK K h1; refine wpAnyH_ready (rs := [18]) (by kernel_rfl) (by simp) ?_; refine AllReadyH.cons rfl (fun K hK => ?_) AllReadyH.nil; go_simp; have sW := sal w6 (.cells #[.int .i64 dd] 3); have S7 := S6.trans (sM sW S6.size); have B7 := B6.keep sW; have M7 := M.keep S7; refine hK.out _ _ ⟨B7.c4, M7.c0, (by rw [<- HJ.out]; exact M7.c1), M7.c2, M7.c3, M7.c4, M7.c5⟩ (fun h3 => ?_); clear hK K h2; refine wpAnyH_ready (rs := [19]) (by kernel_rfl) (by simp) ?_; refine AllReadyH.cons rfl (fun K hK => ?_) AllReadyH.nil; refine step_append_lies _ rfl _ _ 45 rfl m 3 i0 _ 1 8 Tryz.underlying45 hi hz0 hz1 hz2 rfl (by decide) _ (k + 1) xs rfl (O6.own.alloc _) ⟨w6.heap.size, 0, none⟩ 1 1 [.int .i64 dd] rfl rfl (xv0 _ _ _) (xw4 _ rfl) (by decide) (by unfold maxLen; omega) (by omega) (by simp; omega) (w6.heap.size + 1) (by simp) ?_; intro g' cap' w8 hown' hgrow hat hlt8; have zz : (w6.alloc (.cells #[.int .i64 dd] 3)).heap.size = w6.heap.size + 1 := by simp
       have hlg := O6.own.lt gd rfl; have S8 : w.Since w.heap.size w8 := S7.grown hgrow (by have := S6.size; omega) (fun q hq => by have := (O6.own.lt q hq).1; have := s.size; omega); have hgb : ∀ q, q < m -> w8.heap[q]? = (w6.alloc (.cells #[.int .i64 dd] 3)).heap[q]? := fun q hq => hgrow.block q (by omega) (fun e => by have := (O6.own.lt q e.symm).1; omega)
       have B8 : Box6 w8 w.heap.size (.int .i64 g.inn) (.int .i64 g.rounds) (.slice aL g.nl kL) (.slice aH g.nh kH) (.slice (some ⟨bN, oN, none⟩) g.nn kN) (.int .i64 g.out) := by
        have hl : w.heap.size < m := hsz0
        exact ⟨(World.cell?_of_block (a := ⟨w.heap.size, 0, none⟩) (hgb _ hl)).trans B7.c0, (World.cell?_of_block (a := ⟨w.heap.size, 1, none⟩) (hgb _ hl)).trans B7.c1, (World.cell?_of_block (a := ⟨w.heap.size, 2, none⟩) (hgb _ hl)).trans B7.c2, (World.cell?_of_block (a := ⟨w.heap.size, 3, none⟩) (hgb _ hl)).trans B7.c3, (World.cell?_of_block (a := ⟨w.heap.size, 4, none⟩) (hgb _ hl)).trans B7.c4, (World.cell?_of_block (a := ⟨w.heap.size, 5, none⟩) (hgb _ hl)).trans B7.c5, fun o => by
         have := B7.f o; unfold World.frozen? at this ⊢; rw [hgb _ hl]; exact this⟩
       have M8 := M.keep S8; have z8 := hgrow.size; refine hK.out _ _ ⟨B8.c4, M8.c0, (by rw [<- HJ.out]; exact M8.c1), M8.c2, M8.c3, M8.c4, M8.c5⟩ (fun h4 => ?_); clear hK K h3; refine wpAnyH_ready (rs := [20]) (by kernel_rfl) (by simp) ?_; refine AllReadyH.cons rfl (fun K hK => ?_) AllReadyH.nil; go_simp; refine hK.out _ _ ⟨B8.c4, M8.c0, (by rw [<- HJ.out]; exact M8.c1), M8.c2, M8.c3, M8.c4, M8.c5⟩ (fun h5 => ?_); clear hK K h5 h4; refine wpAnyH_done (by kernel_rfl) ?_ _; go_wp2; go_roundw
       case rel =>
        go_light; have at2 : ∀ i, i < k + 1 -> xs[i]? = some (.int .i64 (dimA g (k + 1) i)) := fun i hi => by rw [yw3 g (by omega)]; exact O.at_ i hi
        refine ⟨k + 1, by omega, by go_num, S8, by omega, B8, hide (fun j hj => ?_), hide (fun j hj => ?_), g', cap', _, rfl, IntL.snoc O.len at2 hown' (by rw [yw4, <- eD.out])⟩
        . by_cases e : j = k
          . subst e; exact HN.out
          . exact NZ.out j (by omega)
        . by_cases e : j = k + 1
          . subst e; rw [yw4]; exact dim_ok HD.out (HCC.out.trans HC.out)
          . rw [yw3 g (by omega)]; exact HD.out j (by omega)
       case measure => simp [intOf]; omega
     . have q : (cc != 0) = true := by simp [hc]
       have HN : Hid (nc g k = cc) := hide HCC.out; go_wp2
       go_ret3
       refine ⟨?_, S4⟩; exact yw9.none (.inr (.inr (.inl ⟨P.out, BX.out, k, hlt, NZ.out, by rw [HN.out]; exact hc, rfl, HN.out.symm, by go_num⟩)))
   have e : k = g.nn := by omega
   have HE := hide e; have KZ := hide (show ∀ j, j < g.nn -> nc g j = 0 from fun j hj => NZ.out j (by omega)); clear e NZ; have nz : ¬ ((k + 1 : Nat) : Int) <= (g.nn : Int) := by omega
   go_wp2_with fail; refine (xj7 g.out 0 (g.nn : Int) wr).mono ?_; rintro e w4 ⟨⟨r, rfl, hr⟩, hw4⟩; have hw5 := hw4.symm; clear hw4; subst hw5; cases r
   . have NO := hide (show ¬ (0 <= g.out /\ g.out <= g.nn) from fun h => by have := hr.2 h; cases this)
     clear hr; go_wp2
     go_ret3
     exact ⟨yw9.none (.inr (.inr (.inr (.inl ⟨P.out, BX.out, KZ.out, NO.out, rfl, rfl, rfl⟩)))), s⟩
   have YO := hide (hr.1 rfl); clear hr; have hl := O.own.lt gd rfl; go_wp2
   go_ret3
   refine ⟨⟨k + 1, dimA g k, 0, 0, some ⟨gd, 0, none⟩, cap, gd, rfl, .inr (.inr (.inr (.inr ⟨P.out, BX.out, KZ.out, YO.out, by rw [HE.out], fun j hj => by rw [HE.out], rfl, rfl⟩))), O.ints, fun _ => ⟨by have := s.size; omega, hl.2, fun o => O.own.frozenAt o⟩⟩, s⟩
theorem specEvalGraph_no (g : xq8) (aL aH aN ax : Option Addr) (lo kL kH kN lox bx ox nx cx : Nat) (X : Nat -> RatD) (w : World) (hz : g.size + (nx + szR X nx) <= 1048576) (H : GraL w lo g aL aH aN kL kH kN) (HX : Rats w lox ax bx ox nx X) (hno : ¬ EvG g nx X) :
 Calls Tryz.prog 26 #[.agg #[.int .i64 g.inn, .int .i64 g.rounds, .slice aL g.nl kL, .slice aH g.nh kH, .slice aN g.nn kN, .int .i64 g.out], .slice ax nx cx] w fun e w' => ∃ c, e = .returned (.tuple #[.slice (some c) 0 0, .bool false]) /\ w.Since w.heap.size w' := by
 have sA := sal w (.cells #[.int .i64 g.inn, .int .i64 g.rounds, .slice aL g.nl kL, .slice aH g.nh kH, .slice aN g.nn kN, .int .i64 g.out] 50); have bA := Box6.new w (.int .i64 g.inn) (.int .i64 g.rounds) (.slice aL g.nl kL) (.slice aH g.nh kH) (.slice aN g.nn kN) (.int .i64 g.out) 50; go_enter Tryz.func26, Tryz.ntmps26; go_wp2_with fail; generalize w.alloc (.cells #[.int .i64 g.inn, .int .i64 g.rounds, .slice aL g.nl kL, .slice aH g.nh kH, .slice aN g.nn kN, .int .i64 g.out] 50) = wA at *; refine (yz9 g aL aH aN lo kL kH kN wA (by omega) (H.keep sA)).mono ?_; rintro e w1 ⟨⟨n, Y, c, a, ad, cap, b, rfl, O, -⟩, s1⟩; have S1 := sA.trans (sM s1 sA.size); have B1 := bA.keep s1; have b0 := B1.c0; have O := hide O
 by_cases hc : c = 0
 rotate_left
 . have q : (c != 0) = true := by simpa using hc
   clear hc; go_wp2; go_ret2; exact ⟨_, rfl, S1.alloc S1.size _⟩
 subst hc
 by_cases hl : (nx : Int) = g.inn
 rotate_left
 . have q : ((nx : Int) != g.inn) = true := by simpa using hl
   clear hl; go_wp2; go_ret2; exact ⟨_, rfl, S1.alloc S1.size _⟩
 have q : ((nx : Int) != g.inn) = false := by simpa using hl
 have HL := hide hl; have HN := hide hno; clear hl hno; go_wp2_with fail; refine (xx8 ax lox bx ox nx cx X w1 (by omega) (by omega) (HX.keep S1)).mono ?_; rintro e w2 ⟨r2, rfl, i2, s2⟩; have I2 := hide i2; have S2 := S1.trans (sM s2 S1.size); clear i2; cases r2
 . go_wp2
   go_ret2; exact ⟨_, rfl, S2.alloc S2.size _⟩
 exact absurd (EvG.of O.out HL.out (I2.out.1 (by simp))) HN.out
theorem specEvalGraph_ok (g : xq8) (aL aH aN ax : Option Addr) (lo kL kH kN lox bx ox nx cx : Nat) (X : Nat -> RatD) (w : World) (hz : g.size + (nx + szR X nx) <= 1048576) (hxc : nx <= cx) (H : GraL w lo g aL aH aN kL kH kN) (HX : Rats w lox ax bx ox nx X) (E : EvG g nx X) :
 Calls Tryz.prog 26 #[.agg #[.int .i64 g.inn, .int .i64 g.rounds, .slice aL g.nl kL, .slice aH g.nh kH, .slice aN g.nn kN, .int .i64 g.out], .slice ax nx cx] w fun e w' => ∃ a' b' o' cap', e = .returned (.tuple #[.slice a' (vD g g.out.toNat) cap', .bool true]) /\ xj5 w' (fun _ => True) a' b' o' (vD g g.out.toNat) (vV g X g.out.toNat) /\ w.Since w.heap.size w' := by
 have sA := sal w (.cells #[.int .i64 g.inn, .int .i64 g.rounds, .slice aL g.nl kL, .slice aH g.nh kH, .slice aN g.nn kN, .int .i64 g.out] 50); have bA := Box6.new w (.int .i64 g.inn) (.int .i64 g.rounds) (.slice aL g.nl kL) (.slice aH g.nh kH) (.slice aN g.nn kN) (.int .i64 g.out) 50; have QX := (HX.qs E.ok).imp (p' := fun _ => True) (fun _ _ _ => trivial); have q : ((nx : Int) != g.inn) = false := by simpa using E.x
 have E := hide E; obtain ⟨i0, hi, hz0, hz1, hz2⟩ := infoRats; go_enter Tryz.func26, Tryz.ntmps26; go_wp2_with fail; generalize w.alloc (.cells #[.int .i64 g.inn, .int .i64 g.rounds, .slice aL g.nl kL, .slice aH g.nh kH, .slice aN g.nn kN, .int .i64 g.out] 50) = wA at *; refine (yz9 g aL aH aN lo kL kH kN wA (by omega) (H.keep sA)).mono ?_; rintro e w1 ⟨⟨n, Y, c, a, ad, cap, bd, rfl, O, LD, -⟩, s1⟩; obtain ⟨rfl, en, eY⟩ := E.out.outc O; have S1 := sA.trans (sM s1 sA.size); have B1 := bA.keep s1; have b0 := B1.c0; have EN := hide en; have EY := hide eY; clear O en eY; go_wp2_with fail; refine (xx8 ax lox bx ox nx cx X w1 (by omega) (by omega) (HX.keep S1)).mono ?_; rintro e w2 ⟨r2, rfl, i2, s2⟩; obtain rfl : r2 = true := i2.2 E.out.ok; have S2 := S1.trans (sM s2 S1.size); clear i2 q b0; have B2 := B1.keep s2; have b5 := B2.c5; go_wp2_with fail; have z2 := s2.size; have LD2 := LD.keep s2; have o0 := E.out.o0; have o1 := E.out.o1; have hnn := E.out.head.n; obtain ⟨out, hout⟩ : ∃ out : Nat, g.out = out := ⟨g.out.toNat, by omega⟩; have hon : out <= g.nn := by omega
 have HO := hide hout; clear hout; have sB := sal w2 (.cells #[.slice ax nx cx] 28)
 have O1 : VecL (w2.alloc (.cells #[.slice ax nx cx] 28)) w2.heap.size (.slice (some ⟨w2.heap.size, 0, none⟩) 1 1) 1 (vD g) (vV g X) [.slice ax nx cx] := ⟨World.ownsRow_lit w2 #[.slice ax nx cx] 1 (Nat.le_refl _) (by decide) rfl, fun i hi => by
  have : i = 0 := by omega
  subst this; have eD : vD g 0 = nx := by show g.inn.toNat = nx; have := E.out.x; omega
  have Q2 := (QX.keep S2); refine ⟨ax, bx, ox, cx, by rw [eD]; rfl, by omega, fun h e => ?_, ?_⟩
  . have := Q2.lt (by omega)
    simp [Value.ownBlock] at e
    omega
  . rw [eD]
    exact (Q2.imp (p' := fun g => g < w2.heap.size) (fun _ h _ => h)).keep sB |>.imp (fun j _ hp e => by
     simp [Value.ownBlock] at e
     have hp' : j < w2.heap.size := hp; omega)⟩
 have S3 := S2.trans (sM sB S2.size); have B3 := B2.keep sB; have LD3 := LD2.keep sB; have z3 : (w2.alloc (.cells #[.slice ax nx cx] 28)).heap.size = w2.heap.size + 1 := by simp
 have hsz0 : w.heap.size < w2.heap.size := by have := B2.lt; omega
 clear b5; generalize w2.alloc (.cells #[.slice ax nx cx] 28) = w3 at *
 go_loopw [9, 10] (fun u i wr => ∃ k : Nat, k <= out /\ i = .int .i64 ((k + 1 : Nat) : Int) /\ w3.Since w2.heap.size wr /\ w2.heap.size < wr.heap.size /\ ∃ gd cap xs, u = .slice (some ⟨gd, 0, none⟩) (k + 1) cap /\ VecL wr w2.heap.size (.slice (some ⟨gd, 0, none⟩) (k + 1) cap) (k + 1) (vD g) (vV g X) xs) (fun _ i _ => out + 1 - (intOf i).toNat)
 case atStart => exact ⟨0, Nat.zero_le _, rfl, World.Since.refl _ _, by omega, w2.heap.size, 1, _, rfl, O1⟩
 case round =>
  obtain ⟨k, hk, rfl, T, hsz, gd, cap', xs, rfl, O⟩ := hrel; have s := S3.trans (sM T (by omega)); have B := B2.since (sB.trans (sM T (Nat.le_refl _))) (by omega); have q5 := B.c5; have q4 := B.c4; rw [HO.out] at q5
  by_cases hlt : k < out
  . have SP := E.out.step hz HX.lim (fun k hk => by
     obtain ⟨bN, oN, -, LN⟩ := H.LN; obtain ⟨-, a1, k1, M⟩ := LN k hk; obtain ⟨ba, oa, -, LV⟩ := M.L.LV; exact LV.lim) (show k < g.nn by omega)
    obtain ⟨bN, oN, -, LN⟩ := H.LN; obtain ⟨eaN, a1, k1, M⟩ := LN k (by omega); subst eaN; have SQ := hide SP; obtain ⟨ja, hja⟩ : ∃ j : Nat, (g.N k).a = j := ⟨(g.N k).a.toNat, by have := SP.a0; omega⟩; obtain ⟨jb, hjb⟩ : ∃ j : Nat, (g.N k).b = j := ⟨(g.N k).b.toNat, by have := SP.b0; omega⟩; have la : ja < k + 1 := by have := SP.ai; omega
    have lb : jb < k + 1 := by have := SP.bi; omega
    obtain ⟨-, aj, bj, oj, cj, va, -, Qa⟩ := O.vecs ja la; obtain ⟨-, al, bl, ol, cl, vb, -, Qb'⟩ := O.vecs jb lb; have SD := SP.d (k + 1) (Nat.le_refl _); have M1 := M.keep s; have g0 := M1.c0; have g1 := M1.c1; have g2 := M1.c2; have g3 := M1.c3; have g4 := M1.c4; have g5 := M1.c5; have hzz : ((k + 1 : Nat) : Int) <= (out : Int) := by omega
    have hzk : (k : Int) < (g.nn : Int) := by omega
    have ez : ((k + 1 : Nat) : Int) - 1 = (k : Int) := by omega
    have eD : Y (k + 1) = ((vD g (k + 1) : Nat) : Int) := by
     rw [EY.out (k + 1) (by rw [EN.out]; omega), dimA_same g (show k + 1 <= g.nn by omega)]; have := (E.out.stand (i := k + 1) (by omega)).dok (k + 1) (by omega); unfold vD; omega
    have LDr := (LD2.keep sB); obtain ⟨ead, -⟩ := LD2 (k + 1) (by rw [EN.out]; omega); subst ead; have hzn : ((k + 1 : Nat) : Int) < (n : Int) := by rw [EN.out]; omega
    obtain ⟨m, hm⟩ : ∃ m, vD g (k + 1) = m := ⟨_, rfl⟩; have lbd : bd < w2.heap.size := World.block_lt_of_cell? _ _ (LD2 (k + 1) (by rw [EN.out]; omega)).2
    have cD : wr.cell? ⟨bd, k + 1, none⟩ = some (.int .i64 (m : Int)) := by
     have h1 := (LD2 (k + 1) (by rw [EN.out]; omega)).2; rw [eD, hm, Nat.zero_add] at h1; exact ((sB.trans (sM T (Nat.le_refl _))).cell (a := ⟨bd, k + 1, none⟩) lbd).trans h1
    have sN := sal wr (.cells #[.int .i64 (g.N k).op, .int .i64 (ja : Int), .int .i64 (jb : Int), .int .i64 (g.N k).k, .int .i64 (g.N k).s, .slice a1 (g.N k).nv k1] 84); have nB := Box6.new wr (.int .i64 (g.N k).op) (.int .i64 (ja : Int)) (.int .i64 (jb : Int)) (.int .i64 (g.N k).k) (.int .i64 (g.N k).s) (.slice a1 (g.N k).nv k1) 84; have zN : (wr.alloc (.cells #[.int .i64 (g.N k).op, .int .i64 (ja : Int), .int .i64 (jb : Int), .int .i64 (g.N k).k, .int .i64 (g.N k).s, .slice a1 (g.N k).nv k1] 84)).heap.size = wr.heap.size + 1 := by simp
    have hza : (ja : Int) < ((k + 1 : Nat) : Int) := by omega
    have hzb : (jb : Int) < ((k + 1 : Nat) : Int) := by omega
    have HJA := hide hja; have HJB := hide hjb; have HM := hide hm; obtain ⟨bV, oV, -, LV⟩ := M.L.LV; have QV := (LV.qs SP.sh.f.ok).imp (p' := fun _ => True) (fun _ _ _ => trivial); rw [hja] at g1; rw [hjb] at g2; clear hja hjb hm SP eD SD; go_wp2_with fail; generalize wr.alloc (.cells #[.int .i64 (g.N k).op, .int .i64 (ja : Int), .int .i64 (jb : Int), .int .i64 (g.N k).k, .int .i64 (g.N k).s, .slice a1 (g.N k).nv k1] 84) = w4 at *; have d4 := sdr w4; have u5 := sN.trans (sM d4 (by omega)); have S5 := s.trans (sM u5 s.size); have N5 := nB.keep d4; have O5 := O.keep u5; have c5 : w4.drew.cell? ⟨bd, k + 1, none⟩ = some (.int .i64 (m : Int)) := (u5.cell (a := ⟨bd, k + 1, none⟩) (by have : bd < wr.heap.size := World.block_lt_of_cell? _ _ cD; exact this)).trans cD; obtain ⟨-, vaj⟩ : True /\ w4.drew.cell? ⟨gd, ja, none⟩ = some (.slice aj (vD g ja) cj) := ⟨trivial, by rw [Nat.zero_add] at va; exact (u5.cell (a := ⟨gd, ja, none⟩) (World.block_lt_of_cell? _ _ va)).trans va⟩; obtain ⟨-, vbj⟩ : True /\ w4.drew.cell? ⟨gd, jb, none⟩ = some (.slice al (vD g jb) cl) := ⟨trivial, by rw [Nat.zero_add] at vb; exact (u5.cell (a := ⟨gd, jb, none⟩) (World.block_lt_of_cell? _ _ vb)).trans vb⟩
    have JV : Calls Tryz.prog 57 #[.agg #[.int .i64 (g.N k).op, .int .i64 (ja : Int), .int .i64 (jb : Int), .int .i64 (g.N k).k, .int .i64 (g.N k).s, .slice a1 (g.N k).nv k1], .slice aj (vD g ja) cj, .slice al (vD g jb) cl, .int .i64 (m : Int)] w4.drew fun r w' => ∃ b cap, r = .returned (.slice (some ⟨b, 0, none⟩) m cap) /\ m <= cap /\ w4.drew.heap.size <= b /\ xj5 w' (fun g => w4.drew.heap.size <= g) (some ⟨b, 0, none⟩) b 0 m (vV g X (k + 1)) /\ w4.drew.Since w4.drew.heap.size w' := by
     have SP := SQ.out; have ea : (g.N k).a.toNat = ja := by rw [HJA.out]; rfl
     have eb : (g.N k).b.toNat = jb := by rw [HJB.out]; rfl
     have sh := SP.sh; have new := SP.new; have q1 := SP.q1; have q6 := SP.q6; have b4 := SP.b4; rw [ea] at sh new q1 q6; rw [eb] at new b4; rw [HM.out] at sh q1 q6 b4; have J := l2Vector_q (g.N k) (vD g ja) m sh (by have := SP.d (k + 1) (Nat.le_refl _); rw [HM.out] at this; omega) (SP.d ja (by omega)).2 SP.nv a1 bV oV k1 aj al bj oj cj (vD g jb) cl bl ol (vV g X ja) (vV g X jb) w4.drew (QV.keep S5) SP.qw ((Qa.imp (fun _ _ _ => trivial)).keep u5) (SP.qx ja (by omega)) (fun o4 => ⟨(Qb'.imp (fun _ _ _ => trivial)).keep u5, by rw [b4 o4]; exact Nat.le_refl _, SP.qx jb (by omega)⟩) q1 q6; rw [HJA.out, HJB.out, <- new] at J; exact J
    clear g0 g1 g2 g3 g4 g5 M1 va vb q4 q5; refine wp_region_held_drew (S := (fun w' => w'.cell? ⟨wr.heap.size, 0, none⟩ = some (.int .i64 (g.N k).op) /\ w'.cell? ⟨wr.heap.size, 1, none⟩ = some (.int .i64 (ja : Int)) /\ w'.cell? ⟨wr.heap.size, 2, none⟩ = some (.int .i64 (jb : Int)) /\ w'.cell? ⟨wr.heap.size, 3, none⟩ = some (.int .i64 (g.N k).k) /\ w'.cell? ⟨wr.heap.size, 4, none⟩ = some (.int .i64 (g.N k).s) /\ w'.cell? ⟨wr.heap.size, 5, none⟩ = some (.slice a1 (g.N k).nv k1) /\ w'.cell? ⟨bd, k + 1, none⟩ = some (.int .i64 (m : Int)))) (by kernel_rfl) ⟨N5.c0, N5.c1, N5.c2, N5.c3, N5.c4, N5.c5, c5⟩ (fun hHeld => ?_); refine tk 0 47 (.slice (some ⟨gd, 0, none⟩) (k + 1) cap') ?_; simp only [ap, List.setIfInBounds_toArray, List.set_cons_zero, ls]; refine ta 1 48 (.agg #[.int .i64 (g.N k).op, .int .i64 (ja : Int), .int .i64 (jb : Int), .int .i64 (g.N k).k, .int .i64 (g.N k).s, .slice a1 (g.N k).nv k1]) ?_ ?_
    . intro w' hSw
      try dsimp only at hSw
      go_simp
    simp only [ap, List.setIfInBounds_toArray, List.set_cons_zero, ls]; refine tk 2 49 (.slice (some ⟨gd, 0, none⟩) (k + 1) cap') ?_; simp only [ap, List.setIfInBounds_toArray, List.set_cons_zero, ls]; refine ta 3 50 (.pointer (some ⟨wr.heap.size, 1, none⟩)) ?_ ?_
    . intro w' hSw
      try dsimp only at hSw
      go_simp
    simp only [ap, List.setIfInBounds_toArray, List.set_cons_zero, ls]; refine ta 4 51 (.int .i64 (ja : Int)) ?_ ?_
    . intro w' hSw
      try dsimp only at hSw
      go_simp
    simp only [ap, List.setIfInBounds_toArray, List.set_cons_zero, ls]; refine ta 5 52 (.pointer (some ⟨gd, ja, none⟩)) ?_ ?_
    . intro w' hSw
      try dsimp only at hSw
      go_simp; intro h; omega
    simp only [ap, List.setIfInBounds_toArray, List.set_cons_zero, ls]; refine tk 7 54 (.slice (some ⟨gd, 0, none⟩) (k + 1) cap') ?_; simp only [ap, List.setIfInBounds_toArray, List.set_cons_zero, ls]; refine ta 8 55 (.pointer (some ⟨wr.heap.size, 2, none⟩)) ?_ ?_
    . intro w' hSw
      try dsimp only at hSw
      go_simp
    simp only [ap, List.setIfInBounds_toArray, List.set_cons_zero, ls]; refine ta 9 56 (.int .i64 (jb : Int)) ?_ ?_
    . intro w' hSw
      try dsimp only at hSw
      go_simp
    simp only [ap, List.setIfInBounds_toArray, List.set_cons_zero, ls]; refine ta 10 57 (.pointer (some ⟨gd, jb, none⟩)) ?_ ?_
    . intro w' hSw
      try dsimp only at hSw
      go_simp; intro h; omega
    simp only [ap, List.setIfInBounds_toArray, List.set_cons_zero, ls]; refine tk 12 59 (.slice (some ⟨bd, 0, none⟩) n cap) ?_; simp only [ap, List.setIfInBounds_toArray, List.set_cons_zero, ls]; refine tk 13 60 (.int .i64 ((k + 1 : Nat) : Int)) ?_; simp only [ap, List.setIfInBounds_toArray, List.set_cons_zero, ls]; refine ta 14 61 (.pointer (some ⟨bd, k + 1, none⟩)) ?_ ?_
    . intro w' hSw
      try dsimp only at hSw
      go_simp; intro h; omega
    simp only [ap, List.setIfInBounds_toArray, List.set_cons_zero, ls]; refine ta 15 62 (.int .i64 (m : Int)) ?_ ?_
    . intro w' hSw
      try dsimp only at hSw
      go_simp
    simp only [ap, List.setIfInBounds_toArray, List.set_cons_zero, ls]; refine wpAnyH_ready (rs := [6, 11]) (by kernel_rfl) (by simp) ?_; refine AllReadyH.cons rfl (fun K hK => ?a1) (AllReadyH.cons rfl (fun K hK => ?b1) AllReadyH.nil)
    case' a1 =>
     have lx := vaj; go_simp; clear lx; refine hK.out _ _ ⟨N5.c0, N5.c1, N5.c2, N5.c3, N5.c4, N5.c5, c5⟩ (fun h1 => ?_); clear hK K hHeld; refine wpAnyH_ready (rs := [11]) (by kernel_rfl) (by simp) ?_; refine AllReadyH.cons rfl (fun K hK => ?_) AllReadyH.nil; have lx := vbj; go_simp; clear lx; refine hK.out _ _ ⟨N5.c0, N5.c1, N5.c2, N5.c3, N5.c4, N5.c5, c5⟩ (fun h2 => ?_); clear hK K h1
    case' b1 =>
     have lx := vbj; go_simp; clear lx; refine hK.out _ _ ⟨N5.c0, N5.c1, N5.c2, N5.c3, N5.c4, N5.c5, c5⟩ (fun h1 => ?_); clear hK K hHeld; refine wpAnyH_ready (rs := [6]) (by kernel_rfl) (by simp) ?_; refine AllReadyH.cons rfl (fun K hK => ?_) AllReadyH.nil; have lx := vaj; go_simp; clear lx; refine hK.out _ _ ⟨N5.c0, N5.c1, N5.c2, N5.c3, N5.c4, N5.c5, c5⟩ (fun h2 => ?_); clear hK K h1
    all_goals
     (refine wpAnyH_ready (rs := [16]) (by kernel_rfl) (by simp) ?_
      refine AllReadyH.cons rfl (fun K hK => ?_) AllReadyH.nil; go_simp
      go_wp2_with (go_at_call 57; with_reducible refine JV.mono ?_; rintro e w6 ⟨b6, cap6, rfl, hc6, hb6, Q6, s6⟩)
      have u6 := u5.trans (sM s6 u5.size); have N6 := N5.keep s6; have O6 := O.keep u6; have z6 := u6.size; have l5 := N5.lt; have l6 := N6.lt; have c6 : w6.cell? ⟨bd, k + 1, none⟩ = some (.int .i64 (m : Int)) := (s6.cell (a := ⟨bd, k + 1, none⟩) (World.block_lt_of_cell? _ _ c5)).trans c5; refine hK.out _ _ ⟨N6.c0, N6.c1, N6.c2, N6.c3, N6.c4, N6.c5, c6⟩ (fun h3 => ?_); clear hK K h2; refine wpAnyH_ready (rs := [17]) (by kernel_rfl) (by simp) ?_; refine AllReadyH.cons rfl (fun K hK => ?_) AllReadyH.nil; go_simp; have sW := sal w6 (.cells #[.slice (some ⟨b6, 0, none⟩) m cap6] 28); have T7 : w3.Since w2.heap.size (w6.alloc (.cells #[.slice (some ⟨b6, 0, none⟩) m cap6] 28)) := T.trans (sM (u6.trans (sM sW u6.size)) (by omega)); have N7 := N6.keep sW; have c7 : (w6.alloc (.cells #[.slice (some ⟨b6, 0, none⟩) m cap6] 28)).cell? ⟨bd, k + 1, none⟩ = some (.int .i64 (m : Int)) := (sW.cell (a := ⟨bd, k + 1, none⟩) (World.block_lt_of_cell? _ _ c6)).trans c6; refine hK.out _ _ ⟨N7.c0, N7.c1, N7.c2, N7.c3, N7.c4, N7.c5, c7⟩ (fun h4 => ?_); clear hK K h3; refine wpAnyH_ready (rs := [18]) (by kernel_rfl) (by simp) ?_; refine AllReadyH.cons rfl (fun K hK => ?_) AllReadyH.nil; refine step_append_lies _ rfl _ _ 94 rfl w2.heap.size 28 i0 _ 1 24 Tryz.underlying94 hi hz0 hz1 hz2 rfl (by decide) _ (k + 1) xs rfl (O6.own.alloc _) ⟨w6.heap.size, 0, none⟩ 1 1 [.slice (some ⟨b6, 0, none⟩) m cap6] rfl rfl (xv0 _ _ _) (xw4 _ rfl) (by decide) (by unfold maxLen; omega) (by omega) (by simp; omega) (w6.heap.size + 1) (by simp) ?_; intro g' capn w8 hown' hgrow hat hlt8; replace hgrow : (w6.alloc (.cells #[.slice (some ⟨b6, 0, none⟩) m cap6] 28)).grownBy w8 (Value.slice (some ⟨gd, 0, none⟩) (k + 1) cap').ownBlock := hgrow; replace hat : (Value.slice (some ⟨gd, 0, none⟩) (k + 1) cap').ownBlock = some g' ∨ g' = w6.heap.size + 1 := hat; have zz : (w6.alloc (.cells #[.slice (some ⟨b6, 0, none⟩) m cap6] 28)).heap.size = w6.heap.size + 1 := by simp
      have hlg := O.own.lt gd rfl; have hgb : ∀ q, q < w6.heap.size -> q ≠ gd -> w8.heap[q]? = (w6.alloc (.cells #[.slice (some ⟨b6, 0, none⟩) m cap6] 28)).heap[q]? := fun q hq hn => hgrow.block q (by omega) (fun e => by simp [Value.ownBlock] at e; omega)
      have T8 : w3.Since w2.heap.size w8 := T7.grown hgrow (by omega) (fun q hq => (O6.own.lt q hq).1); have c8 : w8.cell? ⟨bd, k + 1, none⟩ = some (.int .i64 (m : Int)) := (World.cell?_of_block (a := ⟨bd, k + 1, none⟩) (hgb bd (by omega) (by omega))).trans c7; have z8 := hgrow.size; refine hK.out _ _ ⟨(World.cell?_of_block (a := ⟨wr.heap.size, 0, none⟩) (hgb wr.heap.size (by omega) (by omega))).trans N7.c0, (World.cell?_of_block (a := ⟨wr.heap.size, 1, none⟩) (hgb wr.heap.size (by omega) (by omega))).trans N7.c1, (World.cell?_of_block (a := ⟨wr.heap.size, 2, none⟩) (hgb wr.heap.size (by omega) (by omega))).trans N7.c2, (World.cell?_of_block (a := ⟨wr.heap.size, 3, none⟩) (hgb wr.heap.size (by omega) (by omega))).trans N7.c3, (World.cell?_of_block (a := ⟨wr.heap.size, 4, none⟩) (hgb wr.heap.size (by omega) (by omega))).trans N7.c4, (World.cell?_of_block (a := ⟨wr.heap.size, 5, none⟩) (hgb wr.heap.size (by omega) (by omega))).trans N7.c5, c8⟩ (fun h5 => ?_); clear hK K h4; refine wpAnyH_ready (rs := [19]) (by kernel_rfl) (by simp) ?_; refine AllReadyH.cons rfl (fun K hK => ?_) AllReadyH.nil; go_simp; refine hK.out _ _ ⟨(World.cell?_of_block (a := ⟨wr.heap.size, 0, none⟩) (hgb wr.heap.size (by omega) (by omega))).trans N7.c0, (World.cell?_of_block (a := ⟨wr.heap.size, 1, none⟩) (hgb wr.heap.size (by omega) (by omega))).trans N7.c1, (World.cell?_of_block (a := ⟨wr.heap.size, 2, none⟩) (hgb wr.heap.size (by omega) (by omega))).trans N7.c2, (World.cell?_of_block (a := ⟨wr.heap.size, 3, none⟩) (hgb wr.heap.size (by omega) (by omega))).trans N7.c3, (World.cell?_of_block (a := ⟨wr.heap.size, 4, none⟩) (hgb wr.heap.size (by omega) (by omega))).trans N7.c4, (World.cell?_of_block (a := ⟨wr.heap.size, 5, none⟩) (hgb wr.heap.size (by omega) (by omega))).trans N7.c5, c8⟩ (fun h6 => ?_); clear hK K h6 h5; refine wpAnyH_done (by kernel_rfl) ?_ _
      have hat' : (Value.slice (some ⟨g', 0, none⟩) (k + 1 + 1) capn).ownBlock = (Value.slice (some ⟨gd, 0, none⟩) (k + 1) cap').ownBlock ∨ (Value.slice (some ⟨g', 0, none⟩) (k + 1 + 1) capn).ownBlock = some (w6.alloc (.cells #[.slice (some ⟨b6, 0, none⟩) m cap6] 28)).heap.size := by
       rcases hat with e | e
       . exact Or.inl e.symm
       . right; rw [zz, e]; rfl
      have hne : ∀ q, w4.drew.heap.size <= q -> (Value.slice (some ⟨gd, 0, none⟩) (k + 1) cap').ownBlock ≠ some q := fun q hq e => by
       simp [Value.ownBlock] at e
       have := u5.size; omega
      have hm := HM.out
      have OV : VecL w8 w2.heap.size (.slice (some ⟨g', 0, none⟩) (k + 1 + 1) capn) (k + 1 + 1) (vD g) (vV g X) (xs ++ [.slice (some ⟨b6, 0, none⟩) m cap6]) := by
       subst hm; exact O6.snoc sW (by omega) hgrow hown' hat' hc6 (fun _ => hne _ hb6) (Q6.imp (fun q _ hq => hne q hq))
      have OV := hide OV; clear hm hat' hat hown' hgrow hgb Q6 JV; go_wp2; go_roundw
      case rel =>
       go_light; exact ⟨k + 1, by omega, by go_num, T8, by omega, g', capn, _, rfl, OV.out⟩
      case measure => simp [intOf]; omega)
  . have e : k = out := by omega
    subst e; have nz : ¬ ((k + 1 : Nat) : Int) <= (k : Int) := by omega
    obtain ⟨-, aj, bj, oj, cj, va, -, Qa⟩ := O.vecs k (by omega); have hzk : (k : Int) < ((k + 1 : Nat) : Int) := by omega
    have eo : g.out.toNat = k := by have := HO.out; omega
    have JC := l2CopyAll_q aj bj oj (vD g k) cj (vV g X k) wr (by have := E.out.dims (j := k) (by omega); omega) (Qa.imp (fun _ _ _ => trivial)) (fun e he => E.out.qx hz HX.lim (fun k hk => by
     obtain ⟨bN, oN, -, LN⟩ := H.LN; obtain ⟨-, a1, k1, M⟩ := LN k hk; obtain ⟨ba, oa, -, LV⟩ := M.L.LV; exact LV.lim) (j := k) (by omega) he)
    rw [Nat.zero_add] at va; have EO := hide eo; clear eo hlt; go_wp2_with fail; refine JC.mono ?_; rintro e w4 ⟨a4, b4, c4, rfl, Q4, s4⟩; go_wp2; go_ret2; rw [EO.out]; exact ⟨a4, b4, 0, c4, rfl, Q4, s.trans (sM s4 s.size)⟩
theorem isValidGraph_any (g : xq8) (aL aH aN : Option Addr) (lo kL kH kN : Nat) (w : World) (hw : 0 <= w.heap.size) (hT : Tab w) (hd : g.size <= 1048576) (H : GraL w lo g aL aH aN kL kH kN) :
 Calls Tryz.prog 59 #[.agg #[.int .i64 g.inn, .int .i64 g.rounds, .slice aL g.nl kL, .slice aH g.nh kH, .slice aN g.nn kN, .int .i64 g.out]] w fun e w' => (∃ n X c a, Outc g n X c a /\ e = .returned (.bool (decide (c = 0)))) /\ w.Since w.heap.size w' := by
 have sA := sal w (.cells #[.int .i64 g.inn, .int .i64 g.rounds, .slice aL g.nl kL, .slice aH g.nh kH, .slice aN g.nn kN, .int .i64 g.out] 50); have bA := Box6.new w (.int .i64 g.inn) (.int .i64 g.rounds) (.slice aL g.nl kL) (.slice aH g.nh kH) (.slice aN g.nn kN) (.int .i64 g.out) 50; go_enter Tryz.func59, Tryz.ntmps59; go_wp2_with fail; generalize w.alloc (.cells #[.int .i64 g.inn, .int .i64 g.rounds, .slice aL g.nl kL, .slice aH g.nh kH, .slice aN g.nn kN, .int .i64 g.out] 50) = wA at *; refine (implCheckGraph_any g aL aH aN lo kL kH kN wA (Nat.zero_le _) (hT.stay hw sA) hd (H.keep sA)).mono ?_; rintro e w0 ⟨⟨n, X, c, a, ad, cap, b, rfl, O, -⟩, s0⟩; have S0 := sA.trans (sM s0 sA.size); have O := hide O
 by_cases hc : c = 0
 . subst hc
   go_wp2; go_ret; exact ⟨⟨n, X, 0, a, O.out, by simp⟩, S0⟩
 . go_wp2
   go_ret; exact ⟨⟨n, X, c, a, O.out, by simp [hc]⟩, S0⟩
theorem implEvalGraph_no (g : xq8) (aL aH aN ax : Option Addr) (lo kL kH kN lox bx ox nx cx : Nat) (X : Nat -> RatD) (w : World) (hw : 0 <= w.heap.size) (hT : Tab w) (hz : g.size + (nx + szR X nx) <= 1048576) (H : GraL w lo g aL aH aN kL kH kN) (HX : Rats w lox ax bx ox nx X) (hno : ¬ EvG g nx X) :
 Calls Tryz.prog 27 #[.agg #[.int .i64 g.inn, .int .i64 g.rounds, .slice aL g.nl kL, .slice aH g.nh kH, .slice aN g.nn kN, .int .i64 g.out], .slice ax nx cx] w fun e w' => e = .returned (.tuple #[.slice none 0 0, .bool false]) /\ w.Since w.heap.size w' := by
 have sA := sal w (.cells #[.int .i64 g.inn, .int .i64 g.rounds, .slice aL g.nl kL, .slice aH g.nh kH, .slice aN g.nn kN, .int .i64 g.out] 50); have bA := Box6.new w (.int .i64 g.inn) (.int .i64 g.rounds) (.slice aL g.nl kL) (.slice aH g.nh kH) (.slice aN g.nn kN) (.int .i64 g.out) 50; go_enter Tryz.func27, Tryz.ntmps27; go_wp2_with fail; generalize w.alloc (.cells #[.int .i64 g.inn, .int .i64 g.rounds, .slice aL g.nl kL, .slice aH g.nh kH, .slice aN g.nn kN, .int .i64 g.out] 50) = wA at *; refine (isValidGraph_any g aL aH aN lo kL kH kN wA (Nat.zero_le _) (hT.stay hw sA) (by omega) (H.keep sA)).mono ?_; rintro e w1 ⟨⟨n, Y, c, a, O, rfl⟩, s1⟩; have S1 := sA.trans (sM s1 sA.size); have B1 := bA.keep s1; have b0 := B1.c0; have O := hide O
 by_cases hc : c = 0
 rotate_left
 . have q : decide (c = 0) = false := by simpa using hc
   rw [q]; clear hc q; go_wp2; go_ret2; exact ⟨rfl, S1⟩
 subst hc; rw [show decide ((0 : Int) = 0) = true from rfl]
 by_cases hl : (nx : Int) = g.inn
 rotate_left
 . have q : ((nx : Int) != g.inn) = true := by simpa using hl
   clear hl; go_wp2; go_ret2; exact ⟨rfl, S1⟩
 have q : ((nx : Int) != g.inn) = false := by simpa using hl
 have HL := hide hl; have HN := hide hno; clear hl hno; go_wp2_with fail; refine (yj2 ax lox bx ox nx cx X w1 (Nat.zero_le _) (hT.stay hw S1) (by omega) (by omega) (HX.keep S1)).mono ?_; rintro e w2 ⟨r2, rfl, i2, s2⟩; have I2 := hide i2; have S2 := S1.trans (sM s2 S1.size); clear i2; cases r2
 . go_wp2
   go_ret2; exact ⟨rfl, S2⟩
 exact absurd (EvG.of O.out HL.out (I2.out.1 (by simp))) HN.out
theorem implEvalGraph_ok (g : xq8) (aL aH aN ax : Option Addr) (lo kL kH kN lox bx ox nx cx : Nat) (X : Nat -> RatD) (w : World) (hw : 0 <= w.heap.size) (hT : Tab w) (hz : g.size + (nx + szR X nx) <= 1048576) (hxc : nx <= cx) (H : GraL w lo g aL aH aN kL kH kN) (HX : Rats w lox ax bx ox nx X) (E : EvG g nx X) :
 Calls Tryz.prog 27 #[.agg #[.int .i64 g.inn, .int .i64 g.rounds, .slice aL g.nl kL, .slice aH g.nh kH, .slice aN g.nn kN, .int .i64 g.out], .slice ax nx cx] w fun e w' => ∃ c F, e = .returned (.tuple #[.slice (some ⟨c, 0, none⟩) (vD g g.out.toNat) (vD g g.out.toNat), .bool true]) /\ w.heap.size <= c /\
  yz7 w' c (vD g g.out.toNat) (vV g X g.out.toNat) F /\ Room w' c (vD g g.out.toNat * 3) /\ F (vD g g.out.toNat) <= w'.heap.size /\ w.Since w.heap.size w' := by
 have sA := sal w (.cells #[.int .i64 g.inn, .int .i64 g.rounds, .slice aL g.nl kL, .slice aH g.nh kH, .slice aN g.nn kN, .int .i64 g.out] 50); have bA := Box6.new w (.int .i64 g.inn) (.int .i64 g.rounds) (.slice aL g.nl kL) (.slice aH g.nh kH) (.slice aN g.nn kN) (.int .i64 g.out) 50; have QX := (HX.qs E.ok).imp (p' := fun _ => True) (fun _ _ _ => trivial); have q : ((nx : Int) != g.inn) = false := by simpa using E.x
 have E := hide E; obtain ⟨i0, hi, hz0, hz1, hz2⟩ := infoRats; go_enter Tryz.func27, Tryz.ntmps27; go_wp2_with fail; generalize w.alloc (.cells #[.int .i64 g.inn, .int .i64 g.rounds, .slice aL g.nl kL, .slice aH g.nh kH, .slice aN g.nn kN, .int .i64 g.out] 50) = wA at *; refine (isValidGraph_any g aL aH aN lo kL kH kN wA (Nat.zero_le _) (hT.stay hw sA) (by omega) (H.keep sA)).mono ?_; rintro e w1 ⟨⟨n, Y, c, a, O, rfl⟩, s1⟩; obtain ⟨rfl, -, -⟩ := E.out.outc O; rw [show decide ((0 : Int) = 0) = true from rfl]; have S1 := sA.trans (sM s1 sA.size); have B1 := bA.keep s1; have b0 := B1.c0; clear O; go_wp2_with fail; refine (yj2 ax lox bx ox nx cx X w1 (Nat.zero_le _) (hT.stay hw S1) (by omega) (by omega) (HX.keep S1)).mono ?_; rintro e w2 ⟨r2, rfl, i2, s2⟩; obtain rfl : r2 = true := i2.2 E.out.ok; have S2 := S1.trans (sM s2 S1.size); clear i2 q b0; have B2 := B1.keep s2; go_wp2_with fail; refine (allKinds_any w2).mono ?_; rintro e w3 ⟨rfl, K3, s3⟩; have S3 := S2.trans (sM s3 S2.size); have B3 := B2.keep s3; have b4 := B3.c4; have b5 := B3.c5; have z3 := s3.size; have o0 := E.out.o0; have o1 := E.out.o1; have hnn := E.out.head.n; obtain ⟨out, hout⟩ : ∃ out : Nat, g.out = out := ⟨g.out.toNat, by omega⟩; rw [hout] at b5; have hnc := H.nc; have sl1 : (out : Int) <= (kN : Int) := by omega
 have sB := sal w3 (.cells #[.slice ax nx cx] 28)
 have O1 : VecL (w3.alloc (.cells #[.slice ax nx cx] 28)) w3.heap.size (.slice (some ⟨w3.heap.size, 0, none⟩) 1 1) 1 (vD g) (vV g X) [.slice ax nx cx] := ⟨World.ownsRow_lit w3 #[.slice ax nx cx] 1 (Nat.le_refl _) (by decide) rfl, fun i hi => by
  have : i = 0 := by omega
  subst this; have eD : vD g 0 = nx := by show g.inn.toNat = nx; have := E.out.x; omega
  have Q2 := (QX.keep S3); refine ⟨ax, bx, ox, cx, by rw [eD]; rfl, by omega, fun h e => ?_, ?_⟩
  . have := Q2.lt (by omega)
    simp [Value.ownBlock] at e
    omega
  . rw [eD]
    exact (Q2.imp (p' := fun g => g < w3.heap.size) (fun _ h _ => h)).keep sB |>.imp (fun j _ hp e => by
     simp [Value.ownBlock] at e
     have hp' : j < w3.heap.size := hp; omega)⟩
 have B4 := B3.keep sB; have b4' := B4.c4; have b5' := B4.c5; rw [hout] at b5'; clear b4 b5; have hon : out <= g.nn := by omega
 have HO := hide hout; clear hout; go_wp2_with fail; have z4 : (w3.alloc (.cells #[.slice ax nx cx] 28)).heap.size = w3.heap.size + 1 := by simp
 clear b4' b5'; generalize w3.alloc (.cells #[.slice ax nx cx] 28) = w4 at *
 go_loopw [7, 36] (fun u i wr => ∃ k : Nat, k <= out /\ i = .int .i64 (k : Int) /\ w4.Since w3.heap.size wr /\ w3.heap.size < wr.heap.size /\ ∃ gd cap xs, u = .slice (some ⟨gd, 0, none⟩) (k + 1) cap /\ VecL wr w3.heap.size (.slice (some ⟨gd, 0, none⟩) (k + 1) cap) (k + 1) (vD g) (vV g X) xs) (fun _ i _ => out - (intOf i).toNat)
 case atStart => exact ⟨0, Nat.zero_le _, rfl, World.Since.refl _ _, by omega, w3.heap.size, 1, _, rfl, O1⟩
 case round =>
  obtain ⟨k, hk, rfl, T, hsz, gd, cap', xs, rfl, O⟩ := hrel; have s3r := sB.trans (sM T (Nat.le_refl _)); have s := S3.trans (sM s3r S3.size); have K := K3.keep s3r
  by_cases hlt : k < out
  . have SP := E.out.step hz HX.lim (fun k hk => by
     obtain ⟨bN, oN, -, LN⟩ := H.LN; obtain ⟨-, a1, k1, M⟩ := LN k hk; obtain ⟨ba, oa, -, LV⟩ := M.L.LV; exact LV.lim) (show k < g.nn by omega)
    obtain ⟨bN, oN, -, LN⟩ := H.LN; obtain ⟨eaN, a1, k1, M⟩ := LN k (by omega); subst eaN; obtain ⟨bV, oV, -, LV⟩ := M.L.LV; have hlg := O.own.lt gd rfl; have QV := (LV.qs SP.sh.f.ok).imp (p' := fun q => q ≠ gd) (fun q hq _ => by have := S3.size; omega); obtain ⟨ja, hja⟩ : ∃ j : Nat, (g.N k).a = j := ⟨(g.N k).a.toNat, by have := SP.a0; omega⟩; obtain ⟨jb, hjb⟩ : ∃ j : Nat, (g.N k).b = j := ⟨(g.N k).b.toNat, by have := SP.b0; omega⟩; have M1 := M.keep s; have g0 := M1.c0; have g1 := M1.c1; have g2 := M1.c2; have g3 := M1.c3; have g4 := M1.c4; have g5 := M1.c5; rw [hja] at g1; rw [hjb] at g2; have sN := sal wr (.cells #[.int .i64 (g.N k).op, .int .i64 (ja : Int), .int .i64 (jb : Int), .int .i64 (g.N k).k, .int .i64 (g.N k).s, .slice a1 (g.N k).nv k1] 84); have nB := Box6.new wr (.int .i64 (g.N k).op) (.int .i64 (ja : Int)) (.int .i64 (jb : Int)) (.int .i64 (g.N k).k) (.int .i64 (g.N k).s) (.slice a1 (g.N k).nv k1) 84; have S5 := s.trans (sM sN s.size); have O5 := O.keep sN; have hTn : Tab (wr.alloc (.cells #[.int .i64 (g.N k).op, .int .i64 (ja : Int), .int .i64 (jb : Int), .int .i64 (g.N k).k, .int .i64 (g.N k).s, .slice a1 (g.N k).nv k1] 84)) := hT.stay hw S5; have VP := vecP g X k SP ja jb hja hjb a1 bV oV k1 M.L.nc (some ⟨gd, 0, none⟩) gd 0 (k + 1) cap' _ hTn rfl (fun q => q ≠ gd) (fun q hq => by have := sN.size; omega) (QV.keep S5) O5.vecs; obtain ⟨m, hm⟩ : ∃ m, vD g (k + 1) = m := ⟨_, rfl⟩; rw [hm] at VP; have HM := hide hm; obtain ⟨TT, FF, VP⟩ := VP; have hzk : (k : Int) < (out : Int) := by omega
    have K5 := K.keep sN; clear hja hjb hm SP M1; go_wp2_with fail; generalize wr.alloc (.cells #[.int .i64 (g.N k).op, .int .i64 (ja : Int), .int .i64 (jb : Int), .int .i64 (g.N k).k, .int .i64 (g.N k).s, .slice a1 (g.N k).nv k1] 84) = w5 at *; refine (VP.op w5 _ K5).mono ?_; rintro e w6 ⟨rfl, s6⟩; have u6 := sN.trans (sM s6 sN.size); have hme := VP.me; have hen := VP.en; have JV := VP.go w6 s6; have O6 := O.keep u6; have z6 := u6.size; clear g0 g1 g2 g3 g4 g5; go_wp2_with fail; refine JV.mono ?_; rintro e w7 ⟨c7, rfl, l7, Q7, s7⟩; have u7 := u6.trans (sM s7 u6.size); have O7 := O.keep u7; have z7 := u7.size; clear hme hen JV
    go_wp2_with (at_builtin; refine wpList_append_own_at _ rfl _ _ 94 rfl w3.heap.size 28 i0 (.slice none 0 0) 1 24 Tryz.underlying94 hi hz0 hz1 hz2 rfl (by decide) _ _ _ rfl (O7.own.alloc _) ⟨w7.heap.size, 0, none⟩ 1 1 [.slice (some ⟨c7, 0, none⟩) m m] rfl rfl (xv0 _ _ _) (xw4 _ rfl) (by unfold maxLen; omega) (by omega) (by simp; omega) ?_)
    intro v' w8 hown' hgrow hnx' hat; replace hgrow : (w7.alloc (.cells #[.slice (some ⟨c7, 0, none⟩) m m] 28)).grownBy w8 (Value.slice (some ⟨gd, 0, none⟩) (k + 1) cap').ownBlock := hgrow; obtain ⟨g', capn, rfl, hg1, hg2⟩ := hown'.form (by omega); have sW := sal w7 (.cells #[.slice (some ⟨c7, 0, none⟩) m m] 28); have zz : (w7.alloc (.cells #[.slice (some ⟨c7, 0, none⟩) m m] 28)).heap.size = w7.heap.size + 1 := by simp
    have T8 := (T.trans (sM (u7.trans (sM sW u7.size)) (by omega))).grown hgrow (by omega) (fun q hq => (O7.own.lt q hq).1); have z8 := hgrow.size
    have hne : ∀ q, wr.heap.size <= q -> (Value.slice (some ⟨gd, 0, none⟩) (k + 1) cap').ownBlock ≠ some q := fun q hq e => by
     simp [Value.ownBlock] at e
     omega
    have hm := HM.out
    have OV : VecL w8 w3.heap.size (.slice (some ⟨g', 0, none⟩) (k + 1 + 1) capn) (k + 1 + 1) (vD g) (vV g X) (xs ++ [.slice (some ⟨c7, 0, none⟩) m m]) := by
     subst hm; exact O7.snoc sW (by omega) hgrow hown' (by rw [zz]; exact hat) (Nat.le_refl _) (fun _ => hne _ (by omega)) (Q7.imp (fun q _ hq e => hq.2 (by simp [Value.ownBlock] at e; omega)))
    have OV := hide OV; clear hm hat hown' hgrow Q7 hnx'; go_wp2; go_roundw
    case rel =>
     go_light; exact ⟨k + 1, by omega, by go_num, T8, by omega, g', capn, _, rfl, OV.out⟩
    case measure => simp [intOf]; omega
  . have e : k = out := by omega
    subst e; obtain ⟨-, aj, bj, oj, cj, va, -, Qa⟩ := O.vecs k (by omega); have hzk : (k : Int) < ((k + 1 : Nat) : Int) := by omega
    have eo : g.out.toNat = k := by have := HO.out; omega
    have B := B3.keep s3r; have q5 := B.c5; rw [HO.out] at q5
    have JC := ownRats_any aj bj oj (vD g k) cj (vV g X k) wr (by have := E.out.dims (j := k) (by omega); omega) (Qa.imp (fun _ _ _ => trivial)) (fun e he => E.out.qx hz HX.lim (fun k hk => by
     obtain ⟨bN, oN, -, LN⟩ := H.LN; obtain ⟨-, a1, k1, M⟩ := LN k hk; obtain ⟨ba, oa, -, LV⟩ := M.L.LV; exact LV.lim) (j := k) (by omega) he)
    rw [Nat.zero_add] at va; have EO := hide eo; clear eo hlt; go_wp2_with fail; refine JC.mono ?_; rintro e w8 ⟨c8, F8, rfl, l8, O8, R8, z8, s8⟩; go_wp2; go_ret2; rw [EO.out]; exact ⟨c8, F8, rfl, Nat.le_trans s.size l8, O8, R8, z8, s.trans (sM s8 s.size)⟩
end Go.Proofs.YthaomfabdghfjaaGreat
