import Derived.Test.YtnogbaapcjjngaaGreatDoorOwnP33
import Derived.Test.YtnogbaapcjjngaaGreatDoorOwnP20
import Derived.Test.YtnogbaapcjjngaaGreatDoorOwnP32
import Derived.Maps.AppendAt
import Derived.Deep.AppendLies
import Derived.Test.YtnogbaapcjjngaaGreatDoorOwnP4
set_option maxHeartbeats 6400000
set_option maxRecDepth 100000
namespace Go.Proofs.YtnogbaapcjjngaaGreatDoor
open Go.RowKit
theorem Box3.but {w w' : World} {c d : Nat} {x y z : Value} (h : Box3 w d x y z) (s : But c w w') (hn : d ≠ c) : Box3 w' d x y z := by
 have k : w'.heap[d]? = w.heap[d]? := s.block d h.lt (by simpa using hn); refine ⟨(World.cell?_of_block (a := ⟨d, 0, none⟩) k).trans h.c0, (World.cell?_of_block (a := ⟨d, 1, none⟩) k).trans h.c1, (World.cell?_of_block (a := ⟨d, 2, none⟩) k).trans h.c2, fun j => ?_⟩; have := h.f j; unfold World.frozen? at this ⊢; rw [k]; exact this
theorem But.marked {c d : Nat} {w w1 w2 : World} (h : But c w w1) (m : xq0 w1 w2 d) (hd : w.heap.size <= d) : But c w w2 := by
 have s := m.since (B := w.heap.size) hd; exact ⟨s.os.trans h.os, s.tape.trans h.tape, s.output.trans h.output, Nat.le_trans h.size s.size, fun q hq hn => (s.block q hq).trans (h.block q hq hn)⟩
theorem But.marked' {d : Nat} {w w1 w2 : World} (h : But d w w1) (m : xq0 w1 w2 d) : But d w w2 := by
 refine h.trans ?_; exact ⟨m.os, m.tape, m.output, Nat.le_of_eq m.size.symm, fun q hq hn => m.other q (by simpa using hn)⟩
theorem But.since' {c : Nat} {w w1 w2 : World} (h : But c w w1) (s : w1.Since w1.heap.size w2) : But c w w2 := h.trans (But.of s)
def NumE (w w' : World) (c bl wb t : Nat) (L ws : List ByteArray) (e : Ending) : Prop :=
 ((∀ x r, ws = x :: r -> (xq2 x).2.2.2 ≠ 0) /\ e = xx7 t) ∨
 ∃ x r v, ws = x :: r /\ (xq2 x).2.2.2 = 0 /\ e = .returned v /\ RatV w' v (xq2 x).1 (xq2 x).2.1 (xq2 x).2.2.1 w.heap.size 67108864 /\ Rdr w' c bl wb L t r
theorem takeNum_q (c bl wb t : Nat) (L ws : List ByteArray) (w : World) (h : Rdr w c bl wb L t ws) :
 Calls Tryz.prog 99 #[.pointer (some ⟨c, 0, none⟩)] w fun e w' => But c w w' /\ NumE w w' c bl wb t L ws e := by
 have HWZ := hide h.wz; have sA := sal w (.cells #[.bool false, .slice none 0 0, .slice none 0 0] 61); have rA := Box3.new w (.bool false) (.slice none 0 0) (.slice none 0 0) 61; have zA : Hid ((w.alloc (.cells #[.bool false, .slice none 0 0, .slice none 0 0] 61)).heap.size = w.heap.size + 1) := hide (by simp); have hlt := h.lt; have hlb := h.lb; have hlw := h.lw; go_enter Tryz.func99, Tryz.ntmps99; go_wp2_with fail; generalize w.alloc (.cells #[.bool false, .slice none 0 0, .slice none 0 0] 61) = wA at *; refine (takeWord_q c bl wb t L ws wA (h.keep sA)).mono ?_; rintro e w1 ⟨B, ⟨h1, rfl⟩ | ⟨x, r, h1, rfl, R⟩⟩
 . unfold xx7
   go_wp2; exact ⟨rfl, (But.of sA).trans B, Or.inl ⟨fun x r e => by rw [h1] at e; simp at e, rfl⟩⟩
 . have hxz : x.size <= 100000 := HWZ.out x (by rw [h1]; simp)
   have H1 := hide h1; have B1 : But c w w1 := (But.of sA).trans B; have r1 := rA.but B (by omega); have z1 := B.size; clear h1; have J := implRatParse_any x w1 (by omega) (Nat.zero_le _) trivial; obtain ⟨ng, hng⟩ : ∃ ng, (xq2 x).1 = ng := ⟨_, rfl⟩; obtain ⟨nN, hnN⟩ : ∃ n, (xq2 x).2.1 = n := ⟨_, rfl⟩; obtain ⟨nD, hnD⟩ : ∃ n, (xq2 x).2.2.1 = n := ⟨_, rfl⟩; obtain ⟨cd, hcd⟩ : ∃ n, (xq2 x).2.2.2 = n := ⟨_, rfl⟩; rw [hng, hnN, hnD, hcd] at J; have HC := hide hcd; have HV : Hid ((xq2 x).1 = ng /\ (xq2 x).2.1 = nN /\ (xq2 x).2.2.1 = nD) := hide ⟨hng, hnN, hnD⟩; clear hng hnN hnD hcd; go_wp2_with fail; refine J.mono ?_; rintro e w2 ⟨v, rfl, ⟨v1, v2, g, g', rfl, N1, N2, b1, b2, b3⟩, s2⟩; clear J; have N1' := N1; have N2' := N2; obtain ⟨a1, q1, c1, Y1, rfl, -⟩ := N1; obtain ⟨a2, q2, c2, Y2, rfl, -⟩ := N2; have r2 := r1.keep s2; have R2 := R.keep s2; have sB := sal w2 (.cells #[.bool ng, .slice a1 q1 c1, .slice a2 q2 c2] 61); have bx := Box3.new w2 (.bool ng) (.slice a1 q1 c1) (.slice a2 q2 c2) 61; have B3 : But c w (w2.alloc (.cells #[.bool ng, .slice a1 q1 c1, .slice a2 q2 c2] 61)) := (B1.since' s2).since' sB; have z2 := s2.size
   by_cases hc0 : cd = 0
   . subst hc0
     have r3 := r2.keep sB; have u0 := r3.c0; have u1 := r3.c1; have u2 := r3.c2; have uf0 := r3.f 0; have uf1 := r3.f 1; have uf2 := r3.f 2; go_wp2; have rC := ((r3.set0 (.bool ng)).set1 (.slice a1 q1 c1)).set2 (.slice a2 q2 c2); refine bodyPost_ret (rb3 rfl _ _ _ _ _ _ rfl rC) rfl ?_; have M : xq0 (w2.alloc (.cells #[.bool ng, .slice a1 q1 c1, .slice a2 q2 c2] 61)) _ w.heap.size := (((xq0.refl _ _).setCell 0 (.bool ng)).setCell 1 (.slice a1 q1 c1)).setCell 2 (.slice a2 q2 c2); have zz := zA.out; refine ⟨B3.marked M (Nat.le_refl _), Or.inr ⟨x, r, _, H1.out, HC.out, rfl, ⟨_, _, g, g', by rw [HV.out.1], ?_, ?_, by omega, by omega, b3⟩, ?_⟩⟩
     . rw [HV.out.2.1]; exact (N1'.keep sB).marked M (by omega)
     . rw [HV.out.2.2]; exact (N2'.keep sB).marked M (by omega)
     . exact (R2.keep sB).oth (d := w.heap.size) ((But.refl _ _).marked' M) (by omega) (by omega) (by omega)
   . have hcb : (cd != 0) = true := by simpa using hc0
     have HNC := hide hc0; clear hc0; go_wp2_with fail; refine (stop_q c bl wb t L r _ (R2.keep sB)).mono ?_; rintro e w3 ⟨rfl, rfl⟩; unfold xx7; go_wp2; exact ⟨rfl, B3, Or.inl ⟨fun x' r' e => by rw [H1.out] at e; simp at e; rw [<- e.1, HC.out]; exact HNC.out, rfl⟩⟩
def RatW (w : World) (p : Nat -> Prop) (u : Value) (neg : Bool) (N D M : Nat) : Prop :=
 ∃ v1 v2 g h, u = .agg #[.bool neg, v1, v2] /\ xj0 w v1 g N M /\ xj0 w v2 h D M /\ (N ≠ 0 -> p g /\ g < w.heap.size) /\ (D ≠ 0 -> p h /\ h < w.heap.size) /\ (N ≠ 0 -> D ≠ 0 -> g ≠ h)
theorem xj0.lt' {w : World} {v : Value} {g N M : Nat} (h : xj0 w v g N M) (hN : N ≠ 0) : g < w.heap.size := by
 obtain ⟨a, m, cap, Y, h1, h2, h3, h4, h5, h6, h7, h8, h9⟩ := h
 rcases Nat.eq_zero_or_pos m with e | e
 . subst e; exact absurd h9.symm hN
 . exact World.block_lt_of_cell? _ _ (h5 0 e).2
theorem xj0.blk {w w' : World} {v : Value} {g N M : Nat} (h : xj0 w v g N M) (k : N ≠ 0 -> w'.heap[g]? = w.heap[g]?) : xj0 w' v g N M := by
 obtain ⟨a, m, cap, Y, h1, h2, h3, h4, h5, h6, h7, h8, h9⟩ := h
 rcases Nat.eq_zero_or_pos m with e | e
 . subst e
   exact ⟨a, 0, cap, Y, h1, h2, h3, h4, fun j hj => absurd hj (by omega), fun h => absurd h (by omega), h7, h8, h9⟩
 . have hN : N ≠ 0 := by
    have := lv_ge Y m e (h8 e); have := Nat.two_pow_pos (32 * (m - 1)); omega
   have kk := k hN; refine ⟨a, m, cap, Y, h1, h2, h3, h4, fun j hj => ⟨(h5 j hj).1, (World.cell?_of_block (a := ⟨g, 0 + j, none⟩) kk).trans (h5 j hj).2⟩, fun h o => ?_, h7, h8, h9⟩; have := h6 h o; unfold World.frozen? at this ⊢; rw [kk]; exact this
theorem RatV.w {w : World} {v : Value} {neg : Bool} {N D B M : Nat} (h : RatV w v neg N D B M) : RatW w (fun g => B <= g) v neg N D M := by
 obtain ⟨v1, v2, g, h', e, N1, N2, b1, b2, b3⟩ := h; exact ⟨v1, v2, g, h', e, N1, N2, fun hn => ⟨b1, N1.lt' hn⟩, fun hn => ⟨b2, N2.lt' hn⟩, fun _ _ => b3⟩
theorem RatW.imp {w : World} {p p' : Nat -> Prop} {v : Value} {neg : Bool} {N D M : Nat} (h : RatW w p v neg N D M) (hp : ∀ g, g < w.heap.size -> p g -> p' g) : RatW w p' v neg N D M := by
 obtain ⟨v1, v2, g, h', e, N1, N2, b1, b2, b3⟩ := h; exact ⟨v1, v2, g, h', e, N1, N2, fun hn => ⟨hp g (b1 hn).2 (b1 hn).1, (b1 hn).2⟩, fun hn => ⟨hp h' (b2 hn).2 (b2 hn).1, (b2 hn).2⟩, b3⟩
theorem RatW.blocks {w w' : World} {p : Nat -> Prop} {v : Value} {neg : Bool} {N D M : Nat} (h : RatW w p v neg N D M) (hz : w.heap.size <= w'.heap.size) (hb : ∀ g, g < w.heap.size -> p g -> w'.heap[g]? = w.heap[g]?) : RatW w' p v neg N D M := by
 obtain ⟨v1, v2, g, h', e, N1, N2, b1, b2, b3⟩ := h; exact ⟨v1, v2, g, h', e, N1.blk (fun hn => hb g (b1 hn).2 (b1 hn).1), N2.blk (fun hn => hb h' (b2 hn).2 (b2 hn).1), fun hn => ⟨(b1 hn).1, Nat.lt_of_lt_of_le (b1 hn).2 hz⟩, fun hn => ⟨(b2 hn).1, Nat.lt_of_lt_of_le (b2 hn).2 hz⟩, b3⟩
theorem RatW.keep {w w' : World} {p : Nat -> Prop} {v : Value} {neg : Bool} {N D M : Nat} (h : RatW w p v neg N D M) (s : w.Since w.heap.size w') : RatW w' p v neg N D M := h.blocks s.size (fun g hg _ => s.block g hg)
def numD (x : ByteArray) : RatD := ratC (xq2 x).1 (xq2 x).2.1 (xq2 x).2.2.1
def WordR (w : World) (p : Nat -> Prop) (u : Value) (x : ByteArray) : Prop := RatW w p u (xq2 x).1 (xq2 x).2.1 (xq2 x).2.2.1 67108864
structure OutR (w : World) (lo : Nat) (v : Value) (k : Nat) (x : Nat -> ByteArray) (p : Nat -> Nat -> Prop) (xs : List Value) : Prop where
 own : w.ownsRow lo 61 3 v k xs
 at_ : ∀ i, i < k -> ∃ u1 u2, xs[i * 3]? = some (.bool (xq2 (x i)).1) /\ xs[i * 3 + 1]? = some u1 /\ xs[i * 3 + 2]? = some u2 /\ WordR w (fun g => p i g /\ v.ownBlock ≠ some g) (.agg #[.bool (xq2 (x i)).1, u1, u2]) (x i)
section
variable {w w' w1 : World} {lo k : Nat} {v v' : Value} {x : Nat -> ByteArray} {p : Nat -> Nat -> Prop} {xs : List Value}
theorem OutR.blocks (h : OutR w lo v k x p xs) (hz : w.heap.size <= w'.heap.size) (ho : ∀ g, v.ownBlock = some g -> w'.heap[g]? = w.heap[g]?) (hb : ∀ i g, i < k -> g < w.heap.size -> p i g -> w'.heap[g]? = w.heap[g]?) : OutR w' lo v k x p xs := by
 refine ⟨?_, fun i hi => ?_⟩
 . obtain ⟨hl, h1 | ⟨g, cap, cur, rfl, hb', hh, hr⟩⟩ := h.own
   . exact ⟨hl, Or.inl h1⟩
   . exact ⟨hl, Or.inr ⟨g, cap, cur, rfl, hb', (ho g (by simp [Value.ownBlock])).trans hh, hr⟩⟩
 . obtain ⟨u1, u2, h1, h2, h3, h4⟩ := h.at_ i hi
   exact ⟨u1, u2, h1, h2, h3, RatW.blocks h4 hz (fun g hg hp => hb i g hi hg hp.1)⟩
theorem OutR.keep (h : OutR w lo v k x p xs) (s : w.Since w.heap.size w') : OutR w' lo v k x p xs :=
 h.blocks s.size (fun g hg => s.block g (h.own.lt g hg).2) (fun _ g _ hg _ => s.block g hg)
theorem OutR.but (h : OutR w lo v k x p xs) {c : Nat} (s : But c w w') (hc : c < lo) (hp : ∀ i g, p i g -> lo <= g) : OutR w' lo v k x p xs :=
 h.blocks s.size (fun g hg => s.block g (h.own.lt g hg).2 (by have := (h.own.lt g hg).1; simp; omega)) (fun i g _ hg hp' => s.block g hg (by have := hp i g hp'; simp; omega))
theorem OutR.snoc (h : OutR w lo v k x p xs) (s1 : w.Since w.heap.size w1) (hs : w.heap.size < w1.heap.size) (g : w1.grownBy w' v.ownBlock) {u1 u2 : Value} (own : w'.ownsRow lo 61 3 v' (k + 1) (xs ++ [.bool (xq2 (x k)).1, u1, u2]))
 (hat : v'.ownBlock = v.ownBlock ∨ v'.ownBlock = some w1.heap.size) (R : WordR w (fun q => p k q /\ v.ownBlock ≠ some q) (.agg #[.bool (xq2 (x k)).1, u1, u2]) (x k)) : OutR w' lo v' (k + 1) x p (xs ++ [.bool (xq2 (x k)).1, u1, u2]) := by
 have hl : xs.length = k * 3 := h.own.1
 have mv : ∀ {i : Nat} {u : Value} {y : ByteArray}, WordR w (fun q => p i q /\ v.ownBlock ≠ some q) u y -> WordR w' (fun q => p i q /\ v'.ownBlock ≠ some q) u y := fun {i u y} r => by
  have r2 : RatW w (fun q => (p i q /\ v.ownBlock ≠ some q) /\ v'.ownBlock ≠ some q) u _ _ _ _ := RatW.imp r (fun j hj hp => ⟨hp, fun e => by
   rcases hat with h | h
   . exact hp.2 (h.symm.trans e)
   . rw [e] at h; simp at h; omega⟩)
  have r3 := r2.blocks (w' := w') (by have := g.size; omega) (fun j hj hp => (g.block j (by omega) (fun e => hp.1.2 e.symm)).trans (s1.block j hj)); exact r3.imp (fun _ _ hp => ⟨hp.1.1, hp.2⟩)
 refine ⟨own, fun i hi => ?_⟩
 by_cases e : i = k
 . subst e
   refine ⟨u1, u2, ?_, ?_, ?_, mv R⟩
   . rw [List.getElem?_append_right (by omega), hl]; simp
   . rw [List.getElem?_append_right (by omega), hl]; simp
   . rw [List.getElem?_append_right (by omega), hl]; simp
 . obtain ⟨u1', u2', h1, h2, h3, h4⟩ := h.at_ i (by omega)
   exact ⟨u1', u2', by rw [List.getElem?_append_left (by omega)]; exact h1, by rw [List.getElem?_append_left (by omega)]; exact h2, by rw [List.getElem?_append_left (by omega)]; exact h3, mv h4⟩
end
def sliceLen : Value -> Nat
 | .slice _ n _ => n
 | _ => 0
def wd (ws : List ByteArray) (i : Nat) : ByteArray := ws.getD i ⟨#[]⟩
def xw0 (x : ByteArray) : Prop := (xq2 x).2.2.2 = 0
def allNum (ws : List ByteArray) (n : Nat) : Prop := n <= ws.length /\ ∀ i, i < n -> xw0 (wd ws i)
theorem drop_wd {ws : List ByteArray} {k : Nat} {x : ByteArray} {r : List ByteArray} (h : ws.drop k = x :: r) : k < ws.length /\ wd ws k = x /\ ws.drop (k + 1) = r := by
 have hk : k < ws.length := by
  rcases Nat.lt_or_ge k ws.length with h' | h'
  . exact h'
  . rw [List.drop_of_length_le h'] at h; cases h
 rw [List.drop_eq_getElem_cons hk] at h; simp only [List.cons.injEq] at h; refine ⟨hk, ?_, h.2⟩; unfold wd; rw [List.getD_eq_getElem?_getD, List.getElem?_eq_getElem hk]; exact h.1
theorem OutR.imp {w : World} {lo k : Nat} {v : Value} {x : Nat -> ByteArray} {p p' : Nat -> Nat -> Prop} {xs : List Value} (h : OutR w lo v k x p xs) (hp : ∀ i g, i < k -> p i g -> p' i g) : OutR w lo v k x p' xs :=
 ⟨h.own, fun i hi => by
   obtain ⟨u1, u2, h1, h2, h3, h4⟩ := h.at_ i hi; exact ⟨u1, u2, h1, h2, h3, RatW.imp h4 (fun g _ hq => ⟨hp i g hi hq.1, hq.2⟩)⟩⟩
structure OutF (w : World) (lo : Nat) (v : Value) (k : Nat) (x : Nat -> ByteArray) (F : Nat -> Nat) (xs : List Value) : Prop where
 out : OutR w lo v k x (fun i q => F i <= q /\ q < F (i + 1)) xs
 mono : ∀ i, F i <= F (i + 1)
 lo : lo <= F 0
 hi : F k <= w.heap.size
theorem mono_le {F : Nat -> Nat} (h : ∀ i, F i <= F (i + 1)) {i j : Nat} (hij : i <= j) : F i <= F j := by
 induction j with
 | zero => have : i = 0 := by omega
           subst this; exact Nat.le_refl _
 | succ j ih =>
   by_cases e : i = j + 1
   . subst e; exact Nat.le_refl _
   . exact Nat.le_trans (ih (by omega)) (h j)
theorem yw0 : ∃ i, Tryz.prog.info? 61 = some i /\ i.zero = some (.agg #[.bool false, .slice none 0 0, .slice none 0 0]) /\ i.size = 3 /\ i.bytes = 56 := by
 have h : (Tryz.prog.info? 61).map (fun i => (i.zero, i.size, i.bytes)) = some (some (.agg #[.bool false, .slice none 0 0, .slice none 0 0]), 3, 56) := by kernel_rfl
 obtain ⟨i, hi, h⟩ := Option.map_eq_some_iff.1 h; simp only [Prod.mk.injEq] at h; exact ⟨i, hi, h.1, h.2.1, h.2.2⟩
theorem newR (w : World) (x y z : Value) (t : TypeId) : ∀ j u, ([x, y, z] : List Value)[j]? = some u -> (w.alloc (.cells #[x, y, z] t)).cell? ((⟨w.heap.size, 0, none⟩ : Addr).add j) = some u := fun j u hu => by
 rw [Go.WideShapes.add_plain, Nat.zero_add]
 rcases j with _ | _ | _ | j
 . simp at hu; subst hu; exact (Box3.new w x y z t).c0
 . simp at hu; subst hu; exact (Box3.new w x y z t).c1
 . simp at hu; subst hu; exact (Box3.new w x y z t).c2
 . simp at hu
theorem oneR (f : Bool) (a b : Option Addr) (n c m d : Nat) : ∀ u ∈ ([.bool f, .slice a n c, .slice b m d] : List Value), u.oneCell' = true := by
 intro u hu
 simp at hu
 rcases hu with rfl | rfl | rfl <;> rfl
theorem But.low {c : Nat} {w w1 w2 : World} (h : But c w w1) (s : w1.Since w.heap.size w2) : But c w w2 :=
 ⟨s.os.trans h.os, s.tape.trans h.tape, s.output.trans h.output, Nat.le_trans h.size s.size, fun q hq hn => (s.block q hq).trans (h.block q hq hn)⟩
def NumsE (w w' : World) (c bl wb t n : Nat) (L ws : List ByteArray) (e : Ending) : Prop :=
 (¬ allNum ws n /\ e = xx7 t) ∨
 (allNum ws n /\ ∃ v F xs, e = .returned v /\ OutF w' w.heap.size v n (wd ws) F xs /\ v ≠ .slice none 0 0 /\ Rdr w' c bl wb L t (ws.drop n))
theorem takeNums_q (cnt : Int) (n c bl wb t : Nat) (L ws : List ByteArray) (w : World) (h : Rdr w c bl wb L t ws) (hcnt : cnt = (n : Int) ∨ (cnt = -1 /\ n = ws.length)) (hn : n <= 9223372036854775807) :
 Calls Tryz.prog 98 #[.pointer (some ⟨c, 0, none⟩), .int .i64 cnt] w fun e w' => But c w w' /\ NumsE w w' c bl wb t n L ws e := by
 obtain ⟨i0, hi, hz0, hz1, hz2⟩ := yw0; have hwl := h.wl; have hcl := h.lt; have hbl := h.lb; have hwb := h.lw; have sA := sal w (.cells #[] 61); have oA : (w.alloc (.cells #[] 61)).ownsRow w.heap.size 61 3 (.slice (some ⟨w.heap.size, 0, none⟩) 0 0) 0 [] := World.ownsRow_made w #[] 0 (Nat.le_refl _) (Nat.zero_le _) rfl; go_enter Tryz.func98, Tryz.ntmps98; go_wp2_with fail
 go_loopw [5] (fun u wr => ∃ (k g cap : Nat) (xs : List Value) (F : Nat -> Nat), u = .slice (some ⟨g, 0, none⟩) k cap /\ k <= n /\ k <= ws.length /\ But c w wr /\ Hid (OutF wr w.heap.size (.slice (some ⟨g, 0, none⟩) k cap) k (wd ws) F xs) /\ Hid (∀ i, i < k -> xw0 (wd ws i)) /\ Rdr wr c bl wb L t (ws.drop k)) (fun u _ => n - sliceLen u)
 case atStart => exact ⟨0, w.heap.size, 0, [], fun _ => w.heap.size, rfl, Nat.zero_le _, Nat.zero_le _, But.of sA, hide ⟨⟨oA, fun i hi => absurd hi (by omega)⟩, fun _ => Nat.le_refl _, Nat.le_refl _, by simp⟩, hide (fun i hi => absurd hi (by omega)), by rw [List.drop_zero]; exact h.keep sA⟩
 case round =>
  obtain ⟨k, g, cap, xs, F, rfl, hkn, hkw, B, O, HK, R⟩ := hrel
  have HFAIL : Hid ((∀ x r, ws.drop k = x :: r -> (xq2 x).2.2.2 ≠ 0) -> k < n -> ¬ allNum ws n) := hide (fun hf hkn' ha => by
   have hk : k < ws.length := by have := ha.1; omega
   refine hf (wd ws k) (ws.drop (k + 1)) ?_ (ha.2 k hkn'); rw [List.drop_eq_getElem_cons hk]; unfold wd; rw [List.getD_eq_getElem?_getD, List.getElem?_eq_getElem hk]
   rfl)
  by_cases hlt : k < n
  . have HFAIL := hide (fun hf => HFAIL.out hf hlt)
    rcases hcnt with hc0 | ⟨hc0, hn0⟩
    focus
     subst hc0; have hzk : (k : Int) < (n : Int) := by omega
    rotate_left
    focus
     subst hc0; have hzk : ¬ ((k : Int) < -1) := by omega
     obtain ⟨vw, cw, aw, ow, pw, rfl, -, -⟩ := R.c2; rw [List.length_drop] at cw; obtain ⟨mw, hmw⟩ : ∃ m, ws.length - k = m := ⟨_, rfl⟩; rw [hmw] at cw; have hmw0 : (0 : Int) < (mw : Int) := by omega
     have HN0 := hide hn0; clear hn0
    all_goals
     go_wp2_with fail; refine (takeNum_q c bl wb t L (ws.drop k) wr R).mono ?_; rintro e w1 ⟨B1, ⟨h1, rfl⟩ | ⟨x, r, v, h1, h2, rfl, RV, R1⟩⟩
     . have HNO := hide (HFAIL.out h1)
       clear h1; unfold xx7; go_wp2; exact ⟨rfl, B.trans B1, Or.inl ⟨HNO.out, rfl⟩⟩
     . obtain ⟨hk, hxw, hr⟩ := drop_wd h1
       have HR := hide hr; have W1 := RV.w; obtain ⟨v1, v2, g1, g2, rfl, N1, N2, -, -, -⟩ := RV; obtain ⟨a1, q1, c1, Y1, rfl, -⟩ := N1; obtain ⟨a2, q2, c2, Y2, rfl, -⟩ := N2; have W1 : WordR w1 (fun q => wr.heap.size <= q) (.agg #[.bool (xq2 (wd ws k)).1, .slice a1 q1 c1, .slice a2 q2 c2]) (wd ws k) := by rw [hxw]; exact W1
       have HX := hide hxw; have HOK := hide h2; have z1 := B1.size; have O1 := O.out.out.but B1 hcl (fun i q hq => Nat.le_trans (Nat.le_trans O.out.lo (mono_le O.out.mono (Nat.zero_le i))) hq.1); have lg := O.out.out.own.lt g rfl; have hFk := O.out.hi; obtain ⟨nb, hnb⟩ : ∃ b, (xq2 x).1 = b := ⟨_, rfl⟩; have HNB : Hid ((xq2 (wd ws k)).1 = nb) := hide (by rw [HX.out]; exact hnb); rw [hnb]; clear h1 h2 hxw hr hnb
       go_wp2_with (at_builtin; refine wpList_append_own_at _ rfl _ _ 30 rfl w.heap.size 61 i0 _ 3 56 Tryz.underlying30 hi hz0 hz1 hz2 rfl (by decide) _ _ _ rfl (O1.own.alloc _) ⟨w1.heap.size, 0, none⟩ 1 1 [.bool nb, .slice a1 q1 c1, .slice a2 q2 c2] rfl rfl (newR _ _ _ _ _) (oneR _ _ _ _ _ _ _) (by unfold maxLen; omega) (by omega) (by have := B.size; simp; omega) ?_)
       intro v' w2 hown' hgrow hnn hat; replace hgrow : (w1.alloc (.cells #[.bool nb, .slice a1 q1 c1, .slice a2 q2 c2] 61)).grownBy w2 (Value.slice (some ⟨g, 0, none⟩) k cap).ownBlock := hgrow; obtain ⟨g', capn, rfl, hg1, hg2⟩ := hown'.form (by omega); have sW := sal w1 (.cells #[.bool nb, .slice a1 q1 c1, .slice a2 q2 c2] 61); have zW : (w1.alloc (.cells #[.bool nb, .slice a1 q1 c1, .slice a2 q2 c2] 61)).heap.size = w1.heap.size + 1 := by simp
       have z2 := hgrow.size; have hB := B.size; have sG : w1.Since w.heap.size w2 := (sM sW (show w.heap.size <= w1.heap.size by omega)).grown hgrow (by omega) (fun q hq => (O1.own.lt q hq).1); have B2 : But c w w2 := (B.trans B1).low sG
       have HF : ∀ i q, i < k -> (F i <= q /\ q < F (i + 1)) -> ((if i <= k then F i else w1.heap.size) <= q /\ q < (if i + 1 <= k then F (i + 1) else w1.heap.size)) := fun i q hi hq => by
        rw [if_pos (by omega), if_pos (by omega)]; exact hq
       have O2 := (O1.imp HF).snoc sW (by omega) hgrow (by rw [HNB.out]; exact hown') (by rw [zW]; exact hat) (RatW.imp W1 (fun q hq hp => ⟨⟨by rw [if_pos (Nat.le_refl _)]; omega, by rw [if_neg (by omega)]; exact hq⟩, fun e => by simp [Value.ownBlock] at e; omega⟩))
       have OF : Hid (OutF w2 w.heap.size (.slice (some ⟨g', 0, none⟩) (k + 1) capn) (k + 1) (wd ws) (fun j => if j <= k then F j else w1.heap.size) _) := hide ⟨O2, fun i => by
        show (if i <= k then F i else w1.heap.size) <= (if i + 1 <= k then F (i + 1) else w1.heap.size)
        by_cases e1 : i + 1 <= k
        . rw [if_pos (by omega), if_pos e1]; exact O.out.mono i
        . rw [if_neg e1]
          by_cases e2 : i <= k
          . rw [if_pos e2]
            have := mono_le O.out.mono e2; omega
          . rw [if_neg e2]; exact Nat.le_refl _, by show w.heap.size <= (if 0 <= k then F 0 else w1.heap.size); rw [if_pos (Nat.zero_le _)]; exact O.out.lo, by show (if k + 1 <= k then F (k + 1) else w1.heap.size) <= w2.heap.size; rw [if_neg (by omega)]; omega⟩
       have lR := R1.lt; have lbR := R1.lb; have lwR := R1.lw; have R2 : Rdr w2 c bl wb L t (ws.drop (k + 1)) := by rw [HR.out]; exact R1.blks (by omega) (sG.block c hcl) (sG.block bl hbl) (sG.block wb hwb)
       have HK2 : Hid (∀ i, i < k + 1 -> xw0 (wd ws i)) := hide (fun i hi => by
        by_cases e : i = k
        . subst e; unfold xw0; rw [HX.out]; exact HOK.out
        . exact HK.out i (by omega))
       clear hnn hat hown' hgrow O2 O1 W1; go_wp2; go_roundw
       case rel => exact ⟨k + 1, g', capn, _, _, rfl, by omega, by omega, B2, OF, HK2, R2⟩
       case measure => simp [sliceLen]; omega
  . have e : k = n := by omega
    subst e
    rcases hcnt with hc0 | ⟨hc0, hn0⟩
    . subst hc0
      have hzk : ¬ ((k : Int) < (k : Int)) := by omega
      have hz2' : ((k : Int) == -1) = false := by simp
      have O' := O; go_wp2; go_ret; exact ⟨B, Or.inr ⟨⟨by omega, fun i hi => HK.out i (by omega)⟩, _, F, xs, rfl, O'.out, by simp, R⟩⟩
    . subst hc0
      have hzk : ¬ ((k : Int) < -1) := by omega
      obtain ⟨vw, cw, aw, ow, pw, rfl, -, -⟩ := R.c2; rw [List.length_drop, show ws.length - k = 0 by omega] at cw; have HN0 := hide hn0; clear hn0; have O' := O; go_wp2; go_ret; exact ⟨B, Or.inr ⟨⟨by omega, fun i hi => HK.out i (by omega)⟩, _, F, xs, rfl, O'.out, by simp, R⟩⟩
theorem OutR.imp' {w : World} {lo k : Nat} {v : Value} {x : Nat -> ByteArray} {p p' : Nat -> Nat -> Prop} {xs : List Value} (h : OutR w lo v k x p xs) (hp : ∀ i g, i < k -> g < w.heap.size -> p i g -> p' i g) : OutR w lo v k x p' xs :=
 ⟨h.own, fun i hi => by
   obtain ⟨u1, u2, h1, h2, h3, h4⟩ := h.at_ i hi; exact ⟨u1, u2, h1, h2, h3, RatW.imp h4 (fun g hg hq => ⟨hp i g hi hg hq.1, hq.2⟩)⟩⟩
def eb : Value -> Option Nat
 | .slice (some a) (_ + 1) _ => some a.block
 | _ => none
theorem eb_own {u : Value} {g : Nat} (h : eb u = some g) : u.ownBlock = some g := by
 unfold eb at h
 split at h
 . exact h
 . cases h
def Apt (lo hi : Nat) (xs : List Value) : Prop := (∀ u ∈ xs, ∀ g, eb u = some g -> lo <= g /\ g < hi) /\ xs.Pairwise fun u v => ∀ g, eb u = some g -> eb v ≠ some g
theorem Apt.nil (lo hi : Nat) : Apt lo hi [] := ⟨fun u hu => by simp at hu, List.Pairwise.nil⟩
theorem Apt.append {lo hi lo' hi' : Nat} {xs ys : List Value} (h : Apt lo hi xs) (k : Apt lo' hi' ys) (h1 : hi <= lo') (h2 : lo <= lo') (h3 : hi <= hi') : Apt lo hi' (xs ++ ys) := by
 refine ⟨fun u hu g e => ?_, List.pairwise_append.2 ⟨h.2, k.2, fun a ha b hb g e e' => ?_⟩⟩
 . rcases List.mem_append.1 hu with hu | hu
   . have := h.1 u hu g e; omega
   . have := k.1 u hu g e; omega
 . have := h.1 a ha g e
   have := k.1 b hb g e'; omega
theorem Apt.perm {lo hi : Nat} {xs ys : List Value} (h : Apt lo hi xs) (p : xs.Perm ys) : Apt lo hi ys :=
 ⟨fun u hu => h.1 u (p.symm.mem_iff.1 hu), h.2.perm p (fun {_ _} hab g e e' => hab g e' e)⟩
theorem Apt.wide {lo hi lo' hi' : Nat} {xs : List Value} (h : Apt lo hi xs) (h1 : lo' <= lo) (h2 : hi <= hi') : Apt lo' hi' xs :=
 ⟨fun u hu g e => by have := h.1 u hu g e; omega, h.2⟩
theorem xj0.eb {w : World} {v : Value} {g N M q : Nat} (h : xj0 w v g N M) (e : eb v = some q) : N ≠ 0 /\ q = g := by
 obtain ⟨a, m, cap, Y, rfl, h2, h3, h4, h5, h6, h7, h8, h9⟩ := h
 rcases m with _ | m
 . cases a <;> simp [Go.Proofs.YtnogbaapcjjngaaGreatDoor.eb] at e
 . obtain ⟨ea, -⟩ := h5 0 (by omega)
   subst ea; have e : g = q := by simpa [Go.Proofs.YtnogbaapcjjngaaGreatDoor.eb] using e
   refine ⟨?_, e.symm⟩; have := lv_ge Y (m + 1) (by omega) (h8 (by omega)); have := Nat.two_pow_pos (32 * (m + 1 - 1)); omega
theorem RatW.apt {w : World} {p : Nat -> Prop} {b : Bool} {u1 u2 : Value} {neg : Bool} {N D M lo hi : Nat} (h : RatW w p (.agg #[.bool b, u1, u2]) neg N D M) (hp : ∀ g, g < w.heap.size -> p g -> lo <= g /\ g < hi) : Apt lo hi [.bool b, u1, u2] := by
 obtain ⟨v1, v2, g, h', e, N1, N2, b1, b2, b3⟩ := h; simp only [Value.agg.injEq, Array.mk.injEq, List.cons.injEq, and_true] at e; obtain ⟨-, rfl, rfl⟩ := e; refine ⟨fun u hu q e => ?_, ?_⟩
 . simp only [List.mem_cons, List.not_mem_nil, or_false] at hu
   rcases hu with rfl | rfl | rfl
   . simp [eb] at e
   . obtain ⟨hn, rfl⟩ := N1.eb e
     exact hp _ (b1 hn).2 (b1 hn).1
   . obtain ⟨hn, rfl⟩ := N2.eb e
     exact hp _ (b2 hn).2 (b2 hn).1
 . refine List.Pairwise.cons (fun v _ q e => by simp [eb] at e) (List.Pairwise.cons (fun v hv q e e' => ?_) (List.Pairwise.cons (fun v hv => by simp at hv) List.Pairwise.nil))
   simp at hv
   subst hv; obtain ⟨hn, rfl⟩ := N1.eb e; obtain ⟨hd, rfl⟩ := N2.eb e'; exact b3 hn hd rfl
theorem OutR.mem {w : World} {lo k : Nat} {v : Value} {x : Nat -> ByteArray} {p : Nat -> Nat -> Prop} {xs : List Value} (h : OutR w lo v k x p xs) {u : Value} (hu : u ∈ xs) {q : Nat} (e : eb u = some q) : ∃ i, i < k /\ p i q /\ v.ownBlock ≠ some q /\ q < w.heap.size := by
 obtain ⟨j, hj, ej⟩ := List.getElem_of_mem hu; have hl : xs.length = k * 3 := h.own.1; have hq : j / 3 < k := by omega
 obtain ⟨u1, u2, h1, h2, h3, h4⟩ := h.at_ (j / 3) hq; have hj' : xs[j]? = some u := by rw [List.getElem?_eq_getElem hj, ej]
 obtain ⟨v1, v2, g, g', e1, N1, N2, b1, b2, -⟩ := h4; simp only [Value.agg.injEq, Array.mk.injEq, List.cons.injEq, and_true, true_and] at e1; obtain ⟨rfl, rfl⟩ := e1; have : j = j / 3 * 3 ∨ j = j / 3 * 3 + 1 ∨ j = j / 3 * 3 + 2 := by omega
 rcases this with e2 | e2 | e2
 . rw [e2, h1] at hj'; simp at hj'; subst hj'; simp [eb] at e
 . rw [e2, h2] at hj'; simp at hj'; subst hj'
   obtain ⟨hn, rfl⟩ := N1.eb e; exact ⟨_, hq, (b1 hn).1.1, (b1 hn).1.2, (b1 hn).2⟩
 . rw [e2, h3] at hj'; simp at hj'; subst hj'
   obtain ⟨hn, rfl⟩ := N2.eb e; exact ⟨_, hq, (b2 hn).1.1, (b2 hn).1.2, (b2 hn).2⟩
theorem take_three {xs : List Value} {m : Nat} {a b c : Value} (h1 : xs[m * 3]? = some a) (h2 : xs[m * 3 + 1]? = some b) (h3 : xs[m * 3 + 2]? = some c) : xs.take ((m + 1) * 3) = xs.take (m * 3) ++ [a, b, c] := by
 rw [show (m + 1) * 3 = m * 3 + 1 + 1 + 1 by omega, List.take_add_one, List.take_add_one, List.take_add_one, h1, h2, h3]
 simp
theorem OutF.apt {w : World} {lo k : Nat} {v : Value} {x : Nat -> ByteArray} {F : Nat -> Nat} {xs : List Value} (h : OutF w lo v k x F xs) : Apt lo w.heap.size xs := by
 have hl : xs.length = k * 3 := h.out.own.1
 have key : ∀ m, m <= k -> Apt (F 0) (F m) (xs.take (m * 3)) := by
  intro m
  induction m with
  | zero => intro _; simp; exact Apt.nil _ _
  | succ m ih =>
    intro hm; obtain ⟨u1, u2, h1, h2, h3, h4⟩ := h.out.at_ m (by omega); rw [take_three h1 h2 h3]; exact (ih (by omega)).append (RatW.apt (lo := F m) (hi := F (m + 1)) h4 (fun g _ hp => hp.1)) (Nat.le_refl _) (mono_le h.mono (Nat.zero_le _)) (h.mono m)
 have := key k (Nat.le_refl _); rw [List.take_of_length_le (by omega)] at this; exact this.wide h.lo h.hi
structure Chg (R : Nat -> Prop) (w w' : World) : Prop where
 os : w'.os = w.os
 tape : w'.tape = w.tape
 output : w'.output = w.output
 size : w.heap.size <= w'.heap.size
 block : ∀ q, q < w.heap.size -> ¬ R q -> w'.heap[q]? = w.heap[q]?
theorem OutR.append {w w' : World} {lo k n : Nat} {v v' vr : Value} {x y : Nat -> ByteArray} {p p' : Nat -> Nat -> Prop} {xs xr : List Value} (h : OutR w lo v k x p xs) (r : OutR w lo vr n y p' xr) (g : w.grownBy w' v.ownBlock) (own : w'.ownsRow lo 61 3 v' (k + n) (xs ++ xr))
 (hat : v'.ownBlock = v.ownBlock ∨ v'.ownBlock = some w.heap.size) (hp : ∀ i q, i < n -> q < w.heap.size -> p' i q -> p (k + i) q /\ v.ownBlock ≠ some q) : OutR w' lo v' (k + n) (fun i => if i < k then x i else y (i - k)) p (xs ++ xr) := by
 have hl : xs.length = k * 3 := h.own.1
 have mv : ∀ {i : Nat} {u : Value} {z : ByteArray}, WordR w (fun q => p i q /\ v.ownBlock ≠ some q) u z -> WordR w' (fun q => p i q /\ v'.ownBlock ≠ some q) u z := fun {i u z} r => by
  have r2 : RatW w (fun q => (p i q /\ v.ownBlock ≠ some q) /\ v'.ownBlock ≠ some q) u _ _ _ _ := RatW.imp r (fun j hj hp => ⟨hp, fun e => by
   rcases hat with h | h
   . exact hp.2 (h.symm.trans e)
   . rw [e] at h; simp at h; omega⟩)
  have r3 := r2.blocks (w' := w') g.size (fun j hj hp => g.block j hj (fun e => hp.1.2 e.symm)); exact r3.imp (fun _ _ hp => ⟨hp.1.1, hp.2⟩)
 refine ⟨own, fun i hi => ?_⟩
 by_cases e : i < k
 . obtain ⟨u1, u2, h1, h2, h3, h4⟩ := h.at_ i e
   simp only [if_pos e]; exact ⟨u1, u2, by rw [List.getElem?_append_left (by omega)]; exact h1, by rw [List.getElem?_append_left (by omega)]; exact h2, by rw [List.getElem?_append_left (by omega)]; exact h3, mv h4⟩
 . obtain ⟨u1, u2, h1, h2, h3, h4⟩ := r.at_ (i - k) (by omega)
   simp only [if_neg e]; have e3 : i * 3 - xs.length = (i - k) * 3 := by omega
   refine ⟨u1, u2, ?_, ?_, ?_, mv (RatW.imp h4 (fun q hq hp' => by
    have := hp (i - k) q (by omega) hq hp'.1; rw [show k + (i - k) = i by omega] at this; exact this))⟩
   . rw [List.getElem?_append_right (by omega), e3]; exact h1
   . rw [List.getElem?_append_right (by omega), show i * 3 + 1 - xs.length = (i - k) * 3 + 1 by omega]; exact h2
   . rw [List.getElem?_append_right (by omega), show i * 3 + 2 - xs.length = (i - k) * 3 + 2 by omega]; exact h3
theorem OutR.oneCell {w : World} {lo k : Nat} {v : Value} {x : Nat -> ByteArray} {p : Nat -> Nat -> Prop} {xs : List Value} (h : OutR w lo v k x p xs) : ∀ u ∈ xs, u.oneCell' = true := fun u hu => by
 obtain ⟨j, hj, e⟩ := List.getElem_of_mem hu; have hl : xs.length = k * 3 := h.own.1; have hq : j / 3 < k := by omega
 obtain ⟨u1, u2, h1, h2, h3, v1, v2, g, g', e1, N1, N2, -⟩ := h.at_ (j / 3) hq; simp only [Value.agg.injEq, Array.mk.injEq, List.cons.injEq, and_true, true_and] at e1; obtain ⟨rfl, rfl⟩ := e1; obtain ⟨a1, q1, c1, Y1, rfl, -⟩ := N1; obtain ⟨a2, q2, c2, Y2, rfl, -⟩ := N2; have hj' : xs[j]? = some u := by rw [List.getElem?_eq_getElem hj, e]
 have : j = j / 3 * 3 ∨ j = j / 3 * 3 + 1 ∨ j = j / 3 * 3 + 2 := by omega
 rcases this with e | e | e
 . rw [e, h1] at hj'; simp at hj'; subst hj'; rfl
 . rw [e, h2] at hj'; simp at hj'; subst hj'; rfl
 . rw [e, h3] at hj'; simp at hj'; subst hj'; rfl
theorem addRow_q (d lo k n j gr cr : Nat) (C : Int) (vW : Value) (x y : Nat -> ByteArray) (p p' : Nat -> Nat -> Prop) (xs xr : List Value) (w : World) (hj : j <= 1000000) (hk : k + n <= 1000000000000) (B : Box3 w d (.int .i64 (j : Int)) (.int .i64 C) vW) (O : OutR w lo vW k x p xs) (Or_ : OutR w lo (.slice (some ⟨gr, 0, none⟩) n cr) n y p' xr)
 (hd : vW.ownBlock ≠ some d) (hlo : lo <= w.heap.size) (hpl : ∀ i q, p i q -> q ≠ d) (hp : ∀ i q, i < n -> q < w.heap.size -> p' i q -> p (k + i) q /\ vW.ownBlock ≠ some q) :
 Calls Tryz.prog 97 #[.pointer (some ⟨d, 0, none⟩), .slice (some ⟨gr, 0, none⟩) n cr] w fun e w' => e = .returned (.tuple #[]) /\ ∃ vW', Box3 w' d (.int .i64 ((j + 1 : Nat) : Int)) (.int .i64 C) vW' /\ OutR w' lo vW' (k + n) (fun i => if i < k then x i else y (i - k)) p (xs ++ xr) /\ (vW'.ownBlock = vW.ownBlock ∨ vW'.ownBlock = some w.heap.size) /\ Chg (fun q => q = d ∨ vW.ownBlock = some q) w w' := by
 obtain ⟨i0, hi, hz0, hz1, hz2⟩ := yw0; have b0 := B.c0; have b2 := B.c2; have hcl := @World.ownsRow.cells _ _ _ _ _ _ _ Or_.own; have hrl : xr.length = n * 3 := Or_.own.1; have hone := Or_.oneCell; have HCL := hide (hcl (g := gr) rfl); clear hcl; go_enter Tryz.func97, Tryz.ntmps97
 go_wp2_with (at_builtin; refine wpList_append_own_at _ rfl _ _ 30 rfl lo 61 i0 _ 3 56 Tryz.underlying30 hi hz0 hz1 hz2 rfl (by decide) _ _ _ rfl O.own ⟨gr, 0, none⟩ n _ xr rfl hrl HCL.out hone (by unfold maxLen; omega) (by omega) hlo ?_)
 intro v' w1 hown' hgrow hnn hat; have O1 := O.append Or_ hgrow hown' hat hp; have hbl := B.lt; have hdn : some d ≠ vW.ownBlock := fun e => hd e.symm
 have kd : w1.heap[d]? = w.heap[d]? := hgrow.block d hbl hdn
 have B1 : Box3 w1 d (.int .i64 (j : Int)) (.int .i64 C) vW := ⟨(World.cell?_of_block (a := ⟨d, 0, none⟩) kd).trans B.c0, (World.cell?_of_block (a := ⟨d, 1, none⟩) kd).trans B.c1, (World.cell?_of_block (a := ⟨d, 2, none⟩) kd).trans B.c2, fun q => by
  have := B.f q; unfold World.frozen? at this ⊢; rw [kd]; exact this⟩
 clear b0 b2; have b0 := B1.c0; have b2 := B1.c2; have f0 := B1.f 0; have f2 := B1.f 2; have B2 := B1.set2 v'; have d0 := B2.c0; have e0 := B2.f 0; have B3 := B2.set0 (.int .i64 ((j : Int) + 1))
 obtain ⟨av, nv, cv, ev⟩ : ∃ a m cc, v' = .slice a m cc := by
  obtain ⟨-, ⟨e, -⟩ | ⟨g', cap', cur, e, -⟩⟩ := hown'
  . exact ⟨_, _, _, e⟩
  . exact ⟨_, _, _, e⟩
 subst ev; have z1 := hgrow.size; have HG : Hid (Chg (fun q => q = d ∨ vW.ownBlock = some q) w w1) := hide ⟨hgrow.os, hgrow.tape, hgrow.output, hgrow.size, fun q hq hn => hgrow.block q hq (fun e => hn (Or.inr e.symm))⟩; have M : xq0 w1 ((w1.setCell ⟨d, 2, none⟩ (.slice av nv cv)).setCell ⟨d, 0, none⟩ (.int .i64 ((j : Int) + 1))) d := ((xq0.refl _ _).setCell 2 _).setCell 0 _; have O1 := hide O1; have HAT := hide hat; clear hown' hgrow hnn hat kd; go_wp2
 go_end0
 refine ⟨rfl, _, by rw [show ((j + 1 : Nat) : Int) = (j : Int) + 1 by omega]; exact B3, O1.out.blocks (Nat.le_of_eq M.size.symm) (fun q hq => M.other q (fun e => by
  subst e
  rcases HAT.out with h9 | h9
  . exact hd (h9.symm.trans hq)
  . rw [hq] at h9; simp at h9; omega)) (fun i q _ _ hq => M.other q (hpl i q hq)), HAT.out, ⟨M.os.trans HG.out.os, M.tape.trans HG.out.tape, M.output.trans HG.out.output, by rw [M.size]; exact HG.out.size, fun q hq hn => (M.other q (fun e => hn (Or.inl e))).trans (HG.out.block q hq hn)⟩⟩
theorem size_aff : (Tryz.prog.info? 74).map (·.size) = some 4 := by kernel_rfl
theorem affineOf_q (R C : Int) (a1 a2 : Option Addr) (n1 k1 n2 k2 : Nat) (w : World) :
 Calls Tryz.prog 100 #[.agg #[.int .i64 R, .int .i64 C, .slice a1 n1 k1], .slice a2 n2 k2] w fun e w' => e = .returned (.agg #[.int .i64 R, .int .i64 C, .slice a1 n1 k1, .slice a2 n2 k2]) /\ w.Since w.heap.size w' := by
 have sA : w.Since w.heap.size ((w.alloc (.cells #[.int .i64 R, .int .i64 C, .slice a1 n1 k1] 127)).alloc (.cells #[.int .i64 R, .int .i64 C, .slice a1 n1 k1, .slice a2 n2 k2] 74)) := ((World.Since.refl _ _).alloc (Nat.le_refl _) _).alloc (by simp) _; have rA := Box4.new (w.alloc (.cells #[.int .i64 R, .int .i64 C, .slice a1 n1 k1] 127)) (.int .i64 R) (.int .i64 C) (.slice a1 n1 k1) (.slice a2 n2 k2) 74; go_enter Tryz.func100, Tryz.ntmps100; go_wp2; rw [show (w.alloc (.cells #[.int .i64 R, .int .i64 C, .slice a1 n1 k1] 127)).heap.size = w.heap.size + 1 by simp] at rA; refine bodyPost_ret (yv2 rfl Tryz.underlying74 rfl size_aff _ _ _ _ _ _ _ rfl rA) rfl ?_; exact ⟨rfl, sA⟩
theorem Box4.but {w w' : World} {c d : Nat} {x y z u : Value} (h : Box4 w d x y z u) (s : But c w w') (hn : d ≠ c) : Box4 w' d x y z u := by
 have k : w'.heap[d]? = w.heap[d]? := s.block d (World.block_lt_of_cell? _ _ h.c0) (by simpa using hn); refine ⟨(World.cell?_of_block (a := ⟨d, 0, none⟩) k).trans h.c0, (World.cell?_of_block (a := ⟨d, 1, none⟩) k).trans h.c1, (World.cell?_of_block (a := ⟨d, 2, none⟩) k).trans h.c2, (World.cell?_of_block (a := ⟨d, 3, none⟩) k).trans h.c3, fun j => ?_⟩; have := h.f j; unfold World.frozen? at this ⊢; rw [k]; exact this
theorem wd_append (a b : List ByteArray) (i : Nat) : wd (a ++ b) i = if i < a.length then wd a i else wd b (i - a.length) := by
 unfold wd; simp only [List.getD_eq_getElem?_getD]
 split
 . rename_i h; rw [List.getElem?_append_left h]
 . rename_i h; rw [List.getElem?_append_right (by omega)]
theorem wd_take {l : List ByteArray} {C i : Nat} (h : i < C) : wd (l.take C) i = wd l i := by
 unfold wd; simp only [List.getD_eq_getElem?_getD, List.getElem?_take_of_lt h]
theorem OutR.congr {w : World} {lo k : Nat} {v : Value} {x x' : Nat -> ByteArray} {p : Nat -> Nat -> Prop} {xs : List Value} (h : OutR w lo v k x p xs) (hx : ∀ i, i < k -> x i = x' i) : OutR w lo v k x' p xs :=
 ⟨h.own, fun i hi => by rw [<- hx i hi]; exact h.at_ i hi⟩
theorem OutR.lower {w : World} {lo lo' k : Nat} {v : Value} {x : Nat -> ByteArray} {p : Nat -> Nat -> Prop} {xs : List Value} (h : OutR w lo v k x p xs) (hl : lo' <= lo) : OutR w lo' v k x p xs := by
 refine ⟨?_, h.at_⟩; obtain ⟨e, h1 | ⟨g, cap, cur, e1, hb, r⟩⟩ := h.own
 . exact ⟨e, Or.inl h1⟩
 . exact ⟨e, Or.inr ⟨g, cap, cur, e1, Nat.le_trans hl hb, r⟩⟩
def mapW : ByteArray := ⟨#[109, 97, 112]⟩
def rowOk (C : Nat) (l : List ByteArray) : Prop := l.length = C + 1 /\ allNum l (C + 1)
structure MapS (rest : List (Nat × List ByteArray)) (R C : Nat) (rs rest' : List (Nat × List ByteArray)) : Prop where
 ex : ∃ n0 x1 x2, rest = (n0, [mapW, x1, x2]) :: (rs ++ rest') /\ yz1 x1 /\ yz1 x2 /\ dv x1 x1.size = R /\ dv x2 x2.size = C
 len : rs.length = R
 rows : ∀ r ∈ rs, rowOk C r.2
theorem MapS.head {n0 : Nat} {l : List ByteArray} {rest1 rs rest' : List (Nat × List ByteArray)} {R C : Nat} (h : MapS ((n0, l) :: rest1) R C rs rest') : ∃ x1 x2, l = [mapW, x1, x2] /\ yz1 x1 /\ yz1 x2 /\ dv x1 x1.size = R /\ dv x2 x2.size = C /\ rest1 = rs ++ rest' := by
 obtain ⟨n, x1, x2, e, h1, h2, h3, h4⟩ := h.ex; simp only [List.cons.injEq, Prod.mk.injEq] at e; exact ⟨x1, x2, e.1.2, h1, h2, h3, h4, e.2⟩
theorem MapS.row {n0 n : Nat} {x1 x2 : ByteArray} {l : List ByteArray} {rest1 rs rest' rs0 more : List (Nat × List ByteArray)} {R C : Nat} (h : MapS ((n0, [mapW, x1, x2]) :: rest1) R C rs rest') (e : rest1 = rs0 ++ (n, l) :: more) (hl : rs0.length < dv x1 x1.size) : rowOk (dv x2 x2.size) l := by
 obtain ⟨y1, y2, e1, -, -, h3, h4, h5⟩ := h.head; simp only [List.cons.injEq, and_true, true_and] at e1; obtain ⟨rfl, rfl⟩ := e1
 have hr : rs[rs0.length]? = some (n, l) := by
  have : rest1[rs0.length]? = some (n, l) := by rw [e, List.getElem?_append_right (Nat.le_refl _), Nat.sub_self]; rfl
  rw [h5, List.getElem?_append_left (by rw [h.len, <- h3]; exact hl)] at this; exact this
 rw [h4]; exact h.rows _ (List.mem_of_getElem? hr)
theorem MapS.short {n0 : Nat} {x1 x2 : ByteArray} {rest1 rs rest' : List (Nat × List ByteArray)} {R C : Nat} (h : MapS ((n0, [mapW, x1, x2]) :: rest1) R C rs rest') : dv x1 x1.size <= rest1.length := by
 obtain ⟨y1, y2, e1, -, -, h3, -, h5⟩ := h.head; simp only [List.cons.injEq, and_true, true_and] at e1; obtain ⟨rfl, rfl⟩ := e1; rw [h5, List.length_append, h.len, h3]; omega
def WL (C : Nat) (rs : List (Nat × List ByteArray)) : List ByteArray := rs.flatMap fun r => r.2.take C
def BL (C : Nat) (rs : List (Nat × List ByteArray)) : List ByteArray := rs.map fun r => wd r.2 C
theorem WL_snoc (C : Nat) (rs : List (Nat × List ByteArray)) (r : Nat × List ByteArray) : WL C (rs ++ [r]) = WL C rs ++ r.2.take C := by simp [WL]
theorem BL_snoc (C : Nat) (rs : List (Nat × List ByteArray)) (r : Nat × List ByteArray) : BL C (rs ++ [r]) = BL C rs ++ [wd r.2 C] := by simp [BL]
theorem WL_len {C : Nat} {rs : List (Nat × List ByteArray)} (h : ∀ r ∈ rs, rowOk C r.2) : (WL C rs).length = rs.length * C := by
 induction rs with
 | nil => simp [WL]
 | cons r rs ih =>
   have h1 := ih (fun r' hr => h r' (by simp [hr])); have h2 := (h r (by simp)).1; have e : WL C (r :: rs) = r.2.take C ++ WL C rs := by simp [WL]
   rw [e, List.length_append, List.length_take, h1, h2, List.length_cons, Nat.add_mul]; omega
theorem BL_len (C : Nat) (rs : List (Nat × List ByteArray)) : (BL C rs).length = rs.length := by simp [BL]
structure AffO (w : World) (lo d : Nat) (vW vB : Value) (C : Nat) (rs : List (Nat × List ByteArray)) (xW xB : List Value) : Prop where
 W : OutR w lo vW (WL C rs).length (wd (WL C rs)) (fun _ q => lo <= q /\ q ≠ d /\ vB.ownBlock ≠ some q) xW
 B : OutR w lo vB (BL C rs).length (wd (BL C rs)) (fun _ q => lo <= q /\ q ≠ d /\ vW.ownBlock ≠ some q) xB
 sep : ∀ g, vW.ownBlock = some g -> vB.ownBlock ≠ some g
 dW : vW.ownBlock ≠ some d
 dB : vB.ownBlock ≠ some d
theorem AffO.but {w w' : World} {lo d c : Nat} {vW vB : Value} {C : Nat} {rs : List (Nat × List ByteArray)} {xW xB : List Value} (h : AffO w lo d vW vB C rs xW xB) (s : But c w w') (hc : c < lo) : AffO w' lo d vW vB C rs xW xB :=
 ⟨h.W.but s hc (fun _ _ hq => hq.1), h.B.but s hc (fun _ _ hq => hq.1), h.sep, h.dW, h.dB⟩
section
variable {w w' : World} {R : Nat -> Prop}
theorem Chg.of_grown {r : Option Nat} (g : w.grownBy w' r) : Chg (fun q => r = some q) w w' := ⟨g.os, g.tape, g.output, g.size, fun q hq hn => g.block q hq (fun e => hn e.symm)⟩
theorem Rdr.chg {c bl wb t : Nat} {L ws : List ByteArray} (h : Rdr w c bl wb L t ws) (k : Chg R w w') (h1 : ¬ R c) (h2 : ¬ R bl) (h3 : ¬ R wb) : Rdr w' c bl wb L t ws := h.blks k.size (k.block c h.lt h1) (k.block bl h.lb h2) (k.block wb h.lw h3)
theorem Box3.chg {d : Nat} {x y z : Value} (h : Box3 w d x y z) (k : Chg R w w') (hn : ¬ R d) : Box3 w' d x y z := by
 have kd := k.block d h.lt hn; refine ⟨(World.cell?_of_block (a := ⟨d, 0, none⟩) kd).trans h.c0, (World.cell?_of_block (a := ⟨d, 1, none⟩) kd).trans h.c1, (World.cell?_of_block (a := ⟨d, 2, none⟩) kd).trans h.c2, fun j => ?_⟩; have := h.f j; unfold World.frozen? at this ⊢; rw [kd]; exact this
theorem Box4.chg {d : Nat} {x y z u : Value} (h : Box4 w d x y z u) (k : Chg R w w') (hn : ¬ R d) : Box4 w' d x y z u := by
 have kd := k.block d (World.block_lt_of_cell? _ _ h.c0) hn; refine ⟨(World.cell?_of_block (a := ⟨d, 0, none⟩) kd).trans h.c0, (World.cell?_of_block (a := ⟨d, 1, none⟩) kd).trans h.c1, (World.cell?_of_block (a := ⟨d, 2, none⟩) kd).trans h.c2, (World.cell?_of_block (a := ⟨d, 3, none⟩) kd).trans h.c3, fun j => ?_⟩; have := h.f j; unfold World.frozen? at this ⊢; rw [kd]; exact this
theorem OutR.chg {lo k : Nat} {v : Value} {x : Nat -> ByteArray} {p : Nat -> Nat -> Prop} {xs : List Value} (h : OutR w lo v k x p xs) (kk : Chg R w w') (ho : ∀ g, v.ownBlock = some g -> ¬ R g) (hp : ∀ i g, p i g -> ¬ R g) : OutR w' lo v k x p xs :=
 h.blocks kk.size (fun g hg => kk.block g (h.own.lt g hg).2 (ho g hg)) (fun i g _ hg hq => kk.block g hg (hp i g hq))
theorem But.chg {c : Nat} {w0 : World} (h : But c w0 w) (k : Chg R w w') (hR : ∀ q, R q -> w0.heap.size <= q) : But c w0 w' :=
 ⟨k.os.trans h.os, k.tape.trans h.tape, k.output.trans h.output, Nat.le_trans h.size k.size, fun q hq hn => (k.block q (Nat.lt_of_lt_of_le hq h.size) (fun e => by have := hR q e; omega)).trans (h.block q hq hn)⟩
end
def MapE (w w' : World) (c bl t : Nat) (L : List ByteArray) (e : Ending) : Prop :=
 ((∀ R C rs rest', ¬ MapS (lnsF t (L.drop t)) R C rs rest') /\ ∃ n, e = xx7 n) ∨
 ∃ (R C : Nat) (rs rest' : List (Nat × List ByteArray)) (vW vB : Value) (xW xB : List Value) (d wb n : Nat), MapS (lnsF t (L.drop t)) R C rs rest' /\ e = .returned (.agg #[.int .i64 (R : Int), .int .i64 (C : Int), vW, vB]) /\ AffO w' w.heap.size d vW vB C rs xW xB /\ Rdr w' c bl wb L n [] /\ w.heap.size <= wb /\ lnsF n (L.drop n) = rest' /\ Apt w.heap.size w'.heap.size (xW ++ xB)
theorem lnsF_len (t : Nat) (L : List ByteArray) : (lnsF t L).length <= L.length := by
 induction L generalizing t with
 | nil => simp [lnsF]
 | cons x xs ih =>
   have := ih (t + 1); rw [lnsF]
   split
   . simp; omega
   . simp; omega
theorem rowOk.first {C : Nat} {l : List ByteArray} (h : rowOk C l) : allNum l C := ⟨by have := h.1; omega, fun i hi => h.2.2 i (by omega)⟩
theorem takeMap_q (c bl wb t : Nat) (L ws : List ByteArray) (w : World) (h : Rdr w c bl wb L t ws) :
 Calls Tryz.prog 63 #[.pointer (some ⟨c, 0, none⟩)] w fun e w' => But c w w' /\ MapE w w' c bl t L e := by
 obtain ⟨i0, hi, hz0, hz1, hz2⟩ := yw0; have hcl := h.lt; have hbl := h.lb; have hll := h.ll; have sA := sal w (.cells #[.int .i64 0, .int .i64 0, .slice none 0 0, .slice none 0 0] 74); have rA := Box4.new w (.int .i64 0) (.int .i64 0) (.slice none 0 0) (.slice none 0 0) 74; have ZA := hide (show (w.alloc (.cells #[.int .i64 0, .int .i64 0, .slice none 0 0, .slice none 0 0] 74)).heap.size = w.heap.size + 1 by simp); go_enter Tryz.func63, Tryz.ntmps63; go_wp2_with fail; generalize w.alloc (.cells #[.int .i64 0, .int .i64 0, .slice none 0 0, .slice none 0 0] 74) = wA at *; refine (needLine_q c bl wb t L ws wA (h.keep sA)).mono ?_; rintro e w1 ⟨B1, ⟨e1, rfl⟩ | ⟨n0, l, rest1, wb1, e1, rfl, R1, hw1, e2, hl0⟩⟩
 . have HNO : Hid (∀ R C rs rest', ¬ MapS (lnsF t (L.drop t)) R C rs rest') := hide (fun R C rs rest' hm => by
    obtain ⟨_, _, _, e, _⟩ := hm.ex; rw [e1] at e; cases e)
   clear e1; unfold xx7; go_wp2; exact ⟨rfl, (But.of sA).trans B1, Or.inl ⟨HNO.out, _, rfl⟩⟩
 have E1 := hide e1; have E2 := hide e2; have C1 : But c w w1 := (But.of sA).trans B1; have hd2 : w.heap.size ≠ c := by omega
 have r1 := rA.but B1 hd2; have z1 := B1.size; clear e1 e2; go_wp2_with fail; refine (takeThe_q mapW c bl wb1 n0 L l w1 R1).mono ?_; rintro e w2 ⟨B2, ⟨h2, rfl⟩ | ⟨l1, h2, rfl, R2⟩⟩
 . have HNO : Hid (∀ R C rs rest', ¬ MapS (lnsF t (L.drop t)) R C rs rest') := hide (fun R C rs rest' hm => by
    rw [E1.out] at hm; obtain ⟨x1, x2, e, _⟩ := hm.head; exact h2 _ e)
   clear h2; unfold xx7; go_wp2; exact ⟨rfl, C1.trans B2, Or.inl ⟨HNO.out, _, rfl⟩⟩
 subst h2; go_wp2_with fail; refine (takeInt_q c bl wb1 n0 L l1 w2 R2).mono ?_; rintro e w3 ⟨B3, ⟨h3, rfl⟩ | ⟨x1, l2, h3, i1, rfl, R3⟩⟩
 . have HNO : Hid (∀ R C rs rest', ¬ MapS (lnsF t (L.drop t)) R C rs rest') := hide (fun R C rs rest' hm => by
    rw [E1.out] at hm; obtain ⟨x1, x2, e, j1, _⟩ := hm.head; simp only [List.cons.injEq, true_and] at e; exact h3 _ _ e j1)
   clear h3; unfold xx7; go_wp2; exact ⟨rfl, (C1.trans B2).trans B3, Or.inl ⟨HNO.out, _, rfl⟩⟩
 subst h3; go_wp2_with fail; refine (takeInt_q c bl wb1 n0 L l2 w3 R3).mono ?_; rintro e w4 ⟨B4, ⟨h4, rfl⟩ | ⟨x2, l3, h4, i2, rfl, R4⟩⟩
 . have HNO : Hid (∀ R C rs rest', ¬ MapS (lnsF t (L.drop t)) R C rs rest') := hide (fun R C rs rest' hm => by
    rw [E1.out] at hm; obtain ⟨y1, y2, e, _, j2, _⟩ := hm.head; simp only [List.cons.injEq, true_and] at e; exact h4 _ _ e.2 j2)
   clear h4; unfold xx7; go_wp2; exact ⟨rfl, ((C1.trans B2).trans B3).trans B4, Or.inl ⟨HNO.out, _, rfl⟩⟩
 subst h4; go_wp2_with fail; refine (endLine_q c bl wb1 n0 L l3 w4 R4).mono ?_; rintro e w5 ⟨rfl, ⟨h5, rfl⟩ | ⟨h5, rfl⟩⟩
 rotate_left
 . have HNO : Hid (∀ R C rs rest', ¬ MapS (lnsF t (L.drop t)) R C rs rest') := hide (fun R C rs rest' hm => by
    rw [E1.out] at hm; obtain ⟨y1, y2, e, _⟩ := hm.head; simp only [List.cons.injEq, true_and] at e; exact h5 e.2.2)
   clear h5; unfold xx7; go_wp2; exact ⟨rfl, ((C1.trans B2).trans B3).trans B4, Or.inl ⟨HNO.out, _, rfl⟩⟩
 subst h5; have hR := xw7 i1; have hC := xw7 i2; obtain ⟨R, eR⟩ : ∃ R, dv x1 x1.size = R := ⟨_, rfl⟩; obtain ⟨C, eC⟩ : ∃ C, dv x2 x2.size = C := ⟨_, rfl⟩; rw [eR] at hR ⊢; rw [eC] at hC ⊢; have ER := hide eR; have EC := hide eC; have I1 := hide i1; have I2 := hide i2; clear eR eC i1 i2; have C5 : But c w w5 := ((C1.trans B2).trans B3).trans B4; have r5 := (((r1.but B2 hd2).but B3 hd2).but B4 hd2); have z2 := B2.size; have z3 := B3.size; have z4 := B4.size; have sB : w5.Since w5.heap.size ((w5.alloc (.cells #[] 61)).alloc (.cells #[.int .i64 0, .int .i64 (C : Int), .slice none 0 0] 127)) := ((World.Since.refl _ _).alloc (Nat.le_refl _) _).alloc (by simp) _; have bx := Box3.new (w5.alloc (.cells #[] 61)) (.int .i64 0) (.int .i64 (C : Int)) (.slice none 0 0) 127; rw [show (w5.alloc (.cells #[] 61)).heap.size = w5.heap.size + 1 by simp] at bx; have oB : ((w5.alloc (.cells #[] 61)).alloc (.cells #[.int .i64 0, .int .i64 (C : Int), .slice none 0 0] 127)).ownsRow w5.heap.size 61 3 (.slice (some ⟨w5.heap.size, 0, none⟩) 0 0) 0 [] := (World.ownsRow_made w5 #[] 0 (Nat.le_refl _) (Nat.zero_le _) rfl).alloc _; have ZB := hide (show ((w5.alloc (.cells #[] 61)).alloc (.cells #[.int .i64 0, .int .i64 (C : Int), .slice none 0 0] 127)).heap.size = w5.heap.size + 1 + 1 by simp); go_wp2_with fail; have CB := C5.since' sB; have RB := R4.keep sB; have rB := r5.keep sB; have hlo : w.heap.size + 1 <= w5.heap.size := by have := ZA.out; omega
 have A0 : AffO ((w5.alloc (.cells #[] 61)).alloc (.cells #[.int .i64 0, .int .i64 (C : Int), .slice none 0 0] 127)) w5.heap.size (w5.heap.size + 1) (.slice none 0 0) (.slice (some ⟨w5.heap.size, 0, none⟩) 0 0) C [] [] [] :=
  ⟨⟨World.ownsRow_nil _ _ _ _, fun i hi => absurd hi (by simp [WL])⟩, ⟨oB, fun i hi => absurd hi (by simp [BL])⟩, fun g e => by simp [Value.ownBlock] at e, by simp [Value.ownBlock], by simp [Value.ownBlock]⟩
 generalize (w5.alloc (.cells #[] 61)).alloc (.cells #[.int .i64 0, .int .i64 (C : Int), .slice none 0 0] 127) = wB at *; generalize w5.heap.size = lo at *; clear sB oB
 go_loopw [6, 21] (fun u i wr => ∃ (j nj wbj mB cB : Nat) (aB : Option Addr) (aW : Option Addr) (mW cW : Nat) (rs : List (Nat × List ByteArray)) (xW xB : List Value), j <= R /\ i = .int .i64 (j : Int) /\ u = .slice aB mB cB /\ But c w wr /\ lo + 1 < wr.heap.size /\ Hid (Box4 wr w.heap.size (.int .i64 0) (.int .i64 0) (.slice none 0 0) (.slice none 0 0)) /\ Hid (Box3 wr (lo + 1) (.int .i64 (j : Int)) (.int .i64 (C : Int)) (.slice aW mW cW)) /\ Hid (AffO wr lo (lo + 1) (.slice aW mW cW) (.slice aB mB cB) C rs xW xB) /\ Hid (Rdr wr c bl wbj L nj []) /\ Hid (rest1 = rs ++ lnsF nj (L.drop nj)) /\ Hid (rs.length = j) /\ Hid (∀ r ∈ rs, rowOk C r.2) /\ w.heap.size < wbj /\ Hid (Apt lo wr.heap.size (xW ++ xB))) (fun _ i _ => R - (intOf i).toNat)
 case atStart => exact ⟨0, n0, wb1, 0, 0, some ⟨lo, 0, none⟩, none, 0, 0, [], [], [], Nat.zero_le _, rfl, rfl, CB, by have := ZB.out; omega, hide rB, hide bx, hide A0, hide RB, hide E2.out.symm, hide rfl, hide (fun r hr => by simp at hr), by have := ZA.out; omega, hide (Apt.nil _ _)⟩
 case round =>
  obtain ⟨j, nj, wbj, mB, cB, aB, aW, mW, cW, rs, xW, xB, hj, rfl, rfl, CR, hzr, BR, BX, A, RD, EL, HL, HRS, HWB, HAP⟩ := hrel
  by_cases hlt : j < R
  . have hzj : (j : Int) < (R : Int) := by omega
    have hdc : lo + 1 ≠ c := by omega
    have hcl2 : c < lo := by omega
    go_wp2_with fail; refine (needLine_q c bl wbj nj L [] wr RD.out).mono ?_; rintro e w6 ⟨B6, ⟨e6, rfl⟩ | ⟨n6, l6, rest6, wb6, e6, rfl, R6, hw6, e6', hl6⟩⟩
    . have HNO : Hid (∀ R C rs rest', ¬ MapS (lnsF t (L.drop t)) R C rs rest') := hide (fun R' C' rs' rest' hm => by
       rw [E1.out] at hm; have := hm.short; rw [ER.out, EL.out, e6, List.append_nil, HL.out] at this; omega)
      clear e6; unfold xx7; go_wp2; exact ⟨rfl, CR.trans B6, Or.inl ⟨HNO.out, _, rfl⟩⟩
    have EL6 : Hid (rest1 = rs ++ (n6, l6) :: rest6) := hide (by rw [EL.out, e6])
    have HROW : Hid (∀ R C rs rest', MapS (lnsF t (L.drop t)) R C rs rest' -> rowOk (dv x2 x2.size) l6) := hide (fun R' C' rs' rest' hm => by
     rw [E1.out] at hm; exact hm.row EL6.out (by rw [HL.out, ER.out]; exact hlt))
    rw [EC.out] at HROW; have E6' := hide e6'; clear e6 e6'; have z6 := B6.size; have hC6 : C <= 9223372036854775807 := by omega
    go_wp2_with fail; refine (takeNums_q (C : Int) C c bl wb6 n6 L l6 w6 R6 (Or.inl rfl) hC6).mono ?_; rintro e w7 ⟨B7, ⟨h7, rfl⟩ | ⟨h7, v7, F7, x7, rfl, O7, hv7, R7⟩⟩
    . have HNO : Hid (∀ R C rs rest', ¬ MapS (lnsF t (L.drop t)) R C rs rest') := hide (fun R' C' rs' rest' hm => h7 (HROW.out _ _ _ _ hm).first)
      clear h7; unfold xx7; go_wp2; exact ⟨rfl, (CR.trans B6).trans B7, Or.inl ⟨HNO.out, _, rfl⟩⟩
    have H7 := hide h7; have hCl : C <= l6.length := h7.1; have hCw : C <= 100001 := Nat.le_trans hCl R6.wl; clear h7
    obtain ⟨gr, cr, rfl⟩ : ∃ gr cr, v7 = .slice (some ⟨gr, 0, none⟩) C cr := by
     obtain ⟨-, ⟨e, -⟩ | ⟨g', cap', cur, e, -⟩⟩ := O7.out.own
     . exact absurd e hv7
     . exact ⟨g', cap', e⟩
    have z7 := B7.size; have AP7 := hide O7.apt; have A7 := (A.out.but B6 hcl2).but B7 hcl2; have BX7 := (BX.out.but B6 hdc).but B7 hdc; have oWl : ∀ g, (Value.slice aW mW cW).ownBlock = some g -> lo <= g /\ g < wr.heap.size := fun g e => A.out.W.own.lt g e
    have oBl : ∀ g, (Value.slice aB mB cB).ownBlock = some g -> lo <= g /\ g < wr.heap.size := fun g e => A.out.B.own.lt g e
    have hF0 : ∀ i, w6.heap.size <= F7 i := fun i => Nat.le_trans O7.lo (mono_le O7.mono (Nat.zero_le i))
    have hjl : j <= 100001 := by
     have e9 := congrArg List.length EL.out; rw [<- E2.out, List.length_append, HL.out] at e9; have := lnsF_len n0 (L.drop n0); rw [List.length_drop] at this; omega
    have hWL : (WL C rs).length = j * C := by rw [WL_len HRS.out, HL.out]
    have hkk : (WL C rs).length + C <= 1000000000000 := by
     rw [hWL]; have := Nat.mul_le_mul hjl hCw; omega
    have J8 := addRow_q (lo + 1) lo (WL C rs).length C j gr cr (C : Int) (.slice aW mW cW) (wd (WL C rs)) (wd l6) _ _ xW x7 w7 (by omega) hkk BX7 A7.W (O7.out.lower (by omega)) A7.dW (by omega) (fun i q hq => hq.2.1) (fun i q _ _ hq => by
     have := hF0 i; exact ⟨⟨by omega, by omega, fun e => by have := oBl q e; omega⟩, fun e => by have := oWl q e; omega⟩)
    go_wp2_with fail; refine J8.mono ?_; rintro e w8 ⟨rfl, vW8, BX8, OW8, hat8, CH8⟩; clear J8
    obtain ⟨aW8, mW8, cW8, eW8⟩ : ∃ a m cc, vW8 = .slice a m cc := by
     obtain ⟨-, ⟨e, -⟩ | ⟨g', cap', cur, e, -⟩⟩ := OW8.own
     . exact ⟨_, _, _, e⟩
     . exact ⟨_, _, _, e⟩
    subst eW8
    have OW8' : OutR w8 lo (.slice aW8 mW8 cW8) (WL C (rs ++ [(n6, l6)])).length (wd (WL C (rs ++ [(n6, l6)]))) (fun _ q => lo <= q /\ q ≠ lo + 1 /\ (Value.slice aB mB cB).ownBlock ≠ some q) (xW ++ x7) := by
     have e1 : (WL C (rs ++ [(n6, l6)])).length = (WL C rs).length + C := by rw [WL_snoc, List.length_append, List.length_take, Nat.min_eq_left hCl]
     rw [e1]; refine OW8.congr (fun i hi => ?_); rw [WL_snoc, wd_append]
     show (if i < (WL C rs).length then wd (WL C rs) i else wd l6 (i - (WL C rs).length)) = _
     split
     . rfl
     . exact (wd_take (by omega)).symm
    have z8 := CH8.size
    have nR : ∀ q, q < lo -> ¬ (q = lo + 1 ∨ (Value.slice aW mW cW).ownBlock = some q) := fun q hq e => by
     rcases e with e | e
     . omega
     . have := oWl q e; omega
    have nR6 : ∀ q, wr.heap.size <= q -> ¬ (q = lo + 1 ∨ (Value.slice aW mW cW).ownBlock = some q) := fun q hq e => by
     rcases e with e | e
     . omega
     . have := oWl q e; omega
    have oW8l : ∀ g, (Value.slice aW8 mW8 cW8).ownBlock = some g -> lo <= g /\ g < w8.heap.size := fun g e => OW8.own.lt g e
    have sep8 : ∀ g, (Value.slice aW8 mW8 cW8).ownBlock = some g -> (Value.slice aB mB cB).ownBlock ≠ some g := fun g e e' => by
     rcases hat8 with h9 | h9
     . exact A7.sep g (h9.symm.trans e) e'
     . rw [e] at h9; simp at h9; have := oBl g e'; omega
    have dW8 : (Value.slice aW8 mW8 cW8).ownBlock ≠ some (lo + 1) := fun e => by
     rcases hat8 with h9 | h9
     . exact A7.dW (h9.symm.trans e)
     . rw [e] at h9; simp at h9; omega
    have OB8 : OutR w8 lo (.slice aB mB cB) (BL C rs).length (wd (BL C rs)) (fun _ q => lo <= q /\ q ≠ lo + 1 /\ (Value.slice aW8 mW8 cW8).ownBlock ≠ some q) xB := by
     have h1 := A7.B.imp' (p' := fun _ q => (lo <= q /\ q ≠ lo + 1 /\ (Value.slice aW mW cW).ownBlock ≠ some q) /\ (Value.slice aW8 mW8 cW8).ownBlock ≠ some q) (fun i q _ hq hp => ⟨hp, fun e => by
      rcases hat8 with h9 | h9
      . exact hp.2.2 (h9.symm.trans e)
      . rw [e] at h9; simp at h9; omega⟩)
     have h2 := h1.chg CH8 (fun g e e' => by
      rcases e' with e' | e'
      . subst e'; exact A7.dB e
      . exact A7.sep g e' e) (fun i q hq e' => by
      rcases e' with e' | e'
      . exact hq.1.2.1 e'
      . exact hq.1.2.2 e')
     exact h2.imp' (fun i q _ _ hq => ⟨hq.1.1, hq.1.2.1, hq.2⟩)
    have R8 := R7.chg CH8 (nR c hcl2) (nR bl (by omega)) (nR6 wb6 (by omega)); have BR8 := (((BR.out.but B6 hd2).but B7 hd2).chg CH8 (nR _ (by omega)))
    have C8 : But c w w8 := ((CR.trans B6).trans B7).chg CH8 (fun q e => by
     rcases e with e | e
     . omega
     . have := oWl q e; omega)
    have HBX8 := hide BX8; have HOW8 := hide OW8'; have HOB8 := hide OB8; have HSEP8 := hide sep8; have HDW8 := hide dW8; have HR8 := hide R8; have HBR8 := hide BR8; clear OW8 OW8' OB8 CH8 A7 BX7 BX8 hat8 nR nR6 sep8 dW8 R8 BR8 O7; go_wp2_with fail; refine (takeNum_q c bl wb6 n6 L (l6.drop C) w8 HR8.out).mono ?_; rintro e w9 ⟨B9, ⟨h9, rfl⟩ | ⟨y, r9, v9, h9, k9, rfl, RV, R9⟩⟩
    . have HNO : Hid (∀ R C rs rest', ¬ MapS (lnsF t (L.drop t)) R C rs rest') := hide (fun R' C' rs' rest' hm => by
       have hrow := HROW.out _ _ _ _ hm; have hk : C < l6.length := by rw [hrow.1]; omega
       refine h9 (wd l6 C) (l6.drop (C + 1)) ?_ (hrow.2.2 C (by omega)); rw [List.drop_eq_getElem_cons hk]; unfold wd; rw [List.getD_eq_getElem?_getD, List.getElem?_eq_getElem hk]
       rfl)
      clear h9; unfold xx7; go_wp2; exact ⟨rfl, C8.trans B9, Or.inl ⟨HNO.out, _, rfl⟩⟩
    obtain ⟨hk9, hyw, hr9⟩ := drop_wd h9; have W9 := RV.w; obtain ⟨v1, v2, g1, g2, rfl, N1, N2, -, -, -⟩ := RV; obtain ⟨a1, q1, c1, Y1, rfl, -⟩ := N1; obtain ⟨a2, q2, c2, Y2, rfl, -⟩ := N2
    have eBk : wd (BL C (rs ++ [(n6, l6)])) (BL C rs).length = y := by
     rw [BL_snoc, wd_append, if_neg (by omega), Nat.sub_self]; exact hyw
    have W9 : WordR w9 (fun q => w8.heap.size <= q) (.agg #[.bool (xq2 (wd (BL C (rs ++ [(n6, l6)])) (BL C rs).length)).1, .slice a1 q1 c1, .slice a2 q2 c2]) (wd (BL C (rs ++ [(n6, l6)])) (BL C rs).length) := by rw [eBk]; exact W9
    obtain ⟨nb, hnb⟩ : ∃ b, (xq2 y).1 = b := ⟨_, rfl⟩; have HNB : Hid ((xq2 (wd (BL C (rs ++ [(n6, l6)])) (BL C rs).length)).1 = nb) := hide (by rw [eBk]; exact hnb); rw [hnb]; have HR9 := hide hr9; have HY := hide hyw; have HK9 := hide k9; have z9 := B9.size; have AP9 := hide (RatW.apt (lo := w8.heap.size) (hi := w9.heap.size) W9 (fun g hg hp => ⟨hp, hg⟩)); have eBl : (BL C rs).length = j := by rw [BL_len, HL.out]
    have OB9 : OutR w9 lo (.slice aB mB cB) (BL C rs).length (wd (BL C (rs ++ [(n6, l6)]))) (fun _ q => lo <= q /\ q ≠ lo + 1 /\ (Value.slice aW8 mW8 cW8).ownBlock ≠ some q) xB := ((HOB8.out.but B9 hcl2 (fun _ _ hq => hq.1))).congr (fun i hi => by rw [BL_snoc, wd_append, if_pos hi])
    have hmB : mB = (BL C rs).length := by
     obtain ⟨hl, ⟨e, e2⟩ | ⟨g', cap', cur, e, -⟩⟩ := OB9.own
     . simp only [Value.slice.injEq] at e; omega
     . simp only [Value.slice.injEq] at e; exact e.2.1
    have HMB := hide hmB; have HEB := hide eBl; have hBl : (BL C rs).length <= 100001 := by omega
    clear h9 k9 hyw hr9 hnb eBk hmB eBl
    go_wp2_with (at_builtin; refine wpList_append_own_at _ rfl _ _ 30 rfl lo 61 i0 _ 3 56 Tryz.underlying30 hi hz0 hz1 hz2 rfl (by decide) _ (BL C rs).length _ rfl (OB9.own.alloc _) ⟨w9.heap.size, 0, none⟩ 1 1 [.bool nb, .slice a1 q1 c1, .slice a2 q2 c2] rfl rfl (newR _ _ _ _ _) (oneR _ _ _ _ _ _ _) (by unfold maxLen; omega) (by omega) (by simp; omega) ?_)
    intro v' w10 hown' hgrow hnn hat; replace hgrow : (w9.alloc (.cells #[.bool nb, .slice a1 q1 c1, .slice a2 q2 c2] 61)).grownBy w10 (Value.slice aB mB cB).ownBlock := hgrow; have sW := sal w9 (.cells #[.bool nb, .slice a1 q1 c1, .slice a2 q2 c2] 61); have zW : (w9.alloc (.cells #[.bool nb, .slice a1 q1 c1, .slice a2 q2 c2] 61)).heap.size = w9.heap.size + 1 := by simp
    have z10 := hgrow.size; have hat' : v'.ownBlock = (Value.slice aB mB cB).ownBlock ∨ v'.ownBlock = some (w9.heap.size + 1) := hat; have OB10 := OB9.snoc sW (by omega) hgrow (by rw [HNB.out]; exact hown') (by rw [zW]; exact hat') (RatW.imp W9 (fun q hq hp => ⟨⟨by omega, by omega, fun e => by have := oW8l q e; omega⟩, fun e => by have := oBl q e; omega⟩))
    obtain ⟨aB', mB', cB', eB'⟩ : ∃ a m cc, v' = .slice a m cc := by
     obtain ⟨-, ⟨e, -⟩ | ⟨g', cap', cur, e, -⟩⟩ := hown'
     . exact ⟨_, _, _, e⟩
     . exact ⟨_, _, _, e⟩
    subst eB'; have CH10 : Chg (fun q => (Value.slice aB mB cB).ownBlock = some q) w9 w10 := ⟨hgrow.os.trans sW.os, hgrow.tape.trans sW.tape, hgrow.output.trans sW.output, by omega, fun q hq hn => (hgrow.block q (by omega) (fun e => hn e.symm)).trans (sW.block q hq)⟩; have nR : ∀ q, q < lo -> ¬ ((Value.slice aB mB cB).ownBlock = some q) := fun q hq e => by have := oBl q e; omega
    have nR6 : ∀ q, wr.heap.size <= q -> ¬ ((Value.slice aB mB cB).ownBlock = some q) := fun q hq e => by have := oBl q e; omega
    have dB10 : (Value.slice aB mB cB).ownBlock ≠ some (lo + 1) := A.out.dB
    have OW10 : OutR w10 lo (.slice aW8 mW8 cW8) (WL C (rs ++ [(n6, l6)])).length (wd (WL C (rs ++ [(n6, l6)]))) (fun _ q => lo <= q /\ q ≠ lo + 1 /\ (Value.slice aB' mB' cB').ownBlock ≠ some q) (xW ++ x7) := by
     have h1 := (HOW8.out.but B9 hcl2 (fun _ _ hq => hq.1)).imp' (p' := fun _ q => (lo <= q /\ q ≠ lo + 1 /\ (Value.slice aB mB cB).ownBlock ≠ some q) /\ (Value.slice aB' mB' cB').ownBlock ≠ some q) (fun i q _ hq hp => ⟨hp, fun e => by
      rcases hat' with h9 | h9
      . exact hp.2.2 (h9.symm.trans e)
      . rw [e] at h9; simp at h9; omega⟩)
     have h2 := h1.chg CH10 (fun g e e' => HSEP8.out g e e') (fun i q hq e' => hq.1.2.2 e'); exact h2.imp' (fun i q _ _ hq => ⟨hq.1.1, hq.1.2.1, hq.2⟩)
    have A10 : Hid (AffO w10 lo (lo + 1) (.slice aW8 mW8 cW8) (.slice aB' mB' cB') C (rs ++ [(n6, l6)]) (xW ++ x7) _) := hide ⟨OW10, by rw [show (BL C (rs ++ [(n6, l6)])).length = (BL C rs).length + 1 by simp [BL]]; exact OB10, fun g e e' => by
     rcases hat' with h9 | h9
     . exact HSEP8.out g e (h9.symm.trans e')
     . rw [e'] at h9; simp at h9; have := oW8l g e; omega, HDW8.out, fun e => by
     rcases hat' with h9 | h9
     . exact dB10 (h9.symm.trans e)
     . rw [e] at h9; simp at h9; omega⟩
    have R10 := R9.chg CH10 (nR c hcl2) (nR bl (by omega)) (nR6 wb6 (by omega)); have HBX10 := hide ((HBX8.out.but B9 hdc).chg CH10 dB10); have HBR10 := hide ((HBR8.out.but B9 hd2).chg CH10 (nR _ (by omega))); have C10 : But c w w10 := (C8.trans B9).chg CH10 (fun q e => by have := oBl q e; omega); clear hnn hat hat' hown' hgrow OW10 OB10 OB9 CH10 nR nR6 W9; go_wp2_with fail; refine (endLine_q c bl wb6 n6 L r9 w10 R10).mono ?_; rintro e w11 ⟨rfl, ⟨h11, rfl⟩ | ⟨h11, rfl⟩⟩
    rotate_left
    . have HNO : Hid (∀ R C rs rest', ¬ MapS (lnsF t (L.drop t)) R C rs rest') := hide (fun R' C' rs' rest' hm => by
       have hrow := HROW.out _ _ _ _ hm; refine h11 ?_; rw [<- HR9.out]; exact List.drop_of_length_le (by rw [hrow.1]; exact Nat.le_refl _))
      clear h11; unfold xx7; go_wp2; exact ⟨rfl, C10, Or.inl ⟨HNO.out, _, rfl⟩⟩
    have HROK : Hid (rowOk C l6) := hide ⟨by
     have e1 : (l6.drop (C + 1)).length = 0 := by rw [HR9.out, h11]; rfl
     rw [List.length_drop] at e1; omega, by omega, fun i hi => by
     by_cases e : i = C
     . subst e; unfold xw0; rw [HY.out]; exact HK9.out
     . exact H7.out.2 i (by omega)⟩
    subst h11
    have HAP10 : Hid (Apt lo w11.heap.size ((xW ++ x7) ++ (xB ++ [.bool (xq2 (wd (BL C (rs ++ [(n6, l6)])) (BL C rs).length)).1, .slice a1 q1 c1, .slice a2 q2 c2]))) := hide (by
     have h1 := (HAP.out.append AP7.out (by omega) (by omega) (by omega)).append AP9.out (by omega) (by omega) (by omega); refine (h1.wide (Nat.le_refl _) (by omega)).perm ?_; rw [List.append_assoc xW xB x7, <- List.append_assoc (xW ++ x7) xB]; refine List.Perm.append_right _ ?_; rw [List.append_assoc]; exact List.Perm.append_left _ List.perm_append_comm)
    have HL10 : Hid ((rs ++ [(n6, l6)]).length = j + 1) := hide (by simp; exact HL.out)
    have HRS10 : Hid (∀ r ∈ rs ++ [(n6, l6)], rowOk C r.2) := hide (fun r hr => by
     rcases List.mem_append.1 hr with hr | hr
     . exact HRS.out r hr
     . simp at hr; subst hr; exact HROK.out)
    have EL10 : Hid (rest1 = (rs ++ [(n6, l6)]) ++ lnsF n6 (L.drop n6)) := hide (by rw [EL6.out, E6'.out]; simp); have hRd := hide R10; have zz10 : lo + 1 < w11.heap.size := by omega
    clear R10 EL EL6; go_wp2; go_roundw
    case rel => exact ⟨j + 1, n6, wb6, mB', cB', aB', aW8, mW8, cW8, rs ++ [(n6, l6)], xW ++ x7, _, by omega, by go_num, rfl, C10, zz10, HBR10, HBX10, A10, hRd, EL10, HL10, HRS10, by omega, HAP10⟩
    case measure => simp [intOf]; omega
  . have e : j = R := by omega
    subst e; have hzj : ¬ ((j : Int) < (j : Int)) := by omega
    have b0 := BX.out.c0; have b1 := BX.out.c1; have b2 := BX.out.c2; go_wp2_with fail; refine (affineOf_q (j : Int) (C : Int) aW aB mW cW mB cB wr).mono ?_; rintro e w6 ⟨rfl, s6⟩; clear b0 b1 b2; have BR6 := BR.out.keep s6; have u0 := BR6.c0; have u1 := BR6.c1; have u2 := BR6.c2; have u3 := BR6.c3; have uf0 := BR6.f 0; have uf1 := BR6.f 1; have uf2 := BR6.f 2; have uf3 := BR6.f 3; go_wp2; have rC := (((BR6.set0 (.int .i64 (j : Int))).set1 (.int .i64 (C : Int))).set2 (.slice aW mW cW)).set3 (.slice aB mB cB); refine bodyPost_ret (yv2 rfl Tryz.underlying74 rfl size_aff _ _ _ _ _ _ _ rfl rC) rfl ?_; have M : xq0 w6 _ w.heap.size := ((((xq0.refl w6 _).setCell 0 (.int .i64 (j : Int))).setCell 1 (.int .i64 (C : Int))).setCell 2 (.slice aW mW cW)).setCell 3 (.slice aB mB cB); have CH : Chg (fun q => q = w.heap.size) w6 _ := ⟨M.os, M.tape, M.output, Nat.le_of_eq M.size.symm, fun q _ hn => M.other q hn⟩; have A6 : AffO w6 lo (lo + 1) (.slice aW mW cW) (.slice aB mB cB) C rs xW xB := ⟨A.out.W.keep s6, A.out.B.keep s6, A.out.sep, A.out.dW, A.out.dB⟩; refine ⟨(CR.since' s6).marked M (Nat.le_refl _), Or.inr ⟨j, C, rs, lnsF nj (L.drop nj), _, _, xW, xB, lo + 1, wbj, nj, ⟨⟨n0, x1, x2, by rw [E1.out, EL.out], I1.out, I2.out, ER.out, EC.out⟩, HL.out, HRS.out⟩, rfl, ⟨?_, ?_, A6.sep, A6.dW, A6.dB⟩, ?_, by omega, rfl, HAP.out.wide (by omega) (by have := s6.size; rw [M.size]; exact this)⟩⟩
    . exact ((A6.W.chg CH (fun g e e' => by have := (A6.W.own.lt g e).1; omega) (fun i q hq e' => by have := hq.1; omega)).lower (by omega)).imp' (fun i q _ _ hq => ⟨by have := hq.1; omega, hq.2⟩)
    . exact ((A6.B.chg CH (fun g e e' => by have := (A6.B.own.lt g e).1; omega) (fun i q hq e' => by have := hq.1; omega)).lower (by omega)).imp' (fun i q _ _ hq => ⟨by have := hq.1; omega, hq.2⟩)
    . exact (RD.out.keep s6).chg CH (by omega) (by omega) (by omega)
structure AffX (w : World) (p : Nat -> Prop) (vW vB : Value) (C : Nat) (rs : List (Nat × List ByteArray)) (xW xB : List Value) : Prop where
 W : OutR w 0 vW (WL C rs).length (wd (WL C rs)) (fun _ q => p q) xW
 B : OutR w 0 vB (BL C rs).length (wd (BL C rs)) (fun _ q => p q) xB
 pW : ∀ g, vW.ownBlock = some g -> p g
 pB : ∀ g, vB.ownBlock = some g -> p g
section
variable {w w' : World} {p p' : Nat -> Prop} {vW vB : Value} {C : Nat} {rs : List (Nat × List ByteArray)} {xW xB : List Value}
theorem AffO.x {lo d : Nat} (h : AffO w lo d vW vB C rs xW xB) : AffX w (fun q => lo <= q) vW vB C rs xW xB :=
 ⟨(h.W.lower (Nat.zero_le _)).imp' (fun _ _ _ _ hq => hq.1), (h.B.lower (Nat.zero_le _)).imp' (fun _ _ _ _ hq => hq.1), fun g e => (h.W.own.lt g e).1, fun g e => (h.B.own.lt g e).1⟩
theorem AffO.apt {lo d : Nat} (h : AffO w lo d vW vB C rs xW xB) (a : Apt lo w.heap.size (xW ++ xB)) : Apt lo w.heap.size (vW :: vB :: (xW ++ xB)) := by
 have nn : ∀ u ∈ xW ++ xB, ∀ g, eb u = some g -> vW.ownBlock ≠ some g /\ vB.ownBlock ≠ some g := fun u hu g e => by
  rcases List.mem_append.1 hu with hu | hu
  . obtain ⟨i, -, hp, hv, -⟩ := h.W.mem hu e
    exact ⟨hv, hp.2.2⟩
  . obtain ⟨i, -, hp, hv, -⟩ := h.B.mem hu e
    exact ⟨hp.2.2, hv⟩
 refine ⟨fun u hu g e => ?_, List.Pairwise.cons (fun u hu g e e' => ?_) (List.Pairwise.cons (fun u hu g e e' => (nn u hu g e').2 (eb_own e)) a.2)⟩
 . rcases List.mem_cons.1 hu with rfl | hu
   . exact h.W.own.lt g (eb_own e)
   . rcases List.mem_cons.1 hu with rfl | hu
     . exact h.B.own.lt g (eb_own e)
     . exact a.1 u hu g e
 . rcases List.mem_cons.1 hu with rfl | hu
   . exact h.sep g (eb_own e) (eb_own e')
   . exact (nn u hu g e').1 (eb_own e)
theorem AffX.imp (h : AffX w p vW vB C rs xW xB) (hp : ∀ g, g < w.heap.size -> p g -> p' g) : AffX w p' vW vB C rs xW xB :=
 ⟨h.W.imp' (fun _ g _ hg hq => hp g hg hq), h.B.imp' (fun _ g _ hg hq => hp g hg hq), fun g e => hp g (h.W.own.lt g e).2 (h.pW g e), fun g e => hp g (h.B.own.lt g e).2 (h.pB g e)⟩
theorem AffX.blocks (h : AffX w p vW vB C rs xW xB) (hz : w.heap.size <= w'.heap.size) (hb : ∀ g, g < w.heap.size -> p g -> w'.heap[g]? = w.heap[g]?) : AffX w' p vW vB C rs xW xB :=
 ⟨h.W.blocks hz (fun g e => hb g (h.W.own.lt g e).2 (h.pW g e)) (fun _ g _ hg hq => hb g hg hq), h.B.blocks hz (fun g e => hb g (h.B.own.lt g e).2 (h.pB g e)) (fun _ g _ hg hq => hb g hg hq), h.pW, h.pB⟩
theorem AffX.keep (h : AffX w p vW vB C rs xW xB) (s : w.Since w.heap.size w') : AffX w' p vW vB C rs xW xB := h.blocks s.size (fun g hg _ => s.block g hg)
end
structure MapD where
 R : Nat
 C : Nat
 rs : List (Nat × List ByteArray)
def MapD.nul : MapD := ⟨0, 0, []⟩
structure OutA (w : World) (lo : Nat) (v : Value) (k : Nat) (D : Nat -> MapD) (xs : List Value) (zs : List (List Value)) : Prop where
 zl : zs.length = k
 own : w.ownsRow lo 74 4 v k xs
 at_ : ∀ i, i < k -> ∃ vW vB xW xB, xs[i * 4]? = some (.int .i64 ((D i).R : Int)) /\ xs[i * 4 + 1]? = some (.int .i64 ((D i).C : Int)) /\ xs[i * 4 + 2]? = some vW /\ xs[i * 4 + 3]? = some vB /\ AffX w (fun q => lo <= q /\ v.ownBlock ≠ some q) vW vB (D i).C (D i).rs xW xB /\ zs[i]? = some (vW :: vB :: (xW ++ xB))
section
variable {w w' w1 : World} {lo k : Nat} {v v' : Value} {D : Nat -> MapD} {xs : List Value} {zs : List (List Value)}
theorem OutA.but (h : OutA w lo v k D xs zs) {c : Nat} (s : But c w w') (hc : c < lo) : OutA w' lo v k D xs zs := by
 refine ⟨h.zl, ?_, fun i hi => ?_⟩
 . obtain ⟨hl, h1 | ⟨g, cap, cur, rfl, hb', hh, hr⟩⟩ := h.own
   . exact ⟨hl, Or.inl h1⟩
   . exact ⟨hl, Or.inr ⟨g, cap, cur, rfl, hb', (s.block g (Array.getElem?_eq_some_iff.1 hh).1 (by simp; omega)).trans hh, hr⟩⟩
 . obtain ⟨vW, vB, xW, xB, h1, h2, h3, h4, h5, h6⟩ := h.at_ i hi
   exact ⟨vW, vB, xW, xB, h1, h2, h3, h4, h5.blocks s.size (fun g hg hp => s.block g hg (by have := hp.1; simp; omega)), h6⟩
theorem OutA.keep (h : OutA w lo v k D xs zs) (s : w.Since w.heap.size w') : OutA w' lo v k D xs zs := by
 refine ⟨h.zl, ?_, fun i hi => ?_⟩
 . obtain ⟨hl, h1 | ⟨g, cap, cur, rfl, hb', hh, hr⟩⟩ := h.own
   . exact ⟨hl, Or.inl h1⟩
   . exact ⟨hl, Or.inr ⟨g, cap, cur, rfl, hb', (s.block g (Array.getElem?_eq_some_iff.1 hh).1).trans hh, hr⟩⟩
 . obtain ⟨vW, vB, xW, xB, h1, h2, h3, h4, h5, h6⟩ := h.at_ i hi
   exact ⟨vW, vB, xW, xB, h1, h2, h3, h4, h5.keep s, h6⟩
theorem OutA.congr {D' : Nat -> MapD} (h : OutA w lo v k D xs zs) (hD : ∀ i, i < k -> D i = D' i) : OutA w lo v k D' xs zs :=
 ⟨h.zl, h.own, fun i hi => by rw [<- hD i hi]; exact h.at_ i hi⟩
theorem OutA.snoc (h : OutA w lo v k D xs zs) (s1 : w.Since w.heap.size w1) (hs : w.heap.size < w1.heap.size) (g : w1.grownBy w' v.ownBlock) {vW vB : Value} {xW xB : List Value} (own : w'.ownsRow lo 74 4 v' (k + 1) (xs ++ [.int .i64 ((D k).R : Int), .int .i64 ((D k).C : Int), vW, vB]))
 (hat : v'.ownBlock = v.ownBlock ∨ v'.ownBlock = some w1.heap.size) (A : AffX w (fun q => lo <= q /\ v.ownBlock ≠ some q) vW vB (D k).C (D k).rs xW xB) : OutA w' lo v' (k + 1) D (xs ++ [.int .i64 ((D k).R : Int), .int .i64 ((D k).C : Int), vW, vB]) (zs ++ [vW :: vB :: (xW ++ xB)]) := by
 have hzl := h.zl; have hl : xs.length = k * 4 := h.own.1
 have mv : ∀ {vW vB : Value} {C : Nat} {rs : List (Nat × List ByteArray)} {xW xB : List Value}, AffX w (fun q => lo <= q /\ v.ownBlock ≠ some q) vW vB C rs xW xB -> AffX w' (fun q => lo <= q /\ v'.ownBlock ≠ some q) vW vB C rs xW xB := fun {vW vB C rs xW xB} r => by
  have r2 := r.imp (p' := fun q => (lo <= q /\ v.ownBlock ≠ some q) /\ v'.ownBlock ≠ some q) (fun j hj hp => ⟨hp, fun e => by
   rcases hat with h | h
   . exact hp.2 (h.symm.trans e)
   . rw [e] at h; simp at h; omega⟩)
  have r3 := r2.blocks (w' := w') (by have := g.size; omega) (fun j hj hp => (g.block j (by omega) (fun e => hp.1.2 e.symm)).trans (s1.block j hj)); exact r3.imp (fun _ _ hp => ⟨hp.1.1, hp.2⟩)
 refine ⟨by simp [hzl], own, fun i hi => ?_⟩
 by_cases e : i = k
 . subst e
   refine ⟨vW, vB, xW, xB, ?_, ?_, ?_, ?_, mv A, by rw [List.getElem?_append_right (by omega), hzl]; simp⟩
   . rw [List.getElem?_append_right (by omega), hl]; simp
   . rw [List.getElem?_append_right (by omega), hl]; simp
   . rw [List.getElem?_append_right (by omega), hl]; simp
   . rw [List.getElem?_append_right (by omega), hl]; simp
 . obtain ⟨vW', vB', xW', xB', h1, h2, h3, h4, h5, h6⟩ := h.at_ i (by omega)
   exact ⟨vW', vB', xW', xB', by rw [List.getElem?_append_left (by omega)]; exact h1, by rw [List.getElem?_append_left (by omega)]; exact h2, by rw [List.getElem?_append_left (by omega)]; exact h3, by rw [List.getElem?_append_left (by omega)]; exact h4, mv h5, by rw [List.getElem?_append_left (by omega)]; exact h6⟩
end
def xk2 : List MapD -> List (Nat × List ByteArray) -> List (Nat × List ByteArray) -> Prop
 | [], rest, rest' => rest = rest'
 | m :: ms, rest, rest' => ∃ r, MapS rest m.R m.C m.rs r /\ xk2 ms r rest'
theorem xk2.snoc {ms : List MapD} {m : MapD} {rest rest' rest'' : List (Nat × List ByteArray)} (h : xk2 ms rest rest') (k : MapS rest' m.R m.C m.rs rest'') : xk2 (ms ++ [m]) rest rest'' := by
 induction ms generalizing rest with
 | nil => subst h; exact ⟨rest'', k, rfl⟩
 | cons x xs ih =>
   obtain ⟨r, h1, h2⟩ := h; exact ⟨r, h1, ih h2⟩
theorem MapS.only {rest r r' : List (Nat × List ByteArray)} {R C R' C' : Nat} {rs rs' : List (Nat × List ByteArray)} (h : MapS rest R C rs r) (k : MapS rest R' C' rs' r') : R = R' /\ C = C' /\ rs = rs' /\ r = r' := by
 obtain ⟨n0, x1, x2, e, -, -, h3, h4⟩ := h.ex; obtain ⟨n0', x1', x2', e', -, -, h3', h4'⟩ := k.ex; rw [e] at e'; simp only [List.cons.injEq, Prod.mk.injEq, and_true, true_and] at e'; obtain ⟨⟨-, rfl, rfl⟩, e2⟩ := e'; have hl : rs.length = rs'.length := by rw [h.len, k.len, <- h3, <- h3']
 have := List.append_inj e2 hl; exact ⟨h3.symm.trans h3', h4.symm.trans h4', this.1, this.2⟩
theorem xk2.next {ms ms' : List MapD} {rest r r' : List (Nat × List ByteArray)} (h : xk2 ms rest r) (k : xk2 ms' rest r') (hl : ms.length < ms'.length) : ∃ (m : MapD) (q : List (Nat × List ByteArray)), MapS r m.R m.C m.rs q := by
 induction ms generalizing rest ms' with
 | nil =>
   subst h
   match ms', k, hl with
   | m :: _, ⟨q, h1, _⟩, _ => exact ⟨m, q, h1⟩
 | cons x xs ih =>
   obtain ⟨q, h1, h2⟩ := h
   match ms', k, hl with
   | m :: ms'', ⟨q', k1, k2⟩, hl =>
     obtain ⟨-, -, -, e⟩ := h1.only k1; subst e; exact ih h2 k2 (by simpa using hl)
theorem xk2.only {ms ms' : List MapD} {rest r r' : List (Nat × List ByteArray)} (h : xk2 ms rest r) (k : xk2 ms' rest r') (hl : ms.length = ms'.length) : ms = ms' /\ r = r' := by
 induction ms generalizing rest ms' with
 | nil =>
   match ms', k, hl with
   | [], k, _ => exact ⟨rfl, h.symm.trans k⟩
 | cons x xs ih =>
   obtain ⟨q, h1, h2⟩ := h
   match ms', k, hl with
   | m :: ms'', ⟨q', k1, k2⟩, hl =>
     obtain ⟨e1, e2, e3, e⟩ := h1.only k1; subst e; obtain ⟨e4, e5⟩ := ih h2 k2 (by simpa using hl); refine ⟨?_, e5⟩; cases x; cases m; simp only at e1 e2 e3; subst e1 e2 e3 e4
     rfl
def netW : ByteArray := ⟨#[110, 101, 116]⟩
def NetS (rest : List (Nat × List ByteArray)) (ms : List MapD) : Prop := ∃ n0 x1 r, rest = (n0, [netW, x1]) :: r /\ yz1 x1 /\ ms.length = dv x1 x1.size /\ xk2 ms r []
end Go.Proofs.YtnogbaapcjjngaaGreatDoor
