import Derived.Test.YthaomfabdghfjaaGreatOwnP12
import Derived.Test.YthaomfabdghfjaaGreatOwnP3
import Derived.Test.YthaomfabdghfjaaGreatOwnP2
import Derived.Deep.RegionWith
import Derived.Test.YthaomfabdghfjaaGreatOwnP7
import Derived.Test.YthaomfabdghfjaaGreatOwnP5
set_option maxHeartbeats 6400000
set_option maxRecDepth 100000
namespace Go.Proofs.YthaomfabdghfjaaGreat
open Go.RowKit
theorem xz8 {P : Program} (t e : TypeId) (z : Value) (size bytes : Nat) (ht : P.underlying t = some (.slice e)) (hinfo : (P.info? e).map (fun i => (i.zero, i.size, i.bytes)) = some (some z, size, bytes))
 (kl kc : IntKind) (n : Nat) (hbytes : bytes * n <= 281474976710656) (h63 : n <= 9223372036854775807) (w : World) :
 (Instr.makeSlice t (.int kl (n : Int)) (.int kc (n : Int))).run P w = .ok (.slice (some ⟨w.heap.size, 0, none⟩) n n) (w.alloc (.cells (madeCells z.cells (n * size)) e)) := by
 obtain ⟨i, hi, hzz⟩ := Option.map_eq_some_iff.1 hinfo; simp only [Prod.mk.injEq] at hzz; obtain ⟨hz, hs, hb⟩ := hzz
 have hb' : (i.bytes : Int) * (n : Int) <= 281474976710656 := by
  have h : ((i.bytes * n : Nat) : Int) <= 281474976710656 := by rw [hb]; omega
  rwa [Int.natCast_mul] at h
 have hr := run_make (P := P) w t e i z ht hi hz kl kc n n (by omega) (Int.le_refl _) hb' (by omega); simp only [Int.toNat_natCast, hs] at hr; exact hr
structure Room (w : World) (c N : Nat) : Prop where
 lt : c < w.heap.size
 cell : ∀ o, o < N -> ∃ v, w.cell? ⟨c, o, none⟩ = some v
 f : ∀ o, w.frozen? ⟨c, o, none⟩ = false
theorem Room.new (w : World) (z : Array Value) (N : Nat) (t : TypeId) : Room (w.alloc (.cells (madeCells z N) t)) w.heap.size N :=
 ⟨by simp, fun o ho => ⟨_, by simp [go_sem, madeCells, ho]; rfl⟩, fun o => by simp [go_sem]⟩
theorem Room.keep {w w' : World} {c N : Nat} (h : Room w c N) (s : w.Since w.heap.size w') : Room w' c N :=
 ⟨Nat.lt_of_lt_of_le h.lt s.size, fun o ho => by obtain ⟨v, hv⟩ := h.cell o ho; exact ⟨v, (s.cell (a := ⟨c, o, none⟩) h.lt).trans hv⟩, fun o => (s.frozen (a := ⟨c, o, none⟩) h.lt).trans (h.f o)⟩
theorem Room.set {w : World} {c N : Nat} (h : Room w c N) (q : Nat) (v : Value) : Room (w.setCell ⟨c, q, none⟩ v) c N := by
 have M : xq0 w (w.setCell ⟨c, q, none⟩ v) c := (xq0.refl w c).setCell q v; refine ⟨by rw [M.size]; exact h.lt, fun o ho => ?_, fun o => by rw [M.frozen]; exact h.f o⟩; obtain ⟨u, hu⟩ := h.cell o ho
 by_cases e : o = q
 . subst e; exact ⟨v, World.cell?_setCell_same _ _ _ hu⟩
 . exact ⟨u, (World.cell?_setCell_other _ _ _ _ (fun h => e (congrArg Addr.off h).symm)).trans hu⟩
theorem Room.marked {w w' : World} {c d N : Nat} (h : Room w c N) (s : xq0 w w' d) (hc : c ≠ d) : Room w' c N :=
 ⟨by rw [s.size]; exact h.lt, fun o ho => by obtain ⟨v, hv⟩ := h.cell o ho; exact ⟨v, (s.cell (a := ⟨c, o, none⟩) hc).trans hv⟩, fun o => (s.frozenO (a := ⟨c, o, none⟩) hc).trans (h.f o)⟩
theorem yj4 {w : World} {c N : Nat} (h : Room w c N) {q : Nat} (hq : q < N) (v : Value) : (w.setCell ⟨c, q, none⟩ v).cell? ⟨c, q, none⟩ = some v := by
 obtain ⟨u, hu⟩ := h.cell q hq; exact World.cell?_setCell_same _ _ _ hu
theorem xj0 (w : World) (c : Nat) {q o : Nat} (h : o ≠ q) (v : Value) : (w.setCell ⟨c, q, none⟩ v).cell? ⟨c, o, none⟩ = w.cell? ⟨c, o, none⟩ :=
 World.cell?_setCell_other _ _ _ _ (fun e => h (congrArg Addr.off e).symm)
theorem put3 {w : World} {c N q : Nat} (h : Room w c N) (hq : q + 2 < N) (x y z : Value) :
 ∃ w', w' = ((w.setCell ⟨c, q, none⟩ x).setCell ⟨c, q + 1, none⟩ y).setCell ⟨c, q + 2, none⟩ z /\ xq0 w w' c /\ Room w' c N /\ w'.cell? ⟨c, q, none⟩ = some x /\ w'.cell? ⟨c, q + 1, none⟩ = some y /\ w'.cell? ⟨c, q + 2, none⟩ = some z /\
  ∀ o, o < q ∨ q + 2 < o -> w'.cell? ⟨c, o, none⟩ = w.cell? ⟨c, o, none⟩ := by
 refine ⟨_, rfl, (((xq0.refl w c).setCell _ _).setCell _ _).setCell _ _, ((h.set _ _).set _ _).set _ _, ?_, ?_, ?_, fun o ho => ?_⟩
 . rw [xj0 _ _ (by omega), xj0 _ _ (by omega)]; exact yj4 h (by omega) x
 . rw [xj0 _ _ (by omega)]; exact yj4 (h.set _ _) (by omega) y
 . exact yj4 ((h.set _ _).set _ _) (by omega) z
 . rw [xj0 _ _ (by omega), xj0 _ _ (by omega), xj0 _ _ (by omega)]
theorem Rats.put {w w' : World} {c k : Nat} {R : Nat -> RatD} {a1 a2 : Option Addr} {k1 k2 : Nat} (h : Rats w (c + 1) (some ⟨c, 0, none⟩) c 0 k R) (M : xq0 w w' c) (hc : ∀ o, o < k * 3 -> w'.cell? ⟨c, o, none⟩ = w.cell? ⟨c, o, none⟩)
 (L : RatL w (c + 1) (R k) a1 a2 k1 k2) (c0 : w'.cell? ⟨c, k * 3, none⟩ = some (.bool (R k).neg)) (c1 : w'.cell? ⟨c, k * 3 + 1, none⟩ = some (.slice a1 (R k).n k1)) (c2 : w'.cell? ⟨c, k * 3 + 2, none⟩ = some (.slice a2 (R k).m k2)) :
 Rats w' (c + 1) (some ⟨c, 0, none⟩) c 0 (k + 1) R := fun i hi => by
 refine ⟨rfl, ?_⟩
 by_cases e : i = k
 . subst e
   exact ⟨a1, a2, k1, k2, by rw [Nat.zero_add]; exact c0, by rw [Nat.zero_add]; exact c1, by rw [Nat.zero_add]; exact c2, L.marked M (by omega)⟩
 . obtain ⟨-, b1, b2, l1, l2, m⟩ := h i (by omega)
   exact ⟨b1, b2, l1, l2, (hc _ (by omega)).trans m.c0, (hc _ (by omega)).trans m.c1, (hc _ (by omega)).trans m.c2, m.L.marked M (by omega)⟩
theorem yq0 : (Tryz.prog.info? 70).map (fun i => (i.zero, i.size, i.bytes)) = some (some (.agg #[.bool false, .slice none 0 0, .slice none 0 0]), 3, 56) := by kernel_rfl
theorem toRatS_any (a : Option Addr) (lo b off n cap : Nat) (R : Nat -> RatD) (w : World) (hn : n <= 16777216) (hs : szR R n <= 16777216) (H : Rats w lo a b off n R) :
 Calls Tryz.prog 10 #[.slice a n cap] w fun e w' => ∃ c, e = .returned (.slice (some ⟨c, 0, none⟩) n n) /\ w.heap.size <= c /\ c < w'.heap.size /\ Rats w' (c + 1) (some ⟨c, 0, none⟩) c 0 n R /\ w.Since w.heap.size w' := by
 have hmk := xz8 (P := Tryz.prog) 28 70 _ 3 56 Tryz.underlying28 yq0 .i64 .i64 n (by omega) (by omega); have sA := sal w (.cells (madeCells #[.bool false, .slice none 0 0, .slice none 0 0] (n * 3)) 70); have rA := Room.new w #[.bool false, .slice none 0 0, .slice none 0 0] (n * 3) 70; go_enter Tryz.func10, Tryz.ntmps10; go_wp2
 go_loopw [4] (fun i wr => ∃ k : Nat, k <= n /\ i = .int .i64 k /\ w.Since w.heap.size wr /\ Room wr w.heap.size (n * 3) /\ Rats wr (w.heap.size + 1) (some ⟨w.heap.size, 0, none⟩) w.heap.size 0 k R) (fun i _ => n - (intOf i).toNat)
 case atStart => exact ⟨0, Nat.zero_le _, rfl, sA, rA, fun i hi => absurd hi (by omega)⟩
 case round =>
  obtain ⟨k, hk, rfl, s, r, T⟩ := hrel
  by_cases hlt : k < n
  . obtain ⟨rfl, a1, a2, k1, k2, M⟩ := H k hlt
    have M' := M.keep s; have g0 := M'.c0; have g1 := M'.c1; have g2 := M'.c2; have hz : (k : Int) < (n : Int) := by omega
    have hsz := szR_at (R := R) hlt; obtain ⟨ba, oa, -, LX⟩ := M'.L.LX; obtain ⟨bb, ob, -, LY⟩ := M'.L.LY; go_wp2_with fail; refine (toRat_any (R k).neg a1 a2 ba oa (R k).n k1 bb ob (R k).m k2 (R k).X (R k).Y wr (by omega) (by omega) LX LY).mono ?_; rintro e w2 ⟨g, h, rfl, s2, l1, l2, l3, LX2, LY2, -, -⟩; have r2 := r.keep s2; have T2 := T.keep s2; have S2 := s.trans (sM s2 s.size); obtain ⟨v0, u0⟩ := r2.cell (k * 3) (by omega); obtain ⟨v1, u1⟩ := r2.cell (k * 3 + 1) (by omega); obtain ⟨v2, u2⟩ := r2.cell (k * 3 + 2) (by omega); have f0 := r2.f (k * 3); have f1 := r2.f (k * 3 + 1); have f2 := r2.f (k * 3 + 2); have rl := r.lt; clear g0 g1 g2; go_wp2; go_roundw
    case rel =>
     go_light; obtain ⟨w3, e3, M3, R3, x0, x1, x2, xo⟩ := put3 (q := k * 3) r2 (by omega) (.bool (R k).neg) (.slice (some ⟨g, 0, none⟩) (R k).n (R k).n) (.slice (some ⟨h, 0, none⟩) (R k).m (R k).m); rw [<- e3]; exact ⟨k + 1, by omega, by go_num, S2.trans (M3.since (Nat.le_refl _)), R3, T2.put M3 (fun o ho => xo o (by omega)) ⟨Nat.le_refl _, Nat.le_refl _, (fun h => by cases h), (fun h => by cases h), ⟨g, 0, fun _ => by omega, LX2⟩, ⟨h, 0, fun _ => by omega, LY2⟩, M.L.lX, M.L.lY, M.L.n63, M.L.m63⟩ x0 x1 x2⟩
    case measure => simp [intOf]; omega
  . have e : k = n := by omega
    subst e; have rl := r.lt; go_wp2; go_ret; exact ⟨w.heap.size, rfl, Nat.le_refl _, rl, T, s⟩
structure Box6 (w : World) (c : Nat) (x y z u v t : Value) : Prop where
 c0 : w.cell? ⟨c, 0, none⟩ = some x
 c1 : w.cell? ⟨c, 1, none⟩ = some y
 c2 : w.cell? ⟨c, 2, none⟩ = some z
 c3 : w.cell? ⟨c, 3, none⟩ = some u
 c4 : w.cell? ⟨c, 4, none⟩ = some v
 c5 : w.cell? ⟨c, 5, none⟩ = some t
 f : ∀ k, w.frozen? ⟨c, k, none⟩ = false
section
variable {w w' : World} {c d B : Nat} {x y z u v t : Value}
theorem Box6.lt (h : Box6 w c x y z u v t) : c < w.heap.size := World.block_lt_of_cell? _ _ h.c0
theorem Box6.new (w : World) (x y z u v t : Value) (T : TypeId) : Box6 (w.alloc (.cells #[x, y, z, u, v, t] T)) w.heap.size x y z u v t := ⟨by simp [go_sem], by simp [go_sem], by simp [go_sem], by simp [go_sem], by simp [go_sem], by simp [go_sem], fun k => by simp [go_sem]⟩
theorem Box6.since (h : Box6 w c x y z u v t) (s : w.Since B w') (hc : c < B) : Box6 w' c x y z u v t :=
 ⟨(s.cell (a := ⟨c, 0, none⟩) hc).trans h.c0, (s.cell (a := ⟨c, 1, none⟩) hc).trans h.c1, (s.cell (a := ⟨c, 2, none⟩) hc).trans h.c2, (s.cell (a := ⟨c, 3, none⟩) hc).trans h.c3, (s.cell (a := ⟨c, 4, none⟩) hc).trans h.c4, (s.cell (a := ⟨c, 5, none⟩) hc).trans h.c5, fun k => (s.frozen (a := ⟨c, k, none⟩) hc).trans (h.f k)⟩
theorem Box6.keep (h : Box6 w c x y z u v t) (s : w.Since w.heap.size w') : Box6 w' c x y z u v t := h.since s h.lt
theorem Box6.marked (h : Box6 w c x y z u v t) (s : xq0 w w' d) (hc : c ≠ d) : Box6 w' c x y z u v t :=
 ⟨(s.cell (a := ⟨c, 0, none⟩) hc).trans h.c0, (s.cell (a := ⟨c, 1, none⟩) hc).trans h.c1, (s.cell (a := ⟨c, 2, none⟩) hc).trans h.c2, (s.cell (a := ⟨c, 3, none⟩) hc).trans h.c3, (s.cell (a := ⟨c, 4, none⟩) hc).trans h.c4, (s.cell (a := ⟨c, 5, none⟩) hc).trans h.c5, fun k => (s.frozenO (a := ⟨c, k, none⟩) hc).trans (h.f k)⟩
theorem Box6.set0 (h : Box6 w c x y z u v t) (q : Value) : Box6 (w.setCell ⟨c, 0, none⟩ q) c q y z u v t :=
 ⟨World.cell?_setCell_same _ _ _ h.c0, (World.cell?_setCell_other _ _ _ _ (by simp)).trans h.c1, (World.cell?_setCell_other _ _ _ _ (by simp)).trans h.c2, (World.cell?_setCell_other _ _ _ _ (by simp)).trans h.c3, (World.cell?_setCell_other _ _ _ _ (by simp)).trans h.c4, (World.cell?_setCell_other _ _ _ _ (by simp)).trans h.c5, fun k => by rw [((xq0.refl w c).setCell 0 q).frozen]; exact h.f k⟩
theorem Box6.set1 (h : Box6 w c x y z u v t) (q : Value) : Box6 (w.setCell ⟨c, 1, none⟩ q) c x q z u v t :=
 ⟨(World.cell?_setCell_other _ _ _ _ (by simp)).trans h.c0, World.cell?_setCell_same _ _ _ h.c1, (World.cell?_setCell_other _ _ _ _ (by simp)).trans h.c2, (World.cell?_setCell_other _ _ _ _ (by simp)).trans h.c3, (World.cell?_setCell_other _ _ _ _ (by simp)).trans h.c4, (World.cell?_setCell_other _ _ _ _ (by simp)).trans h.c5, fun k => by rw [((xq0.refl w c).setCell 1 q).frozen]; exact h.f k⟩
theorem Box6.set2 (h : Box6 w c x y z u v t) (q : Value) : Box6 (w.setCell ⟨c, 2, none⟩ q) c x y q u v t :=
 ⟨(World.cell?_setCell_other _ _ _ _ (by simp)).trans h.c0, (World.cell?_setCell_other _ _ _ _ (by simp)).trans h.c1, World.cell?_setCell_same _ _ _ h.c2, (World.cell?_setCell_other _ _ _ _ (by simp)).trans h.c3, (World.cell?_setCell_other _ _ _ _ (by simp)).trans h.c4, (World.cell?_setCell_other _ _ _ _ (by simp)).trans h.c5, fun k => by rw [((xq0.refl w c).setCell 2 q).frozen]; exact h.f k⟩
theorem Box6.set3 (h : Box6 w c x y z u v t) (q : Value) : Box6 (w.setCell ⟨c, 3, none⟩ q) c x y z q v t :=
 ⟨(World.cell?_setCell_other _ _ _ _ (by simp)).trans h.c0, (World.cell?_setCell_other _ _ _ _ (by simp)).trans h.c1, (World.cell?_setCell_other _ _ _ _ (by simp)).trans h.c2, World.cell?_setCell_same _ _ _ h.c3, (World.cell?_setCell_other _ _ _ _ (by simp)).trans h.c4, (World.cell?_setCell_other _ _ _ _ (by simp)).trans h.c5, fun k => by rw [((xq0.refl w c).setCell 3 q).frozen]; exact h.f k⟩
theorem Box6.set4 (h : Box6 w c x y z u v t) (q : Value) : Box6 (w.setCell ⟨c, 4, none⟩ q) c x y z u q t :=
 ⟨(World.cell?_setCell_other _ _ _ _ (by simp)).trans h.c0, (World.cell?_setCell_other _ _ _ _ (by simp)).trans h.c1, (World.cell?_setCell_other _ _ _ _ (by simp)).trans h.c2, (World.cell?_setCell_other _ _ _ _ (by simp)).trans h.c3, World.cell?_setCell_same _ _ _ h.c4, (World.cell?_setCell_other _ _ _ _ (by simp)).trans h.c5, fun k => by rw [((xq0.refl w c).setCell 4 q).frozen]; exact h.f k⟩
theorem Box6.set5 (h : Box6 w c x y z u v t) (q : Value) : Box6 (w.setCell ⟨c, 5, none⟩ q) c x y z u v q :=
 ⟨(World.cell?_setCell_other _ _ _ _ (by simp)).trans h.c0, (World.cell?_setCell_other _ _ _ _ (by simp)).trans h.c1, (World.cell?_setCell_other _ _ _ _ (by simp)).trans h.c2, (World.cell?_setCell_other _ _ _ _ (by simp)).trans h.c3, (World.cell?_setCell_other _ _ _ _ (by simp)).trans h.c4, World.cell?_setCell_same _ _ _ h.c5, fun k => by rw [((xq0.refl w c).setCell 5 q).frozen]; exact h.f k⟩
end
theorem results_box6T {fn : Func} {p : Tmp} {T : TypeId} {d : TypeDesc} (h : fn.results = #[.cell p T]) (hu : Tryz.prog.underlying T = some d) (hd : d.isRow = true) (hi : (Tryz.prog.info? T).map (·.size) = some 6) (tmps : Array Value) (w : World) (c : Nat) (x y z u v t : Value)
 (hp : tmps.getD p undef = .pointer (some ⟨c, 0, none⟩)) (B : Box6 w c x y z u v t) : (results fn tmps).run Tryz.prog w = .ok (.agg #[x, y, z, u, v, t]) w := by
 have hp' : tmps[p]?.getD undef = .pointer (some ⟨c, 0, none⟩) := by simpa using hp
 have hl := run_loadVar_mid (P := Tryz.prog) w c 0 T [x, y, z, u, v, t] d (fun j q hv => by
  rcases j with _ | _ | _ | _ | _ | _ | j
  . simp at hv; subst hv; exact B.c0
  . simp at hv; subst hv; exact B.c1
  . simp at hv; subst hv; exact B.c2
  . simp at hv; subst hv; exact B.c3
  . simp at hv; subst hv; exact B.c4
  . simp at hv; subst hv; exact B.c5
  . simp at hv) hu hd hi
 simp [results, h, hp', asAddr, hl]
theorem put6 {w : World} {c N q : Nat} (h : Room w c N) (hq : q + 5 < N) (x y z u v t : Value) :
 ∃ w', w' = (((((w.setCell ⟨c, q, none⟩ x).setCell ⟨c, q + 1, none⟩ y).setCell ⟨c, q + 2, none⟩ z).setCell ⟨c, q + 3, none⟩ u).setCell ⟨c, q + 4, none⟩ v).setCell ⟨c, q + 5, none⟩ t /\ xq0 w w' c /\ Room w' c N /\ w'.cell? ⟨c, q, none⟩ = some x /\ w'.cell? ⟨c, q + 1, none⟩ = some y /\ w'.cell? ⟨c, q + 2, none⟩ = some z /\ w'.cell? ⟨c, q + 3, none⟩ = some u /\ w'.cell? ⟨c, q + 4, none⟩ = some v /\ w'.cell? ⟨c, q + 5, none⟩ = some t /\
  ∀ o, o < q ∨ q + 5 < o -> w'.cell? ⟨c, o, none⟩ = w.cell? ⟨c, o, none⟩ := by
 refine ⟨_, rfl, ((((((xq0.refl w c).setCell _ _).setCell _ _).setCell _ _).setCell _ _).setCell _ _).setCell _ _, (((((h.set _ _).set _ _).set _ _).set _ _).set _ _).set _ _, ?_, ?_, ?_, ?_, ?_, ?_, fun o ho => ?_⟩
 . rw [xj0 _ _ (by omega), xj0 _ _ (by omega), xj0 _ _ (by omega), xj0 _ _ (by omega), xj0 _ _ (by omega)]; exact yj4 h (by omega) x
 . rw [xj0 _ _ (by omega), xj0 _ _ (by omega), xj0 _ _ (by omega), xj0 _ _ (by omega)]; exact yj4 (h.set _ _) (by omega) y
 . rw [xj0 _ _ (by omega), xj0 _ _ (by omega), xj0 _ _ (by omega)]; exact yj4 ((h.set _ _).set _ _) (by omega) z
 . rw [xj0 _ _ (by omega), xj0 _ _ (by omega)]; exact yj4 (((h.set _ _).set _ _).set _ _) (by omega) u
 . rw [xj0 _ _ (by omega)]; exact yj4 ((((h.set _ _).set _ _).set _ _).set _ _) (by omega) v
 . exact yj4 (((((h.set _ _).set _ _).set _ _).set _ _).set _ _) (by omega) t
 . rw [xj0 _ _ (by omega), xj0 _ _ (by omega), xj0 _ _ (by omega), xj0 _ _ (by omega), xj0 _ _ (by omega), xj0 _ _ (by omega)]
structure xq1 where
 op : Int
 a : Int
 b : Int
 k : Int
 s : Int
 nv : Nat
 V : Nat -> RatD
def xq1.nul : xq1 := ⟨0, 0, 0, 0, 0, 0, fun _ => RatD.nul⟩
def xq1.size (d : xq1) : Nat := d.nv + szR d.V d.nv
def I64 (z : Int) : Prop := -9223372036854775808 <= z /\ z <= 9223372036854775807
structure NodL (w : World) (lo : Nat) (d : xq1) (a : Option Addr) (ca : Nat) : Prop where
 nc : d.nv <= ca
 LV : ∃ ba oa, (0 < d.nv -> lo <= ba) /\ Rats w lo a ba oa d.nv d.V
 iop : I64 d.op
 ia : I64 d.a
 ib : I64 d.b
 ik : I64 d.k
 is : I64 d.s
 n63 : d.nv <= 9223372036854775807
section
variable {w w' : World} {lo lo' b off n c : Nat} {d : xq1} {a a1 : Option Addr} {k1 : Nat} {A : Nat -> xq1}
theorem NodL.keep (h : NodL w lo d a1 k1) (s : w.Since w.heap.size w') : NodL w' lo d a1 k1 := by
 obtain ⟨ba, oa, l1, LV⟩ := h.LV; exact ⟨h.nc, ⟨ba, oa, l1, LV.keep s⟩, h.iop, h.ia, h.ib, h.ik, h.is, h.n63⟩
theorem NodL.down (h : NodL w lo d a1 k1) (hl : lo' <= lo) : NodL w lo' d a1 k1 := by
 obtain ⟨ba, oa, l1, LV⟩ := h.LV; exact ⟨h.nc, ⟨ba, oa, fun h => Nat.le_trans hl (l1 h), LV.down hl⟩, h.iop, h.ia, h.ib, h.ik, h.is, h.n63⟩
theorem NodL.marked (h : NodL w lo d a1 k1) (s : xq0 w w' c) (hc : c < lo) : NodL w' lo d a1 k1 := by
 obtain ⟨ba, oa, l1, LV⟩ := h.LV; exact ⟨h.nc, ⟨ba, oa, l1, LV.marked s hc (fun h => by have := l1 h; omega)⟩, h.iop, h.ia, h.ib, h.ik, h.is, h.n63⟩
structure NodM (w : World) (lo b off : Nat) (d : xq1) (a1 : Option Addr) (k1 : Nat) : Prop where
 c0 : w.cell? ⟨b, off, none⟩ = some (.int .i64 d.op)
 c1 : w.cell? ⟨b, off + 1, none⟩ = some (.int .i64 d.a)
 c2 : w.cell? ⟨b, off + 2, none⟩ = some (.int .i64 d.b)
 c3 : w.cell? ⟨b, off + 3, none⟩ = some (.int .i64 d.k)
 c4 : w.cell? ⟨b, off + 4, none⟩ = some (.int .i64 d.s)
 c5 : w.cell? ⟨b, off + 5, none⟩ = some (.slice a1 d.nv k1)
 L : NodL w lo d a1 k1
theorem NodM.lt (h : NodM w lo b off d a1 k1) : b < w.heap.size := World.block_lt_of_cell? _ _ h.c0
theorem NodM.keep (h : NodM w lo b off d a1 k1) (s : w.Since w.heap.size w') : NodM w' lo b off d a1 k1 :=
 ⟨(s.cell (a := ⟨b, off, none⟩) h.lt).trans h.c0, (s.cell (a := ⟨b, off + 1, none⟩) h.lt).trans h.c1, (s.cell (a := ⟨b, off + 2, none⟩) h.lt).trans h.c2, (s.cell (a := ⟨b, off + 3, none⟩) h.lt).trans h.c3, (s.cell (a := ⟨b, off + 4, none⟩) h.lt).trans h.c4, (s.cell (a := ⟨b, off + 5, none⟩) h.lt).trans h.c5, h.L.keep s⟩
theorem NodM.down (h : NodM w lo b off d a1 k1) (hl : lo' <= lo) : NodM w lo' b off d a1 k1 := ⟨h.c0, h.c1, h.c2, h.c3, h.c4, h.c5, h.L.down hl⟩
theorem NodM.marked (h : NodM w lo b off d a1 k1) (s : xq0 w w' c) (hc : c < lo) (hb : b ≠ c) : NodM w' lo b off d a1 k1 :=
 ⟨(s.cell (a := ⟨b, off, none⟩) hb).trans h.c0, (s.cell (a := ⟨b, off + 1, none⟩) hb).trans h.c1, (s.cell (a := ⟨b, off + 2, none⟩) hb).trans h.c2, (s.cell (a := ⟨b, off + 3, none⟩) hb).trans h.c3, (s.cell (a := ⟨b, off + 4, none⟩) hb).trans h.c4, (s.cell (a := ⟨b, off + 5, none⟩) hb).trans h.c5, h.L.marked s hc⟩
def Nods (w : World) (lo : Nat) (a : Option Addr) (b off n : Nat) (A : Nat -> xq1) : Prop :=
 ∀ i, i < n -> a = some ⟨b, off, none⟩ /\ ∃ a1 k1, NodM w lo b (off + i * 6) (A i) a1 k1
theorem Nods.keep (h : Nods w lo a b off n A) (s : w.Since w.heap.size w') : Nods w' lo a b off n A := fun i hi => by
 obtain ⟨h1, a1, k1, h2⟩ := h i hi; exact ⟨h1, a1, k1, h2.keep s⟩
theorem Nods.down (h : Nods w lo a b off n A) (hl : lo' <= lo) : Nods w lo' a b off n A := fun i hi => by
 obtain ⟨h1, a1, k1, h2⟩ := h i hi; exact ⟨h1, a1, k1, h2.down hl⟩
theorem Nods.marked (h : Nods w lo a b off n A) (s : xq0 w w' c) (hc : c < lo) (hb : 0 < n -> b ≠ c) : Nods w' lo a b off n A := fun i hi => by
 obtain ⟨h1, a1, k1, h2⟩ := h i hi; exact ⟨h1, a1, k1, h2.marked s hc (hb (by omega))⟩
theorem Nods.put {k : Nat} (h : Nods w (c + 1) (some ⟨c, 0, none⟩) c 0 k A) (M : xq0 w w' c) (hc : ∀ o, o < k * 6 -> w'.cell? ⟨c, o, none⟩ = w.cell? ⟨c, o, none⟩)
 (L : NodL w (c + 1) (A k) a1 k1) (c0 : w'.cell? ⟨c, k * 6, none⟩ = some (.int .i64 (A k).op)) (c1 : w'.cell? ⟨c, k * 6 + 1, none⟩ = some (.int .i64 (A k).a)) (c2 : w'.cell? ⟨c, k * 6 + 2, none⟩ = some (.int .i64 (A k).b))
 (c3 : w'.cell? ⟨c, k * 6 + 3, none⟩ = some (.int .i64 (A k).k)) (c4 : w'.cell? ⟨c, k * 6 + 4, none⟩ = some (.int .i64 (A k).s)) (c5 : w'.cell? ⟨c, k * 6 + 5, none⟩ = some (.slice a1 (A k).nv k1)) :
 Nods w' (c + 1) (some ⟨c, 0, none⟩) c 0 (k + 1) A := fun i hi => by
 refine ⟨rfl, ?_⟩
 by_cases e : i = k
 . subst e
   exact ⟨a1, k1, by rw [Nat.zero_add]; exact c0, by rw [Nat.zero_add]; exact c1, by rw [Nat.zero_add]; exact c2, by rw [Nat.zero_add]; exact c3, by rw [Nat.zero_add]; exact c4, by rw [Nat.zero_add]; exact c5, L.marked M (by omega)⟩
 . obtain ⟨-, b1, l1, m⟩ := h i (by omega)
   exact ⟨b1, l1, (hc _ (by omega)).trans m.c0, (hc _ (by omega)).trans m.c1, (hc _ (by omega)).trans m.c2, (hc _ (by omega)).trans m.c3, (hc _ (by omega)).trans m.c4, (hc _ (by omega)).trans m.c5, m.L.marked M (by omega)⟩
end
def szN (A : Nat -> xq1) : Nat -> Nat
 | 0 => 0
 | n + 1 => szN A n + (A n).size
theorem szN_succ (A : Nat -> xq1) (n : Nat) : szN A (n + 1) = szN A n + (A n).size := rfl
theorem szN_mono {A : Nat -> xq1} {k n : Nat} (h : k <= n) : szN A k <= szN A n := by
 induction n with
 | zero => simp at h; subst h; exact Nat.le_refl _
 | succ n ih =>
   rcases Nat.lt_or_ge n k with h1 | h1
   . have : k = n + 1 := by omega
     subst this; exact Nat.le_refl _
   . have := ih h1
     rw [szN_succ]; omega
theorem szN_at {A : Nat -> xq1} {k n : Nat} (h : k < n) : (A k).size <= szN A n := by
 have := szN_mono (A := A) (show k + 1 <= n from h); rw [szN_succ] at this; omega
structure xq8 where
 inn : Int
 rounds : Int
 nl : Nat
 Lo : Nat -> RatD
 nh : Nat
 Hi : Nat -> RatD
 nn : Nat
 N : Nat -> xq1
 out : Int
def xq8.size (g : xq8) : Nat := (g.nl + szR g.Lo g.nl) + (g.nh + szR g.Hi g.nh) + (g.nn + szN g.N g.nn)
structure GraL (w : World) (lo : Nat) (g : xq8) (aL aH aN : Option Addr) (kL kH kN : Nat) : Prop where
 lc : g.nl <= kL
 hc : g.nh <= kH
 nc : g.nn <= kN
 LL : ∃ b o, (0 < g.nl -> lo <= b) /\ Rats w lo aL b o g.nl g.Lo
 LH : ∃ b o, (0 < g.nh -> lo <= b) /\ Rats w lo aH b o g.nh g.Hi
 LN : ∃ b o, (0 < g.nn -> lo <= b) /\ Nods w lo aN b o g.nn g.N
 ii : I64 g.inn
 ir : I64 g.rounds
 io : I64 g.out
 l63 : g.nl <= 9223372036854775807
 h63 : g.nh <= 9223372036854775807
 n63 : g.nn <= 9223372036854775807
section
variable {w w' : World} {lo lo' c : Nat} {g : xq8} {aL aH aN : Option Addr} {kL kH kN : Nat}
theorem GraL.keep (h : GraL w lo g aL aH aN kL kH kN) (s : w.Since w.heap.size w') : GraL w' lo g aL aH aN kL kH kN := by
 obtain ⟨b1, o1, l1, L1⟩ := h.LL; obtain ⟨b2, o2, l2, L2⟩ := h.LH; obtain ⟨b3, o3, l3, L3⟩ := h.LN; exact ⟨h.lc, h.hc, h.nc, ⟨b1, o1, l1, L1.keep s⟩, ⟨b2, o2, l2, L2.keep s⟩, ⟨b3, o3, l3, L3.keep s⟩, h.ii, h.ir, h.io, h.l63, h.h63, h.n63⟩
end
def RatV (w : World) (v : Value) (neg : Bool) (N D B M : Nat) : Prop :=
 ∃ v1 v2 g h, v = .agg #[.bool neg, v1, v2] /\ xj8 w v1 g N M /\ xj8 w v2 h D M /\ B <= g /\ B <= h /\ g ≠ h
theorem natAt_nil (w : World) (g M : Nat) : xj8 w (.slice none 0 0) g 0 M :=
 ⟨none, 0, 0, fun _ => 0, rfl, Nat.le_refl _, Nat.zero_le _, fun _ => rfl, fun j hj => absurd hj (by omega), fun h => absurd h (by omega), fun j hj => absurd hj (by omega), fun h => absurd h (by omega), rfl⟩
theorem natAt_empty (w : World) (a : Addr) (cap g M : Nat) : xj8 w (.slice (some a) 0 cap) g 0 M :=
 ⟨some a, 0, cap, fun _ => 0, rfl, Nat.zero_le _, Nat.zero_le _, fun h => (by cases h), fun j hj => absurd hj (by omega), fun h => absurd h (by omega), fun j hj => absurd hj (by omega), fun h => absurd h (by omega), rfl⟩
theorem xj8.keep {w w' : World} {v : Value} {g N M : Nat} (h : xj8 w v g N M) (s : w.Since w.heap.size w') : xj8 w' v g N M := by
 obtain ⟨a, m, cap, Y, h1, h2, h3, h4, h5, h6, h7, h8, h9⟩ := h; exact ⟨a, m, cap, Y, h1, h2, h3, h4, h5.keep s, fun h0 o => by rw [s.frozen (a := ⟨g, o, none⟩) (h5.lt h0)]; exact h6 h0 o, h7, h8, h9⟩
theorem xj8.marked {w w' : World} {v : Value} {g N M c : Nat} (h : xj8 w v g N M) (s : xq0 w w' c) (hne : g ≠ c) : xj8 w' v g N M := by
 obtain ⟨a, m, cap, Y, h1, h2, h3, h4, h5, h6, h7, h8, h9⟩ := h; exact ⟨a, m, cap, Y, h1, h2, h3, h4, h5.marked s (fun _ => hne), fun h0 o => by rw [s.frozenO (a := ⟨g, o, none⟩) hne]; exact h6 h0 o, h7, h8, h9⟩
theorem xj8.more {w : World} {v : Value} {g N M M' : Nat} (h : xj8 w v g N M) (hM : M <= M') : xj8 w v g N M' := by
 obtain ⟨a, m, cap, Y, h1, h2, h3, h4⟩ := h; exact ⟨a, m, cap, Y, h1, h2, Nat.le_trans h3 hM, h4⟩
theorem zeroRat_any (w : World) : Calls Tryz.prog 75 #[] w fun e w' => ∃ v, e = .returned v /\ RatV w' v false 0 1 w.heap.size 67108864 /\ w.Since w.heap.size w' := by
 have sA : w.Since w.heap.size ((w.alloc (.cells #[.bool false, .slice none 0 0, .slice (some ⟨w.heap.size + 1, 0, none⟩) 1 1] 70)).alloc (.cells #[.int .u32 1] 119)) := ((World.Since.refl _ _).alloc (Nat.le_refl _) _).alloc (by simp) _
 have bA : Box3 ((w.alloc (.cells #[.bool false, .slice none 0 0, .slice (some ⟨w.heap.size + 1, 0, none⟩) 1 1] 70)).alloc (.cells #[.int .u32 1] 119)) w.heap.size (.bool false) (.slice none 0 0) (.slice (some ⟨w.heap.size + 1, 0, none⟩) 1 1) :=
  (Box3.new w _ _ _ _).keep ((World.Since.refl _ _).alloc (Nat.le_refl _) _)
 have n1 := yv2 (w.alloc (.cells #[.bool false, .slice none 0 0, .slice (some ⟨w.heap.size + 1, 0, none⟩) 1 1] 70)); rw [show (w.alloc (.cells #[.bool false, .slice none 0 0, .slice (some ⟨w.heap.size + 1, 0, none⟩) 1 1] 70)).heap.size = w.heap.size + 1 by simp] at n1; go_enter Tryz.func75, Tryz.ntmps75; go_wp2; refine bodyPost_ret (rb3 rfl _ _ _ _ _ _ rfl bA) rfl ?_; exact ⟨_, rfl, ⟨_, _, w.heap.size + 2, w.heap.size + 1, rfl, natAt_nil _ _ _, n1, by omega, by omega, by omega⟩, sA⟩
theorem l1Zero_any (w : World) : Calls Tryz.prog 109 #[] w fun e w' => ∃ v, e = .returned v /\ RatV w' v false 0 1 w.heap.size 67108864 /\ w.Since w.heap.size w' := by
 have sA : w.Since w.heap.size (((w.alloc (.cells #[.bool false, .slice (some ⟨w.heap.size + 1, 0, none⟩) 0 0, .slice (some ⟨w.heap.size + 1 + 1, 0, none⟩) 1 1] 70)).alloc (.cells #[] 119)).alloc (.cells #[.int .u32 1] 119)) :=
  (((World.Since.refl _ _).alloc (Nat.le_refl _) _).alloc (by simp) _).alloc (by simp; omega) _
 have bA : Box3 (((w.alloc (.cells #[.bool false, .slice (some ⟨w.heap.size + 1, 0, none⟩) 0 0, .slice (some ⟨w.heap.size + 1 + 1, 0, none⟩) 1 1] 70)).alloc (.cells #[] 119)).alloc (.cells #[.int .u32 1] 119)) w.heap.size (.bool false) (.slice (some ⟨w.heap.size + 1, 0, none⟩) 0 0) (.slice (some ⟨w.heap.size + 1 + 1, 0, none⟩) 1 1) :=
  ((Box3.new w _ _ _ _).keep ((World.Since.refl _ _).alloc (Nat.le_refl _) _)).keep ((World.Since.refl _ _).alloc (Nat.le_refl _) _)
 have n1 := yv2 ((w.alloc (.cells #[.bool false, .slice (some ⟨w.heap.size + 1, 0, none⟩) 0 0, .slice (some ⟨w.heap.size + 1 + 1, 0, none⟩) 1 1] 70)).alloc (.cells #[] 119)); rw [show ((w.alloc (.cells #[.bool false, .slice (some ⟨w.heap.size + 1, 0, none⟩) 0 0, .slice (some ⟨w.heap.size + 1 + 1, 0, none⟩) 1 1] 70)).alloc (.cells #[] 119)).heap.size = w.heap.size + 1 + 1 by simp] at n1; go_enter Tryz.func109, Tryz.ntmps109; go_wp2; refine bodyPost_ret (rb3 rfl _ _ _ _ _ _ rfl bA) rfl ?_; exact ⟨_, rfl, ⟨_, _, w.heap.size + 1, w.heap.size + 1 + 1, rfl, natAt_empty _ _ _ _ _, n1, by omega, by omega, by omega⟩, sA⟩
theorem tlen_plain {X : Nat -> Nat} {n : Nat} (p : 0 < n -> X (n - 1) ≠ 0) : tlen (nz X) n = n := by
 cases n with
 | zero => rfl
 | succ n => simp [tlen, nz]; exact fun h => absurd h (p (by omega))
theorem xz7 (neg : Bool) (a b : Option Addr) (ba oa n ca bb ob m cb : Nat) (X Y : Nat -> Nat) (w : World) (hn : n <= 16777216) (hm : m <= 16777216) (hnc : n <= ca) (hmc : m <= cb)
 (hX : xq2 w a ba oa n X) (hY : xq2 w b bb ob m Y) (pX : 0 < n -> X (n - 1) ≠ 0) (pY : 0 < m -> Y (m - 1) ≠ 0) :
 Calls Tryz.prog 85 #[.agg #[.bool neg, .slice a n ca, .slice b m cb]] w fun e w' => e = .returned (.agg #[.bool neg, .slice a n ca, .slice b m cb, .slice none 0 0]) /\ w.Since w.heap.size w' := by
 have eX := tlen_plain pX; have eY := tlen_plain pY; clear pX pY; have sA : w.Since w.heap.size ((w.alloc (.cells #[.bool neg, .slice a n ca, .slice b m cb] 70)).alloc (.cells #[.bool false, .slice none 0 0, .slice none 0 0, .slice none 0 0] 129)) := ((World.Since.refl _ _).alloc (Nat.le_refl _) _).alloc (by simp) _; have bA : Box3 ((w.alloc (.cells #[.bool neg, .slice a n ca, .slice b m cb] 70)).alloc (.cells #[.bool false, .slice none 0 0, .slice none 0 0, .slice none 0 0] 129)) w.heap.size (.bool neg) (.slice a n ca) (.slice b m cb) := (Box3.new w _ _ _ _).keep ((World.Since.refl _ _).alloc (Nat.le_refl _) _)
 have qA : Box4 ((w.alloc (.cells #[.bool neg, .slice a n ca, .slice b m cb] 70)).alloc (.cells #[.bool false, .slice none 0 0, .slice none 0 0, .slice none 0 0] 129)) (w.heap.size + 1) (.bool false) (.slice none 0 0) (.slice none 0 0) (.slice none 0 0) := by
  have := Box4.new (w.alloc (.cells #[.bool neg, .slice a n ca, .slice b m cb] 70)) (.bool false) (.slice none 0 0) (.slice none 0 0) (.slice none 0 0) 129
  simpa using this
 go_enter Tryz.func85, Tryz.ntmps85; go_wp2; generalize ((w.alloc (.cells #[.bool neg, .slice a n ca, .slice b m cb] 70)).alloc (.cells #[.bool false, .slice none 0 0, .slice none 0 0, .slice none 0 0] 129)) = wA at *; have SD : w.Since w.heap.size wA.drew := ⟨sA.os, sA.tape, sA.output, sA.size, sA.block⟩; have bD : Box3 wA.drew w.heap.size (.bool neg) (.slice a n ca) (.slice b m cb) := ⟨bA.c0, bA.c1, bA.c2, bA.f⟩; have qD : Box4 wA.drew (w.heap.size + 1) (.bool false) (.slice none 0 0) (.slice none 0 0) (.slice none 0 0) := ⟨qA.c0, qA.c1, qA.c2, qA.c3, qA.f⟩; have k0 := bA.c0; have k1 := bA.c1; have k2 := bA.c2; have J1 := yx0 a ba oa n ca X wA.drew (by omega) hnc (hX.keep SD); rw [eX] at J1; clear sA bA qA
 go_region_held3 (fun w' => w'.cell? ⟨w.heap.size, 0, none⟩ = some (.bool neg) /\ w'.cell? ⟨w.heap.size, 1, none⟩ = some (.slice a n ca) /\ w'.cell? ⟨w.heap.size, 2, none⟩ = some (.slice b m cb)) (go_keep)
  (first
    | (go_at_call 119
       first
        | (with_reducible refine J1.mono ?_
           rintro e w1 ⟨rfl, s1⟩; have S1 := SD.trans (sM s1 SD.size); have b1 := bD.keep s1; have q1 := qD.keep s1; have i0 := b1.c0; have i1 := b1.c1; have i2 := b1.c2; have J2 := yx0 b bb ob m cb Y w1 (by omega) hmc (hY.keep S1); rw [eY] at J2)
        | (with_reducible refine J2.mono ?_
           rintro e w2 ⟨rfl, s2⟩; have S2 := S1.trans (sM s2 S1.size); have b2 := b1.keep s2; have q2 := q1.keep s2; have i0 := b2.c0; have i1 := b2.c1; have i2 := b2.c2; have j0 := q2.c0; have j1 := q2.c1; have j2 := q2.c2; have j3 := q2.c3; have f0 := q2.f 0; have f1 := q2.f 1; have f2 := q2.f 2; have f3 := q2.f 3)))
 all_goals go_wp2
 all_goals
  have q3 := (((q2.set0 (.bool neg)).set1 (.slice a n ca)).set2 (.slice b m cb)).set3 (.slice none 0 0); refine bodyPost_ret (results_box4T rfl Tryz.underlying129 rfl fracInfo _ _ _ _ _ _ _ rfl q3) rfl ?_; have M : xq0 w2 _ (w.heap.size + 1) := ((((xq0.refl w2 _).setCell 0 (.bool neg)).setCell 1 (.slice a n ca)).setCell 2 (.slice b m cb)).setCell 3 (.slice none 0 0); exact ⟨rfl, S2.trans (M.since (by omega))⟩
structure Oth (c : Nat) (w w' : World) : Prop where
 os : w'.os = w.os
 tape : w'.tape = w.tape
 output : w'.output = w.output
 size : w.heap.size <= w'.heap.size
 block : ∀ k, k < w.heap.size -> k ≠ c -> w'.heap[k]? = w.heap[k]?
section
variable {c d n g N M off : Nat} {w w' w1 w2 : World} {a : Option Addr} {X : Nat -> Nat} {v x y z : Value}
theorem Oth.trans (h : Oth c w w1) (k : Oth c w1 w2) : Oth c w w2 := ⟨k.os.trans h.os, k.tape.trans h.tape, k.output.trans h.output, Nat.le_trans h.size k.size, fun i h1 h2 => (k.block i (Nat.lt_of_lt_of_le h1 h.size) h2).trans (h.block i h1 h2)⟩
theorem Oth.ofSince (c : Nat) (h : w.Since w.heap.size w') : Oth c w w' := ⟨h.os, h.tape, h.output, h.size, fun k hk _ => h.block k hk⟩
theorem Oth.ofMarked (h : xq0 w w' c) : Oth c w w' := ⟨h.os, h.tape, h.output, by rw [h.size]; exact Nat.le_refl _, fun k _ hk => h.other k hk⟩
theorem Oth.since (h : Oth c w w') (hc : c <= w.heap.size) : w.Since c w' := ⟨h.os, h.tape, h.output, h.size, fun k hk => h.block k (by omega) (by omega)⟩
theorem Oth.cell (h : Oth c w w') {a : Addr} (hl : a.block < w.heap.size) (hne : a.block ≠ c) : w'.cell? a = w.cell? a := World.cell?_of_block (w := w) (h.block _ hl hne)
theorem Oth.frozen (h : Oth c w w') {a : Addr} (hl : a.block < w.heap.size) (hne : a.block ≠ c) : w'.frozen? a = w.frozen? a := World.frozen?_of_block (w := w) (h.block _ hl hne)
theorem xq2.oth (h : xq2 w a g off n X) (s : Oth c w w') (hne : 0 < n -> g ≠ c) : xq2 w' a g off n X := fun j hj => ⟨(h j hj).1, by rw [s.cell (a := ⟨g, off + j, none⟩) (h.lt (by omega)) (hne (by omega))]; exact (h j hj).2⟩
theorem xj8.oth (h : xj8 w v g N M) (s : Oth c w w') (hne : g ≠ c) : xj8 w' v g N M := by
 obtain ⟨a, m, cap, Y, h1, h2, h3, h4, h5, h6, h7, h8, h9⟩ := h; exact ⟨a, m, cap, Y, h1, h2, h3, h4, h5.oth s (fun _ => hne), fun h0 o => by rw [s.frozen (a := ⟨g, o, none⟩) (h5.lt h0) hne]; exact h6 h0 o, h7, h8, h9⟩
theorem Box3.oth (h : Box3 w d x y z) (s : Oth c w w') (hne : d ≠ c) : Box3 w' d x y z :=
 ⟨(s.cell (a := ⟨d, 0, none⟩) h.lt hne).trans h.c0, (s.cell (a := ⟨d, 1, none⟩) h.lt hne).trans h.c1, (s.cell (a := ⟨d, 2, none⟩) h.lt hne).trans h.c2, fun k => (s.frozen (a := ⟨d, k, none⟩) h.lt hne).trans (h.f k)⟩
end
theorem Box3.drew {w : World} {c : Nat} {x y z : Value} (h : Box3 w c x y z) : Box3 w.drew c x y z := ⟨h.c0, h.c1, h.c2, h.f⟩
theorem Oth.drew {w w' : World} {c : Nat} (h : Oth c w w') : Oth c w w'.drew := ⟨h.os, h.tape, h.output, h.size, h.block⟩
theorem xq2.drew {w : World} {a : Option Addr} {b off n : Nat} {X : Nat -> Nat} (h : xq2 w a b off n X) : xq2 w.drew a b off n X := h
theorem xj8.drew {w : World} {v : Value} {g N M : Nat} (h : xj8 w v g N M) : xj8 w.drew v g N M := h
theorem xq6 {w w' : World} {B : Nat} (h : w.Since B w') : w.Since B w'.drew := ⟨h.os, h.tape, h.output, h.size, h.block⟩
theorem natAt_row {w2 : World} {g n : Nat} {P : Nat -> Nat} (r : w2.rowIs g 119 n (fun j => .int .u32 (P j : Nat))) (hP : ∀ k, P k < 4294967296) {N : Nat} (hN : lv P n = N) : xj8 w2 (.slice (some ⟨g, 0, none⟩) (tlen (nz P) n) n) g N n :=
 ⟨_, _, _, P, rfl, xz0 _ _, xz0 _ _, fun h => (by cases h), (xz9 r).take (xz0 _ _), fun _ o => r.frozen o, fun j _ => hP j, fun h => by have := xz5 (nz P) n h; simpa [nz] using this, by rw [xx9]; exact hN⟩
theorem Box4.oth {c d : Nat} {w w' : World} {x y z u : Value} (h : Box4 w d x y z u) (s : Oth c w w') (hne : d ≠ c) : Box4 w' d x y z u :=
 ⟨(s.cell (a := ⟨d, 0, none⟩) h.lt hne).trans h.c0, (s.cell (a := ⟨d, 1, none⟩) h.lt hne).trans h.c1, (s.cell (a := ⟨d, 2, none⟩) h.lt hne).trans h.c2, (s.cell (a := ⟨d, 3, none⟩) h.lt hne).trans h.c3, fun k => (World.frozen?_of_block (w := w) (a := ⟨d, k, none⟩) (s.block d h.lt hne)).trans (h.f k)⟩
theorem Box4.drew {w : World} {c : Nat} {x y z u : Value} (h : Box4 w c x y z u) : Box4 w.drew c x y z u := ⟨h.c0, h.c1, h.c2, h.c3, h.f⟩
theorem row_oth {w w' : World} {g t n c : Nat} {F : Nat -> Value} (h : w.rowIs g t n F) (s : Oth c w w') (hne : g ≠ c) : w'.rowIs g t n F := h.of_block (s.block g h.lt hne)
theorem Oth.up {c d : Nat} {w w1 w2 : World} (x : Oth c w w1) (y : Oth d w1 w2) (hd : w.heap.size <= d) : Oth c w w2 :=
 ⟨y.os.trans x.os, y.tape.trans x.tape, y.output.trans x.output, Nat.le_trans x.size y.size, fun k h1 h2 => (y.block k (Nat.lt_of_lt_of_le h1 x.size) (by omega)).trans (x.block k h1 h2)⟩
theorem mulAt1 (c : Nat) (x z u : Value) (a a' : Option Addr) (b off n cap b' off' m cap' : Nat) (X Y : Nat -> Nat) (w : World) (hn : n <= 67108864) (hm : m <= 67108864) (hX : xq2 w a b off n X) (hY : xq2 w a' b' off' m Y)
 (hXl : ∀ j, j < n -> X j < 4294967296) (hYl : ∀ j, j < m -> Y j < 4294967296) (B : Box4 w c x (.slice a n cap) z u) :
 Calls Tryz.prog 124 #[.pointer (some ⟨c, 1, none⟩), .slice a' m cap'] w fun e w' => e = .returned (.tuple #[]) /\ ∃ v, Box4 w' c x v z u /\ xj8 w' v w.heap.size (lv X n * lv Y m) (n + m) /\ Oth c w w' /\ w.heap.size < w'.heap.size := by
 refine (yj1 c 1 a a' b off n cap b' off' m cap' X Y w hn hm hX hY hXl hYl B.c1 (B.f 1)).mono ?_; rintro e w' ⟨rfl, w2, P, s, r, hP, hv, rfl⟩; have M := (xq0.refl w2 c).setCell 1 (.slice (some ⟨w.heap.size, 0, none⟩) (tlen (nz P) (n + m)) (n + m)); exact ⟨rfl, _, (B.keep s).set1 _, (natAt_row r hP hv).marked M (Nat.ne_of_gt B.lt), (Oth.ofSince c s).trans (Oth.ofMarked M), by rw [M.size]; exact r.lt⟩
theorem mulAt2 (c : Nat) (x z u : Value) (a a' : Option Addr) (b off n cap b' off' m cap' : Nat) (X Y : Nat -> Nat) (w : World) (hn : n <= 67108864) (hm : m <= 67108864) (hX : xq2 w a b off n X) (hY : xq2 w a' b' off' m Y)
 (hXl : ∀ j, j < n -> X j < 4294967296) (hYl : ∀ j, j < m -> Y j < 4294967296) (B : Box4 w c x z (.slice a n cap) u) :
 Calls Tryz.prog 124 #[.pointer (some ⟨c, 2, none⟩), .slice a' m cap'] w fun e w' => e = .returned (.tuple #[]) /\ ∃ v, Box4 w' c x z v u /\ xj8 w' v w.heap.size (lv X n * lv Y m) (n + m) /\ Oth c w w' /\ w.heap.size < w'.heap.size := by
 refine (yj1 c 2 a a' b off n cap b' off' m cap' X Y w hn hm hX hY hXl hYl B.c2 (B.f 2)).mono ?_; rintro e w' ⟨rfl, w2, P, s, r, hP, hv, rfl⟩; have M := (xq0.refl w2 c).setCell 2 (.slice (some ⟨w.heap.size, 0, none⟩) (tlen (nz P) (n + m)) (n + m)); exact ⟨rfl, _, (B.keep s).set2 _, (natAt_row r hP hv).marked M (Nat.ne_of_gt B.lt), (Oth.ofSince c s).trans (Oth.ofMarked M), by rw [M.size]; exact r.lt⟩
theorem mulAt1r (c : Nat) (x z u : Value) (a a' : Option Addr) (b off n cap b' off' m cap' : Nat) (X Y : Nat -> Nat) (w : World) (hn : n <= 67108864) (hm : m <= 67108864) (hX : xq2 w a b off n X) (hY : xq2 w a' b' off' m Y)
 (hXl : ∀ j, j < n -> X j < 4294967296) (hYl : ∀ j, j < m -> Y j < 4294967296) (B : Box4 w c x (.slice a n cap) z u) :
 Calls Tryz.prog 124 #[.pointer (some ⟨c, 1, none⟩), .slice a' m cap'] w fun e w' => e = .returned (.tuple #[]) /\ ∃ P : Nat -> Nat, Box4 w' c x (.slice (some ⟨w.heap.size, 0, none⟩) (tlen (nz P) (n + m)) (n + m)) z u /\ w'.rowIs w.heap.size 119 (n + m) (fun j => .int .u32 (P j : Nat)) /\
  (∀ k, P k < 4294967296) /\ lv P (n + m) = lv X n * lv Y m /\ Oth c w w' /\ w.heap.size < w'.heap.size := by
 refine (yj1 c 1 a a' b off n cap b' off' m cap' X Y w hn hm hX hY hXl hYl B.c1 (B.f 1)).mono ?_; rintro e w' ⟨rfl, w2, P, s, r, hP, hv, rfl⟩; have M := (xq0.refl w2 c).setCell 1 (.slice (some ⟨w.heap.size, 0, none⟩) (tlen (nz P) (n + m)) (n + m)); exact ⟨rfl, P, (B.keep s).set1 _, r.of_block (M.other _ (Nat.ne_of_gt B.lt)), hP, hv, (Oth.ofSince c s).trans (Oth.ofMarked M), by rw [M.size]; exact r.lt⟩
theorem mulAtR (c : Nat) (a a' : Option Addr) (b off n cap b' off' m cap' : Nat) (X Y : Nat -> Nat) (w : World) (hn : n <= 67108864) (hm : m <= 67108864) (hX : xq2 w a b off n X) (hY : xq2 w a' b' off' m Y)
 (hXl : ∀ j, j < n -> X j < 4294967296) (hYl : ∀ j, j < m -> Y j < 4294967296) (hc0 : w.cell? ⟨c, 0, none⟩ = some (.slice a n cap)) (hf0 : w.frozen? ⟨c, 0, none⟩ = false) :
 Calls Tryz.prog 124 #[.pointer (some ⟨c, 0, none⟩), .slice a' m cap'] w fun e w' => e = .returned (.tuple #[]) /\ ∃ P : Nat -> Nat, w'.cell? ⟨c, 0, none⟩ = some (.slice (some ⟨w.heap.size, 0, none⟩) (tlen (nz P) (n + m)) (n + m)) /\ w'.frozen? ⟨c, 0, none⟩ = false /\ w'.rowIs w.heap.size 119 (n + m) (fun j => .int .u32 (P j : Nat)) /\
  (∀ k, P k < 4294967296) /\ lv P (n + m) = lv X n * lv Y m /\ Oth c w w' /\ w.heap.size < w'.heap.size := by
 have hcl := World.block_lt_of_cell? _ _ hc0; refine (yj1 c 0 a a' b off n cap b' off' m cap' X Y w hn hm hX hY hXl hYl hc0 hf0).mono ?_; rintro e w' ⟨rfl, w2, P, s, r, hP, hv, rfl⟩; have M := (xq0.refl w2 c).setCell 0 (.slice (some ⟨w.heap.size, 0, none⟩) (tlen (nz P) (n + m)) (n + m)); have h2 : w2.cell? ⟨c, 0, none⟩ = some (.slice a n cap) := by rw [s.cell (a := ⟨c, 0, none⟩) hcl]; exact hc0
 exact ⟨rfl, P, World.cell?_setCell_same _ _ _ h2, by rw [M.frozen, s.frozen (a := ⟨c, 0, none⟩) hcl]; exact hf0, r.of_block (M.other _ (Nat.ne_of_gt hcl)), hP, hv, (Oth.ofSince c s).trans (Oth.ofMarked M), by rw [M.size]; exact r.lt⟩
theorem top_row {P : Nat -> Nat} {q : Nat} : 0 < tlen (nz P) q -> P (tlen (nz P) q - 1) ≠ 0 := fun h => by have := xz5 (nz P) q h; simpa [nz] using this
structure At1 (c o : Nat) (r : Option Nat) (w w' : World) : Prop where
 os : w'.os = w.os
 tape : w'.tape = w.tape
 output : w'.output = w.output
 size : w.heap.size <= w'.heap.size
 block : ∀ k, k < w.heap.size -> k ≠ c -> some k ≠ r -> w'.heap[k]? = w.heap[k]?
 cell : ∀ x, x ≠ o -> w'.cell? ⟨c, x, none⟩ = w.cell? ⟨c, x, none⟩
 frozen : ∀ x, w'.frozen? ⟨c, x, none⟩ = w.frozen? ⟨c, x, none⟩
section
variable {c o : Nat} {r : Option Nat} {w w' w'' : World}
theorem At1.refl (c o : Nat) (r : Option Nat) (w : World) : At1 c o r w w := ⟨rfl, rfl, rfl, Nat.le_refl _, fun _ _ _ _ => rfl, fun _ _ => rfl, fun _ => rfl⟩
theorem At1.alloc (h : At1 c o r w w') (hc : c < w.heap.size) (b : Obj) : At1 c o r w (w'.alloc b) := by
 have s : w'.Since w'.heap.size (w'.alloc b) := (World.Since.refl _ _).alloc (Nat.le_refl _) _; have hl := h.size; exact ⟨h.os, h.tape, h.output, Nat.le_trans h.size s.size, fun k h1 h2 h3 => (s.block k (by omega)).trans (h.block k h1 h2 h3), fun x hx => (s.cell (a := ⟨c, x, none⟩) (by show c < _; omega)).trans (h.cell x hx), fun x => (s.frozen (a := ⟨c, x, none⟩) (by show c < _; omega)).trans (h.frozen x)⟩
theorem At1.grown {row : Option Nat} (h : At1 c o r w w') (g : w'.grownBy w'' row) (hc : c < w.heap.size) (hr : row = r ∨ ∀ k, row = some k -> w.heap.size <= k) (hrc : some c ≠ row) : At1 c o r w w'' := by
 have hl := h.size; refine ⟨g.os.trans h.os, g.tape.trans h.tape, g.output.trans h.output, Nat.le_trans h.size g.size, fun k h1 h2 h3 => (g.block k (by omega) ?_).trans (h.block k h1 h2 h3), fun x hx => (World.cell?_of_block (w := w') (a := ⟨c, x, none⟩) (g.block c (by omega) hrc)).trans (h.cell x hx), fun x => (World.frozen?_of_block (w := w') (a := ⟨c, x, none⟩) (g.block c (by omega) hrc)).trans (h.frozen x)⟩
 rcases hr with rfl | hr
 . exact h3
 . intro e; have := hr k e.symm; omega
theorem At1.setRow (h : At1 c o r w w') (g i : Nat) (v : Value) (hr : some g = r ∨ w.heap.size <= g) (hc : g ≠ c) : At1 c o r w (w'.setCell ⟨g, i, none⟩ v) := by
 have M := (xq0.refl w' g).setCell i v; refine ⟨M.os.trans h.os, M.tape.trans h.tape, M.output.trans h.output, by rw [M.size]; exact h.size, fun k h1 h2 h3 => (M.other k ?_).trans (h.block k h1 h2 h3), fun x hx => (M.cell (a := ⟨c, x, none⟩) (Ne.symm hc)).trans (h.cell x hx), fun x => (M.frozenO (a := ⟨c, x, none⟩) (Ne.symm hc)).trans (h.frozen x)⟩
 rcases hr with rfl | hr
 . intro e; exact h3 (by rw [e])
 . omega
theorem At1.setC (h : At1 c o r w w') (v : Value) : At1 c o r w (w'.setCell ⟨c, o, none⟩ v) := by
 have M := (xq0.refl w' c).setCell o v; refine ⟨M.os.trans h.os, M.tape.trans h.tape, M.output.trans h.output, by rw [M.size]; exact h.size, fun k h1 h2 h3 => (M.other k h2).trans (h.block k h1 h2 h3), fun x hx => ?_, fun x => (M.frozen x).trans (h.frozen x)⟩; rw [<- h.cell x hx]; exact World.cell?_setCell_other _ _ _ _ (by simp)
end
def AddL (X V Y : Nat -> Nat) (n m i c : Nat) : Prop := lv V i + c * 2 ^ (32 * i) = lv (extL X n) i + lv (extL Y m) i /\ c <= 1 /\ (∀ k, i <= k -> V k = extL X n k) /\ ∀ k, k < i -> V k < 4294967296
theorem addL_step {X V Y : Nat -> Nat} {n m i c s c' x y : Nat} (h : AddL X V Y n m i c) (hx : V i = x) (hy : extL Y m i = y) (hs : s < 4294967296) (hc : c' <= 1) (e : s + c' * 4294967296 = x + y + c) : AddL X (upd V i s) Y n m (i + 1) c' := by
 obtain ⟨h1, h2, h3, h4⟩ := h; have hx0 : extL X n i = x := by rw [<- hx]; exact (h3 i (Nat.le_refl _)).symm
 refine ⟨?_, hc, fun k hk => by rw [xq5 _ _ _ _ (by omega)]; exact h3 k (by omega), fun k hk => ?_⟩
 . simp only [lv, xj2, lv_upd V i s i (Nat.le_refl _), hx0, hy]
   rw [pow32]; generalize 2 ^ (32 * i) = P at *; have e2 : s * P + c' * (4294967296 * P) = x * P + y * P + c * P := by rw [<- Nat.mul_assoc, <- Nat.add_mul, <- Nat.add_mul, <- Nat.add_mul, e]
   omega
 . by_cases e2 : k = i
   . subst e2; rw [xj2]; exact hs
   . rw [xq5 _ _ _ _ e2]; exact h4 k (by omega)
theorem addL_end {X V Y : Nat -> Nat} {n m k c : Nat} (h : AddL X V Y n m k c) (hn : n <= k) (hm : m <= k) : lv V k + c * 2 ^ (32 * k) = lv X n + lv Y m := by
 have := h.1; rw [yx7 X n k hn, yx7 Y m k hm] at this; exact this
theorem xq2.at1 {c o : Nat} {r : Option Nat} {w w' : World} {a : Option Addr} {b off m : Nat} {Y : Nat -> Nat} (h : xq2 w a b off m Y) (s : At1 c o r w w') (h1 : 0 < m -> b ≠ c) (h2 : 0 < m -> r ≠ some b) : xq2 w' a b off m Y :=
 fun j hj => ⟨(h j hj).1, (World.cell?_of_block (w := w) (a := ⟨b, off + j, none⟩) (s.block b (h.lt (by omega)) (h1 (by omega)) (fun e => h2 (by omega) e.symm))).trans (h j hj).2⟩
theorem add_any (c o base n : Nat) (v0 : Value) (a' : Option Addr) (b' off' m cap' : Nat) (X Y : Nat -> Nat) (w : World) (hn : n <= 67108864) (hm : m <= 67108864) (hc0 : w.cell? ⟨c, o, none⟩ = some v0) (hf0 : w.frozen? ⟨c, o, none⟩ = false)
 (hown : w.ownsRow base 119 1 v0 n (ll X n)) (hcb : c < base) (hbase : base <= w.heap.size) (hne : 0 < m -> v0.ownBlock ≠ some b') (hbc : 0 < m -> b' ≠ c) (hY : xq2 w a' b' off' m Y) (hXl : ∀ j, j < n -> X j < 4294967296) (hYl : ∀ j, j < m -> Y j < 4294967296) :
 Calls Tryz.prog 169 #[.pointer (some ⟨c, o, none⟩), .slice a' m cap'] w fun e w' => e = .returned (.tuple #[]) /\ ∃ v k V, w'.cell? ⟨c, o, none⟩ = some v /\ w'.ownsRow base 119 1 v k (ll V k) /\ (∀ q, v.ownBlock = some q -> v0.ownBlock = some q ∨ w.heap.size <= q) /\
  At1 c o v0.ownBlock w w' /\ (∀ j, j < k -> V j < 4294967296) /\ lv V k = lv X n + lv Y m /\ k <= max n m + 1 /\ (k = n ∨ k = m ∨ V (k - 1) ≠ 0) := by
 obtain ⟨i0, hi, hz0, hz1, hz2⟩ := info_parts Tryz.info119; have hcl : c < w.heap.size := by omega
 have HXl := hide hXl; have HYl := hide hYl; clear hXl hYl
 have HLL : Hid (ll (extL X n) n = ll X n) := by
  simp only [Hid, ll]; exact List.map_congr_left fun j hj => by simp [extL, List.mem_range.1 hj]
 go_enter Tryz.func169, Tryz.ntmps169; go_wp2
 go_loopg [] (m - n) (fun g wr => ∃ (k : Nat) (v : Value), n <= k /\ (k = n ∨ k <= m) /\ Hid (g = m - k) /\ wr.cell? ⟨c, o, none⟩ = some v /\ wr.ownsRow base 119 1 v k (ll (extL X n) k) /\ Hid (∀ q, v.ownBlock = some q -> v0.ownBlock = some q ∨ w.heap.size <= q) /\ At1 c o v0.ownBlock w wr)
 case atStart => exact ⟨n, v0, Nat.le_refl _, Or.inl rfl, hide rfl, hc0, by rw [HLL.out]; exact hown, hide (fun q hq => Or.inl hq), At1.refl _ _ _ _⟩
 case round =>
  obtain ⟨k, v, hnk, hkm, HG, q0, ho, HB, hs⟩ := hrel; obtain ⟨a, cap, rfl, hkc, hac, hag⟩ := yz1 ho; have qf : wr.frozen? ⟨c, o, none⟩ = false := by rw [hs.frozen]; exact hf0
  have hsz := hs.size
  by_cases hlt : k < m
  . have HO := hide hown
    clear hown; have hC : some c ≠ (Value.slice a k cap).ownBlock := fun e => by have := (ho.lt c e.symm).1; omega
    go_wp2_with (at_builtin; refine wpList_append_own_at _ rfl _ _ 115 rfl base 119 i0 (.int .u32 0) 1 4 Tryz.underlying115 hi hz0 hz1 hz2 rfl (by decide) _ _ _ rfl (ho.alloc _) ⟨wr.heap.size, 0, none⟩ 1 1 [.int .u32 0] rfl rfl (xv0 _ _ _) (xw4 _ rfl) (by unfold maxLen; omega) (by omega) (by simp; omega) ?_)
    intro v' w1 hown' hgrow hnn hat; rw [ll_snoc X n k hnk] at hown'; have sW := sal wr (.cells #[.int .u32 0] 119)
    have hR : (Value.slice a k cap).ownBlock = v0.ownBlock ∨ ∀ q, (Value.slice a k cap).ownBlock = some q -> w.heap.size <= q := by
     cases e : (Value.slice a k cap).ownBlock with
     | none => exact Or.inr (fun q h => by cases h)
     | some q =>
       rcases HB.out q e with h | h
       . exact Or.inl h.symm
       . exact Or.inr (fun q' h' => by cases h'; exact h)
    have hs1 : At1 c o v0.ownBlock w w1 := (hs.alloc hcl _).grown hgrow hcl hR hC; have q1 : w1.cell? ⟨c, o, none⟩ = some (.slice a k cap) := hgrow.cell ((sW.cell (a := ⟨c, o, none⟩) (show c < wr.heap.size by omega)).trans q0) hC; have f1 : w1.frozen? ⟨c, o, none⟩ = false := by rw [hs1.frozen]; exact hf0
    have HB1 := hide (fun q (hq : v'.ownBlock = some q) => show v0.ownBlock = some q ∨ w.heap.size <= q by
     rcases hat with h | h
     . exact HB.out q (h.symm.trans hq)
     . rw [hq] at h; simp at h; omega)
    obtain ⟨a1, cap1, rfl, hkc1, hac1, hag1⟩ := yz1 hown'; have hCv : (Value.slice a1 (k + 1) cap1).ownBlock ≠ some c := fun e => by have := (hown'.lt c e).1; omega
    clear hgrow hnn hat sW hR ho hs HB q0 qf hC; go_wp2
    go_roundg (m - (k + 1))
    case rel => exact ⟨k + 1, _, by omega, Or.inr (by omega), hide rfl, World.cell?_setCell_same _ _ _ q1, ownsRow_setCell_other hown' hCv _, HB1, hs1.setC _⟩
    case measure => have := HG.out; omega
  . have hmk : m <= k := by omega
    have hkb : k <= 67108864 := by omega
    have HKK : Hid (k = n ∨ k = m) := hide (by omega); have HV0 : Hid (AddL X (extL X n) Y n m 0 0) := hide ⟨by simp [lv], by omega, fun _ _ => rfl, fun j hj => absurd hj (by omega)⟩; have HK : Hid (k <= max n m) := hide (by omega); clear hown hc0 hlt hkm HG; go_wp2
    go_loopw [4, 26] (fun q t wr => ∃ (i cb : Nat) (V : Nat -> Nat), i <= k /\ t = .int .i64 i /\ q = .int .u64 cb /\ cb <= 1 /\ wr.cell? ⟨c, o, none⟩ = some (.slice a k cap) /\ wr.ownsRow base 119 1 (.slice a k cap) k (ll V k) /\ At1 c o v0.ownBlock w wr /\ Hid (AddL X V Y n m i cb)) (fun _ t _ => k - (intOf t).toNat)
    case atStart => exact ⟨0, 0, extL X n, Nat.zero_le _, rfl, rfl, by omega, q0, ho, hs, HV0⟩
    case round =>
     obtain ⟨i, cb, V, hik, rfl, rfl, hcb1, q2, ho2, hs2, HR⟩ := hrel; clear ho hs q0 qf HV0
     by_cases hlt : i < k
     . obtain ⟨g, rfl⟩ := hag i hlt
       obtain ⟨g', cap', e, -, hbg, hgl, LV, FV⟩ := xw1 ho2 (by simp); cases e; have g1 : wr.cell? ⟨g, i, none⟩ = some (.int .u32 (V i)) := by simpa using (LV i hlt).2
       have g2 : wr.frozen? ⟨g, i, none⟩ = false := FV i
       have hgr : some g = v0.ownBlock ∨ w.heap.size <= g := by
        rcases HB.out g rfl with h | h
        . exact Or.inl h.symm
        . exact Or.inr h
       have hxl : V i < 4294967296 := by
        rw [HR.out.2.2.1 i (Nat.le_refl _)]; unfold extL
        split
        . exact HXl.out i (by assumption)
        . omega
       have STEP := hide (fun (s c' : Nat) (y : Nat) (hy : extL Y m i = y) => addL_step (s := s) (c' := c') HR.out rfl hy); obtain ⟨x, ex⟩ : ∃ y, y = V i := ⟨_, rfl⟩; rw [<- ex] at g1 hxl STEP; clear ex LV FV; have hin : (i : Int) < (k : Int) := by omega
       have hcg : g ≠ c := by omega
       have q3 : ∀ u, (wr.setCell ⟨g, i, none⟩ u).cell? ⟨c, o, none⟩ = some (.slice (some ⟨g, 0, none⟩) k cap) := fun u => by rw [((xq0.refl wr g).setCell i u).cell (a := ⟨c, o, none⟩) (Ne.symm hcg)]; exact q2
       by_cases him : i < m
       . obtain ⟨rfl, ky⟩ := (hY.at1 hs2 hbc hne) i him
         have hyl := HYl.out i him; have HEy : Hid (extL Y m i = Y i) := by simp [Hid, extL, him]
         obtain ⟨y, ey⟩ : ∃ y, y = Y i := ⟨_, rfl⟩; rw [<- ey] at ky hyl HEy; clear ey
         by_cases hb : x + cb + y < 4294967296
         . go_wp2
           go_roundw
           case rel => go_light; exact ⟨i + 1, 0, _, by omega, by go_num, congrArg (Value.int .u64) (by omega), by omega, q3 _, own_setI ho2 i (x + cb + y) hlt _ (by omega), hs2.setRow g i _ hgr hcg, STEP.out _ _ y HEy.out (by omega) (by omega) (by omega)⟩
           case measure => simp [intOf]; omega
         . go_wp2
           go_roundw
           case rel => go_light; exact ⟨i + 1, 1, _, by omega, by go_num, congrArg (Value.int .u64) (by omega), by omega, q3 _, own_setI ho2 i (x + cb + y - 4294967296) hlt _ (by omega), hs2.setRow g i _ hgr hcg, STEP.out _ _ y HEy.out (by omega) (by omega) (by omega)⟩
           case measure => simp [intOf]; omega
       . have HEy : Hid (extL Y m i = 0) := by simp [Hid, extL, him]
         by_cases hb : x + cb < 4294967296
         . go_wp2
           go_roundw
           case rel => go_light; exact ⟨i + 1, 0, _, by omega, by go_num, congrArg (Value.int .u64) (by omega), by omega, q3 _, own_setI ho2 i (x + cb) hlt _ (by omega), hs2.setRow g i _ hgr hcg, STEP.out _ _ 0 HEy.out (by omega) (by omega) (by omega)⟩
           case measure => simp [intOf]; omega
         . go_wp2
           go_roundw
           case rel => go_light; exact ⟨i + 1, 1, _, by omega, by go_num, congrArg (Value.int .u64) (by omega), by omega, q3 _, own_setI ho2 i (x + cb - 4294967296) hlt _ (by omega), hs2.setRow g i _ hgr hcg, STEP.out _ _ 0 HEy.out (by omega) (by omega) (by omega)⟩
           case measure => simp [intOf]; omega
     . have e : i = k := by omega
       subst e; have HE := hide (addL_end HR.out hnk hmk); have hc2 : cb = 0 ∨ cb = 1 := by omega
       rcases hc2 with rfl | rfl
       . go_wp2
         go_end0
         exact ⟨rfl, _, i, V, q2, ho2, HB.out, hs2, HR.out.2.2.2, by have := HE.out; omega, by have := HK.out; omega, by rcases HKK.out with h | h <;> simp [h]⟩
       . have hC : some c ≠ (Value.slice a i cap).ownBlock := fun e => by have := (ho2.lt c e.symm).1; omega
         have hsz2 := hs2.size
         go_wp2_with (at_builtin; refine wpList_append_own_at _ rfl _ _ 115 rfl base 119 i0 (.int .u32 0) 1 4 Tryz.underlying115 hi hz0 hz1 hz2 rfl (by decide) _ _ _ rfl (ho2.alloc _) ⟨wr.heap.size, 0, none⟩ 1 1 [.int .u32 1] rfl rfl (xv0 _ _ _) (xw4 _ rfl) (by unfold maxLen; omega) (by omega) (by simp; omega) ?_)
         intro v' w1 hown' hgrow hnn hat; rw [show ll V i ++ [.int .u32 1] = ll (upd V i 1) (i + 1) from by rw [ll_succ, xj2, ll_congr (fun j hj => xq5 _ _ _ _ (show j ≠ i by omega))]; rfl] at hown'; have sW := sal wr (.cells #[.int .u32 1] 119)
         have hR : (Value.slice a i cap).ownBlock = v0.ownBlock ∨ ∀ q, (Value.slice a i cap).ownBlock = some q -> w.heap.size <= q := by
          cases e : (Value.slice a i cap).ownBlock with
          | none => exact Or.inr (fun q h => by cases h)
          | some q =>
            rcases HB.out q e with h | h
            . exact Or.inl h.symm
            . exact Or.inr (fun q' h' => by cases h'; exact h)
         have hs1 : At1 c o v0.ownBlock w w1 := (hs2.alloc hcl _).grown hgrow hcl hR hC; have q1 : w1.cell? ⟨c, o, none⟩ = some (.slice a i cap) := hgrow.cell ((sW.cell (a := ⟨c, o, none⟩) (show c < wr.heap.size by omega)).trans q2) hC; have f1 : w1.frozen? ⟨c, o, none⟩ = false := by rw [hs1.frozen]; exact hf0
         have HB1 := hide (fun q (hq : v'.ownBlock = some q) => show v0.ownBlock = some q ∨ w.heap.size <= q by
          rcases hat with h | h
          . exact HB.out q (h.symm.trans hq)
          . rw [hq] at h; simp at h; omega)
         obtain ⟨a1, cap1, rfl, hkc1, hac1, hag1⟩ := yz1 hown'; have hCv : (Value.slice a1 (i + 1) cap1).ownBlock ≠ some c := fun e => by have := (hown'.lt c e).1; omega
         have HV1 := hide HR.out.2.2.2; clear hgrow hnn hat sW hR ho2 hs2 HB q2 hC HR; go_wp2
         go_end0
         refine ⟨rfl, _, i + 1, upd V i 1, World.cell?_setCell_same _ _ _ q1, ownsRow_setCell_other hown' hCv _, HB1.out, hs1.setC _, fun j hj => ?_, ?_, by have := HK.out; omega, Or.inr (Or.inr (by rw [show i + 1 - 1 = i by omega, xj2]; omega))⟩
         . by_cases e2 : j = i
           . subst e2; rw [xj2]; omega
           . rw [xq5 _ _ _ _ e2]; exact HV1.out j (by omega)
         . have := HE.out
           simp only [lv, xj2, lv_upd V i 1 i (Nat.le_refl _)]; exact this
structure Oth3 (c g h : Nat) (w w' : World) : Prop where
 os : w'.os = w.os
 tape : w'.tape = w.tape
 output : w'.output = w.output
 size : w.heap.size <= w'.heap.size
 block : ∀ k, k < w.heap.size -> k ≠ c -> k ≠ g -> k ≠ h -> w'.heap[k]? = w.heap[k]?
theorem Oth3.trans {c g h : Nat} {w w1 w2 : World} (x : Oth3 c g h w w1) (y : Oth3 c g h w1 w2) : Oth3 c g h w w2 :=
 ⟨y.os.trans x.os, y.tape.trans x.tape, y.output.trans x.output, Nat.le_trans x.size y.size, fun k h1 h2 h3 h4 => (y.block k (Nat.lt_of_lt_of_le h1 x.size) h2 h3 h4).trans (x.block k h1 h2 h3 h4)⟩
theorem Oth3.ofMarked {c g h b : Nat} {w w' : World} (m : xq0 w w' b) (hb : b = c ∨ b = g ∨ b = h) : Oth3 c g h w w' :=
 ⟨m.os, m.tape, m.output, by rw [m.size]; exact Nat.le_refl _, fun k _ h2 h3 h4 => m.other k (by omega)⟩
theorem Oth3.ofAt1 {c o g h : Nat} {w w' : World} (m : At1 c o (some g) w w') : Oth3 c g h w w' :=
 ⟨m.os, m.tape, m.output, m.size, fun k h1 h2 h3 _ => m.block k h1 h2 (by simp; exact h3)⟩
def xj9 (f f' : Bool) (x y : Nat) : Bool := if f = f' then f else if x < y then f' else f
def xq3 (f f' : Bool) (x y : Nat) : Nat := if f = f' then x + y else if x < y then y - x else x - y
theorem top_of_sum {X Y V : Nat -> Nat} {n m k : Nat} (lV : ∀ j, j < k -> V j < 4294967296) (e : lv V k = lv X n + lv Y m) (hk : k = n ∨ k = m ∨ V (k - 1) ≠ 0) (pX : 0 < n -> X (n - 1) ≠ 0) (pY : 0 < m -> Y (m - 1) ≠ 0) (h0 : 0 < k) : V (k - 1) ≠ 0 := by
 intro hz; have e2 : lv V k = lv V (k - 1) := lv_more V (k - 1) k (by omega) (fun j h1 h2 => by rw [show j = k - 1 by omega]; exact hz)
 rcases hk with rfl | rfl | h
 . have := yv8 (A := V) (B := X) (n := k - 1) (m := k) (fun j hj => lV j (by omega)) (by omega) pX
   omega
 . have := yv8 (A := V) (B := Y) (n := k - 1) (m := k) (fun j hj => lV j (by omega)) (by omega) pY
   omega
 . exact h hz
theorem subAt1 (c : Nat) (x z u : Value) (b n cap : Nat) (a' : Option Addr) (b' off' m cap' : Nat) (X Y : Nat -> Nat) (w : World) (hn : n <= 268435456) (hnc : n <= cap) (B : Box4 w c x (.slice (some ⟨b, 0, none⟩) n cap) z u)
 (hf : ∀ x, w.frozen? ⟨b, x, none⟩ = false) (hcb : c ≠ b) (hbb : b' ≠ b) (hX : xq2 w (some ⟨b, 0, none⟩) b 0 n X) (hY : xq2 w a' b' off' m Y) (hXl : ∀ j, j < n -> X j < 4294967296) (hYl : ∀ j, j < m -> Y j < 4294967296) (pY : 0 < m -> Y (m - 1) ≠ 0) (hle : lv Y m <= lv X n) (g h : Nat) (hb : b = g ∨ b = h) :
 Calls Tryz.prog 170 #[.pointer (some ⟨c, 1, none⟩), .slice a' m cap'] w fun e w' => e = .returned (.tuple #[]) /\ ∃ v, Box4 w' c x v z u /\ xj8 w' v b (lv X n - lv Y m) n /\ Oth3 c g h w w' := by
 have hmn : m <= n := by
  rcases Nat.lt_or_ge n m with h1 | h1
  . have := yv8 (A := X) (B := Y) (n := n) (m := m) hXl h1 pY
    omega
  . exact h1
 refine (subtract_any c 1 b n cap a' b' off' m cap' X Y w hn hnc hmn B.c1 (B.f 1) hf hcb hbb hX hY hXl hYl hle).mono ?_; rintro e w' ⟨rfl, w2, V, M, L, lV, eV, rfl⟩; have M2 := (xq0.refl w2 c).setCell 1 (.slice (some ⟨b, 0, none⟩) (tlen (nz V) n) cap)
 have N2 : xj8 w2 (.slice (some ⟨b, 0, none⟩) (tlen (nz V) n) cap) b (lv X n - lv Y m) n :=
  ⟨_, _, _, V, rfl, Nat.le_trans (xz0 _ _) hnc, xz0 _ _, fun h => (by cases h), L.take (xz0 _ _), fun _ o => by rw [M.frozen o]; exact hf o, fun j hj => lV j (Nat.lt_of_lt_of_le hj (xz0 _ _)), top_row, by rw [xx9]; exact eV⟩
 exact ⟨rfl, _, (B.marked M hcb).set1 _, N2.marked M2 (Ne.symm hcb), (Oth3.ofMarked M (by omega)).trans (Oth3.ofMarked M2 (Or.inl rfl))⟩
theorem addTop_any (c : Nat) (f f' : Bool) (v2 v3 : Value) (g h qg qh : Nat) (P Q : Nat -> Nat) (w : World) (hqg : qg <= 16777215) (hqh : qh <= 16777215) (B : Box4 w c (.bool f) (.slice (some ⟨g, 0, none⟩) (tlen (nz P) qg) qg) v2 v3)
 (rg : w.rowIs g 119 qg (fun j => .int .u32 (P j : Nat))) (rh : w.rowIs h 119 qh (fun j => .int .u32 (Q j : Nat))) (hP : ∀ k, P k < 4294967296) (hQ : ∀ k, Q k < 4294967296) (hcg : c < g) (hgh : h ≠ g) (hch : c ≠ h) :
 Calls Tryz.prog 164 #[.pointer (some ⟨c, 0, none⟩), .bool f', .slice (some ⟨h, 0, none⟩) (tlen (nz Q) qh) qh] w fun e w' => e = .returned (.tuple #[]) /\ ∃ v gg, Box4 w' c (.bool (xj9 f f' (lv P qg) (lv Q qh))) v v2 v3 /\
  xj8 w' v gg (xq3 f f' (lv P qg) (lv Q qh)) 16777216 /\ (gg = g ∨ gg = h ∨ w.heap.size <= gg) /\ gg < w'.heap.size /\ Oth3 c g h w w' := by
 have tP := xz0 (nz P) qg; have tQ := xz0 (nz Q) qh; have LP := (xz9 rg).take tP; have LQ := (xz9 rh).take tQ; have pP : 0 < tlen (nz P) qg -> P (tlen (nz P) qg - 1) ≠ 0 := top_row; have pQ : 0 < tlen (nz Q) qh -> Q (tlen (nz Q) qh - 1) ≠ 0 := top_row; have eP := xx9 P qg; have eQ := xx9 Q qh; have oP : w.ownsRow g 119 1 (.slice (some ⟨g, 0, none⟩) (tlen (nz P) qg) qg) (tlen (nz P) qg) (ll P (tlen (nz P) qg)) := row_own rg tP (by unfold maxLen; omega) (Nat.le_refl _); have fg := rg.frozen; have fh := rh.frozen; have gl := rg.lt; have hl := rh.lt; clear rg rh; generalize tlen (nz P) qg = n at *; generalize tlen (nz Q) qh = m at *; have hcl := B.lt
 by_cases hff : f = f'
 . have hN : xj9 f f' (lv P qg) (lv Q qh) = f := by simp [xj9, hff]
   have hT : xq3 f f' (lv P qg) (lv Q qh) = lv P n + lv Q m := by simp [xq3, hff, eP, eQ]
   rw [hN, hT]; clear hN hT eP eQ; subst hff; have k0 := B.c0; go_enter Tryz.func164, Tryz.ntmps164; go_wp2_with fail; refine (add_any c 1 g n (.slice (some ⟨g, 0, none⟩) n qg) (some ⟨h, 0, none⟩) h 0 m qh P Q w (by omega) (by omega) B.c1 (B.f 1) oP hcg (by omega) (fun _ e => hgh (by simpa [Value.ownBlock] using e.symm)) (fun _ => Ne.symm hch) LQ (fun j _ => hP j) (fun j _ => hQ j)).mono ?_; rintro e w1 ⟨rfl, v, k, V, c1, o1, b1, A1, lV, eV, kk, tk⟩; go_wp2; refine bodyPost_ret (results_none rfl _ _ _) rfl ?_; have top := top_of_sum lV eV tk pP pQ; have Bx : Box4 w1 c (.bool f) v v2 v3 := ⟨by rw [A1.cell 0 (by omega)]; exact B.c0, c1, by rw [A1.cell 2 (by omega)]; exact B.c2, by rw [A1.cell 3 (by omega)]; exact B.c3, fun x => by rw [A1.frozen]; exact B.f x⟩; have hs := A1.size; have hk : k <= 16777216 := by omega
   have O : Oth3 c g h w w1 := Oth3.ofAt1 A1; have hc := @World.ownsRow.cells _ _ _ _ _ _ _ o1
   rcases o1.2 with ⟨rfl, rfl⟩ | ⟨g', cap, cur, rfl, hb, hg, hm, _⟩
   . exact ⟨rfl, _, g, Bx, by rw [<- eV]; exact natAt_nil _ _ _, Or.inl rfl, by omega, O⟩
   . have hlt := (Array.getElem?_eq_some_iff.1 hg).1
     refine ⟨rfl, _, g', Bx, ⟨_, k, cap, V, rfl, hm, hk, fun h => (by cases h), fun j hj => ⟨rfl, ?_⟩, fun _ o => by simp [World.frozen?, hg], lV, top, eV⟩, ?_, hlt, O⟩
     . have := hc (g := g') rfl j _ (ll_get V k j hj)
       rw [Addr.add_lit] at this; exact this
     . rcases b1 g' rfl with e | e
       . simp [Value.ownBlock] at e; exact Or.inl e.symm
       . exact Or.inr (Or.inr e)
 . have k0 := B.c0
   have HFF := hide hff; have hfb : (f == f') = false := by simp [hff]
   by_cases hlt : lv P n < lv Q m
   . have hN : xj9 f f' (lv P qg) (lv Q qh) = f' := by rw [<- eP, <- eQ]; simp [xj9, hff, hlt]
     have hT : xq3 f f' (lv P qg) (lv Q qh) = lv Q m - lv P n := by rw [<- eP, <- eQ]; simp [xq3, hff, hlt]
     rw [hN, hT]; clear hN hT eP eQ hff; have hcp := cmpN_neg2 hlt; have HL := hide hlt; clear hlt; go_enter Tryz.func164, Tryz.ntmps164; go_wp2_with fail; refine (xw7 c 1 (some ⟨g, 0, none⟩) (some ⟨h, 0, none⟩) g 0 n qg h 0 m qh P Q w (by omega) (by omega) B.c1 LP LQ (fun j _ => hP j) (fun j _ => hQ j) pP pQ).mono ?_; rintro e w1 ⟨rfl, s1⟩; have B1 : Box4 w1 c (.bool f) (.slice (some ⟨g, 0, none⟩) n qg) v2 v3 := ⟨by rw [s1.cell]; exact B.c0, by rw [s1.cell]; exact B.c1, by rw [s1.cell]; exact B.c2, by rw [s1.cell]; exact B.c3, fun x => by rw [s1.frozen]; exact B.f x⟩; have j1 := B1.c1; have j0 := B1.c0; have jf0 := B1.f 0; have jf1 := B1.f 1; go_wp2_with fail; have M1 : xq0 w1 ((w1.setCell ⟨c, 1, none⟩ (.slice (some ⟨h, 0, none⟩) m qh)).setCell ⟨c, 0, none⟩ (.bool f')) c := ((xq0.refl w1 c).setCell 1 _).setCell 0 _; have B2 := (B1.set1 (.slice (some ⟨h, 0, none⟩) m qh)).set0 (.bool f'); have O1 : Oth3 c g h w w1 := ⟨s1.os, s1.tape, s1.output, by rw [s1.size]; exact Nat.le_refl _, fun k _ _ _ _ => by rw [s1.heap]⟩; have O2 := O1.trans (Oth3.ofMarked (c := c) (g := g) (h := h) M1 (Or.inl rfl)); refine (subAt1 c _ _ _ h m qh (some ⟨g, 0, none⟩) g 0 n qg Q P _ (by omega) tQ B2 (fun x => by rw [M1.frozenO (a := ⟨h, x, none⟩) (Ne.symm hch), s1.frozen]; exact fh x) hch (Ne.symm hgh) ((LQ.same s1).marked M1 (fun _ => Ne.symm hch)) ((LP.same s1).marked M1 (fun _ => by omega)) (fun j _ => hQ j) (fun j _ => hP j) pP (Nat.le_of_lt HL.out) g h (Or.inr rfl)).mono ?_; rintro e w2 ⟨rfl, v, B3, N3, O3⟩; have O := O2.trans O3; go_wp2
     go_end0
     exact ⟨rfl, v, h, B3, N3.more (by omega), Or.inr (Or.inl rfl), Nat.lt_of_lt_of_le hl O.size, O⟩
   . have hN : xj9 f f' (lv P qg) (lv Q qh) = f := by rw [<- eP, <- eQ]; simp [xj9, hff, hlt]
     have hT : xq3 f f' (lv P qg) (lv Q qh) = lv P n - lv Q m := by rw [<- eP, <- eQ]; simp [xq3, hff, hlt]
     rw [hN, hT]; clear hN hT eP eQ hff; have hcp := cmpN_nonneg2 (Nat.le_of_not_lt hlt); have HL := hide (Nat.le_of_not_lt hlt); clear hlt; go_enter Tryz.func164, Tryz.ntmps164; go_wp2_with fail; refine (xw7 c 1 (some ⟨g, 0, none⟩) (some ⟨h, 0, none⟩) g 0 n qg h 0 m qh P Q w (by omega) (by omega) B.c1 LP LQ (fun j _ => hP j) (fun j _ => hQ j) pP pQ).mono ?_; rintro e w1 ⟨rfl, s1⟩; have B1 : Box4 w1 c (.bool f) (.slice (some ⟨g, 0, none⟩) n qg) v2 v3 := ⟨by rw [s1.cell]; exact B.c0, by rw [s1.cell]; exact B.c1, by rw [s1.cell]; exact B.c2, by rw [s1.cell]; exact B.c3, fun x => by rw [s1.frozen]; exact B.f x⟩; go_wp2_with fail; refine (subAt1 c _ _ _ g n qg (some ⟨h, 0, none⟩) h 0 m qh P Q w1 (by omega) tP B1 (fun x => by rw [s1.frozen]; exact fg x) (by omega) hgh (LP.same s1) (LQ.same s1) (fun j _ => hP j) (fun j _ => hQ j) pQ HL.out g h (Or.inl rfl)).mono ?_; rintro e w2 ⟨rfl, v, B2, N2, O2⟩; have O1 : Oth3 c g h w w1 := ⟨s1.os, s1.tape, s1.output, by rw [s1.size]; exact Nat.le_refl _, fun k _ _ _ _ => by rw [s1.heap]⟩; have O := O1.trans O2; go_wp2
     go_end0
     exact ⟨rfl, v, g, B2, N2.more (by omega), Or.inl rfl, Nat.lt_of_lt_of_le gl O.size, O⟩
theorem fracCmp_sign (c : Nat) (f f' : Bool) (a b a' b' : Option Addr) (n ca m cb n' ca' m' cb' : Nat) (w : World) (B : Box4 w c (.bool f) (.slice a n ca) (.slice b m cb) (.slice none 0 0)) (hne : f ≠ f') :
 Calls Tryz.prog 86 #[.pointer (some ⟨c, 0, none⟩), .agg #[.bool f', .slice a' n' ca', .slice b' m' cb', .slice none 0 0]] w fun e w' => e = .returned (.int .i64 (if f then -1 else 1)) /\ w.Since w.heap.size w' := by
 have sA := sal w (.cells #[.bool f', .slice a' n' ca', .slice b' m' cb', .slice none 0 0] 129); have BA := B.keep sA; have gA := Box4.new w (.bool f') (.slice a' n' ca') (.slice b' m' cb') (.slice none 0 0) 129; have k0 := BA.c0; have g0 := gA.c0; cases f <;> cases f'
 . exact absurd rfl hne
 . go_enter Tryz.func86, Tryz.ntmps86
   go_wp2
   go_quiet (fail)
   go_wp2; go_ret; exact ⟨rfl, ⟨sA.os, sA.tape, sA.output, sA.size, sA.block⟩⟩
 . go_enter Tryz.func86, Tryz.ntmps86
   go_wp2
   go_quiet (fail)
   go_wp2; go_ret; exact ⟨rfl, ⟨sA.os, sA.tape, sA.output, sA.size, sA.block⟩⟩
 . exact absurd rfl hne
theorem fracCmp_same (c : Nat) (f : Bool) (a b a' b' : Option Addr) (ba oa n ca bb ob m cb ba' oa' n' ca' bb' ob' m' cb' : Nat) (X Y X' Y' : Nat -> Nat) (w : World) (hn : n + n' + m + m' <= 16777216)
 (hX : xq2 w a ba oa n X) (hY : xq2 w b bb ob m Y) (hX' : xq2 w a' ba' oa' n' X') (hY' : xq2 w b' bb' ob' m' Y') (hXl : ∀ j, j < n -> X j < 4294967296) (hYl : ∀ j, j < m -> Y j < 4294967296) (hXl' : ∀ j, j < n' -> X' j < 4294967296) (hYl' : ∀ j, j < m' -> Y' j < 4294967296)
 (B : Box4 w c (.bool f) (.slice a n ca) (.slice b m cb) (.slice none 0 0)) :
 Calls Tryz.prog 86 #[.pointer (some ⟨c, 0, none⟩), .agg #[.bool f, .slice a' n' ca', .slice b' m' cb', .slice none 0 0]] w fun e w' => e = .returned (.int .i64 (if f then cmpN (lv X' n' * lv Y m) (lv X n * lv Y' m') else cmpN (lv X n * lv Y' m') (lv X' n' * lv Y m))) /\ w.Since w.heap.size w' := by
 have sA := sal w (.cells #[.bool f, .slice a' n' ca', .slice b' m' cb', .slice none 0 0] 129); have BA := B.keep sA; have gA := Box4.new w (.bool f) (.slice a' n' ca') (.slice b' m' cb') (.slice none 0 0) 129; have hcl := B.lt; have zA : (w.alloc (.cells #[.bool f, .slice a' n' ca', .slice b' m' cb', .slice none 0 0] 129)).heap.size = w.heap.size + 1 := by simp
 have k0 := BA.c0; have k1 := BA.c1; have g0 := gA.c0; have g1 := gA.c1; go_enter Tryz.func86, Tryz.ntmps86; go_wp2
 go_quiet (fail)
 go_wp2; have S1 : w.Since w.heap.size ((w.alloc (.cells #[.bool f, .slice a' n' ca', .slice b' m' cb', .slice none 0 0] 129)).drewN nq) := ⟨sA.os, sA.tape, sA.output, sA.size, sA.block⟩; have B1 : Box4 ((w.alloc (.cells #[.bool f, .slice a' n' ca', .slice b' m' cb', .slice none 0 0] 129)).drewN nq) c (.bool f) (.slice a n ca) (.slice b m cb) (.slice none 0 0) := ⟨BA.c0, BA.c1, BA.c2, BA.c3, BA.f⟩; have G1 : Box4 ((w.alloc (.cells #[.bool f, .slice a' n' ca', .slice b' m' cb', .slice none 0 0] 129)).drewN nq) w.heap.size (.bool f) (.slice a' n' ca') (.slice b' m' cb') (.slice none 0 0) := ⟨gA.c0, gA.c1, gA.c2, gA.c3, gA.f⟩; have zl : w.heap.size + 1 <= ((w.alloc (.cells #[.bool f, .slice a' n' ca', .slice b' m' cb', .slice none 0 0] 129)).drewN nq).heap.size := Nat.le_of_eq zA.symm; clear sA BA gA zA k0 k1 g0 g1; generalize (w.alloc (.cells #[.bool f, .slice a' n' ca', .slice b' m' cb', .slice none 0 0] 129)).drewN nq = w1 at *; have n1 : w1.heap.size ≠ c := by omega
 have n2 : w1.heap.size ≠ w.heap.size := by omega
 have n3 : w1.heap.size + 1 ≠ c := by omega
 have n4 : w1.heap.size + 1 ≠ w.heap.size := by omega
 have kk := And.intro B1.c1 G1.c1; have tZ : (w1.drew.alloc (.cells #[.slice none 0 0] 115)).Since (w1.drew.alloc (.cells #[.slice none 0 0] 115)).heap.size ((w1.drew.alloc (.cells #[.slice none 0 0] 115)).alloc (.cells #[.slice none 0 0] 115)) := (World.Since.refl _ _).alloc (Nat.le_refl _) _; have a1 : ((w1.drew.alloc (.cells #[.slice none 0 0] 115)).alloc (.cells #[.slice none 0 0] 115)).cell? ⟨w1.heap.size, 0, none⟩ = some (.slice none 0 0) := by rw [tZ.cell (a := ⟨w1.heap.size, 0, none⟩) (by show w1.drew.heap.size < _; simp)]; exact World.cell?_alloc_new w1.drew _ _ 0
 clear tZ
 go_region_held3 (fun w' => w'.cell? ⟨c, 1, none⟩ = some (.slice a n ca) /\ w'.cell? ⟨w.heap.size, 1, none⟩ = some (.slice a' n' ca')) (go_keep) (fail)
 all_goals
  first
  | (with_reducible show Exit.then _ _ Exit.normal _ ((w1.alloc (.cells #[.slice a n ca] 115)).alloc (.cells #[.slice a' n' ca'] 115)).drew
     have tV := sal w1 (.cells #[.slice a n ca] 115); have tW : (w1.alloc (.cells #[.slice a n ca] 115)).Since (w1.alloc (.cells #[.slice a n ca] 115)).heap.size ((w1.alloc (.cells #[.slice a n ca] 115)).alloc (.cells #[.slice a' n' ca'] 115)) := (World.Since.refl _ _).alloc (Nat.le_refl _) _; have tt : w1.Since w1.heap.size ((w1.alloc (.cells #[.slice a n ca] 115)).alloc (.cells #[.slice a' n' ca'] 115)).drew := xq6 (tV.trans (sM tW tV.size)); have zV : (w1.alloc (.cells #[.slice a n ca] 115)).heap.size = w1.heap.size + 1 := by simp
     have zW : ((w1.alloc (.cells #[.slice a n ca] 115)).alloc (.cells #[.slice a' n' ca'] 115)).drew.heap.size = w1.heap.size + 2 := by show ((w1.alloc (.cells #[.slice a n ca] 115)).alloc (.cells #[.slice a' n' ca'] 115)).heap.size = _; simp
     have ql : ((w1.alloc (.cells #[.slice a n ca] 115)).alloc (.cells #[.slice a' n' ca'] 115)).drew.cell? ⟨w1.heap.size, 0, none⟩ = some (.slice a n ca) := (tW.cell (a := ⟨w1.heap.size, 0, none⟩) (by show w1.heap.size < _; omega)).trans (World.cell?_alloc_new w1 _ _ 0); have fl : ((w1.alloc (.cells #[.slice a n ca] 115)).alloc (.cells #[.slice a' n' ca'] 115)).drew.frozen? ⟨w1.heap.size, 0, none⟩ = false := (tW.frozen (a := ⟨w1.heap.size, 0, none⟩) (by show w1.heap.size < _; omega)).trans (by simp); have qr : ((w1.alloc (.cells #[.slice a n ca] 115)).alloc (.cells #[.slice a' n' ca'] 115)).drew.cell? ⟨w1.heap.size + 1, 0, none⟩ = some (.slice a' n' ca') := by have := World.cell?_alloc_new (w1.alloc (.cells #[.slice a n ca] 115)) #[.slice a' n' ca'] 115 0; rw [zV] at this; exact this
     have fr : ((w1.alloc (.cells #[.slice a n ca] 115)).alloc (.cells #[.slice a' n' ca'] 115)).drew.frozen? ⟨w1.heap.size + 1, 0, none⟩ = false := by have h9 : ((w1.alloc (.cells #[.slice a n ca] 115)).alloc (.cells #[.slice a' n' ca'] 115)).frozen? ⟨(w1.alloc (.cells #[.slice a n ca] 115)).heap.size, 0, none⟩ = false := (by simp); rw [zV] at h9; exact h9
     have S2 := S1.trans (sM tt S1.size); have B2 := B1.keep tt; have G2 := G1.keep tt; obtain ⟨L, hL⟩ : ∃ L, L = w1.heap.size := ⟨_, rfl⟩; obtain ⟨R, hR⟩ : ∃ R, R = w1.heap.size + 1 := ⟨_, rfl⟩; have hLR : L ≠ R /\ w.heap.size < L /\ w.heap.size < R /\ L < ((w1.alloc (.cells #[.slice a n ca] 115)).alloc (.cells #[.slice a' n' ca'] 115)).drew.heap.size /\ R < ((w1.alloc (.cells #[.slice a n ca] 115)).alloc (.cells #[.slice a' n' ca'] 115)).drew.heap.size := by omega
     rw [<- hR, <- hL]; rw [<- hL] at ql fl; rw [<- hR] at qr fr; clear tV tW tt zV zW; generalize ((w1.alloc (.cells #[.slice a n ca] 115)).alloc (.cells #[.slice a' n' ca'] 115)).drew = w2 at *)
  | (with_reducible show Exit.then _ _ Exit.normal _ ((w1.alloc (.cells #[.slice a' n' ca'] 115)).alloc (.cells #[.slice a n ca] 115)).drew
     have tV := sal w1 (.cells #[.slice a' n' ca'] 115); have tW : (w1.alloc (.cells #[.slice a' n' ca'] 115)).Since (w1.alloc (.cells #[.slice a' n' ca'] 115)).heap.size ((w1.alloc (.cells #[.slice a' n' ca'] 115)).alloc (.cells #[.slice a n ca] 115)) := (World.Since.refl _ _).alloc (Nat.le_refl _) _; have tt : w1.Since w1.heap.size ((w1.alloc (.cells #[.slice a' n' ca'] 115)).alloc (.cells #[.slice a n ca] 115)).drew := xq6 (tV.trans (sM tW tV.size)); have zV : (w1.alloc (.cells #[.slice a' n' ca'] 115)).heap.size = w1.heap.size + 1 := by simp
     have zW : ((w1.alloc (.cells #[.slice a' n' ca'] 115)).alloc (.cells #[.slice a n ca] 115)).drew.heap.size = w1.heap.size + 2 := by show ((w1.alloc (.cells #[.slice a' n' ca'] 115)).alloc (.cells #[.slice a n ca] 115)).heap.size = _; simp
     have qr : ((w1.alloc (.cells #[.slice a' n' ca'] 115)).alloc (.cells #[.slice a n ca] 115)).drew.cell? ⟨w1.heap.size, 0, none⟩ = some (.slice a' n' ca') := (tW.cell (a := ⟨w1.heap.size, 0, none⟩) (by show w1.heap.size < _; omega)).trans (World.cell?_alloc_new w1 _ _ 0); have fr : ((w1.alloc (.cells #[.slice a' n' ca'] 115)).alloc (.cells #[.slice a n ca] 115)).drew.frozen? ⟨w1.heap.size, 0, none⟩ = false := (tW.frozen (a := ⟨w1.heap.size, 0, none⟩) (by show w1.heap.size < _; omega)).trans (by simp); have ql : ((w1.alloc (.cells #[.slice a' n' ca'] 115)).alloc (.cells #[.slice a n ca] 115)).drew.cell? ⟨w1.heap.size + 1, 0, none⟩ = some (.slice a n ca) := by have := World.cell?_alloc_new (w1.alloc (.cells #[.slice a' n' ca'] 115)) #[.slice a n ca] 115 0; rw [zV] at this; exact this
     have fl : ((w1.alloc (.cells #[.slice a' n' ca'] 115)).alloc (.cells #[.slice a n ca] 115)).drew.frozen? ⟨w1.heap.size + 1, 0, none⟩ = false := by have h9 : ((w1.alloc (.cells #[.slice a' n' ca'] 115)).alloc (.cells #[.slice a n ca] 115)).frozen? ⟨(w1.alloc (.cells #[.slice a' n' ca'] 115)).heap.size, 0, none⟩ = false := (by simp); rw [zV] at h9; exact h9
     have S2 := S1.trans (sM tt S1.size); have B2 := B1.keep tt; have G2 := G1.keep tt; obtain ⟨L, hL⟩ : ∃ L, L = w1.heap.size + 1 := ⟨_, rfl⟩; obtain ⟨R, hR⟩ : ∃ R, R = w1.heap.size := ⟨_, rfl⟩; have hLR : L ≠ R /\ w.heap.size < L /\ w.heap.size < R /\ L < ((w1.alloc (.cells #[.slice a' n' ca'] 115)).alloc (.cells #[.slice a n ca] 115)).drew.heap.size /\ R < ((w1.alloc (.cells #[.slice a' n' ca'] 115)).alloc (.cells #[.slice a n ca] 115)).drew.heap.size := by omega
     rw [<- hL, <- hR]; rw [<- hL] at ql fl; rw [<- hR] at qr fr; clear tV tW tt zV zW; generalize ((w1.alloc (.cells #[.slice a' n' ca'] 115)).alloc (.cells #[.slice a n ca] 115)).drew = w2 at *)
 all_goals
  obtain ⟨hLR, hwL, hwR, hL2, hR2⟩ := hLR; clear hL hR a1 n1 n2 n3 n4 kk zl S1 B1 G1; have k2 := G2.c2; go_wp2_with fail; refine (mulAtR L a b' ba oa n ca bb' ob' m' cb' X Y' w2 (by omega) (by omega) (hX.keep S2) (hY'.keep S2) hXl hYl' ql fl).mono ?_; rintro e w3 ⟨rfl, P, q3, f3, r3, hP, eP, O3, z3⟩; have O03 : Oth w.heap.size w w3 := (Oth.ofSince _ S2).up O3 (by omega); have S3 : w.Since w.heap.size w3 := O03.since (Nat.le_refl _); have B3 := B2.oth O3 (by omega); have q4 : w3.cell? ⟨R, 0, none⟩ = some (.slice a' n' ca') := (O3.cell (a := ⟨R, 0, none⟩) hR2 (Ne.symm hLR)).trans qr; have f4 : w3.frozen? ⟨R, 0, none⟩ = false := (O3.frozen (a := ⟨R, 0, none⟩) hR2 (Ne.symm hLR)).trans fr; clear k2 G2 ql fl qr fr O03; have k2 := B3.c2; go_wp2_with fail; refine (mulAtR R a' b ba' oa' n' ca' bb ob m cb X' Y w3 (by omega) (by omega) (hX'.keep S3) (hY.keep S3) hXl' hYl q4 f4).mono ?_; rintro e w4 ⟨rfl, Q, q5, f5, r5, hQ, eQ, O4, z4⟩; have hs3 := O3.size; have O04 : Oth w.heap.size w w4 := (Oth.ofSince _ S3).up O4 (by omega); have S4 : w.Since w.heap.size w4 := O04.since (Nat.le_refl _); have B4 := B3.oth O4 (by omega); have q6 : w4.cell? ⟨L, 0, none⟩ = _ := (O4.cell (a := ⟨L, 0, none⟩) (show L < _ by omega) hLR).trans q3; have r6 := row_oth r3 O4 (by omega); clear k2 B3 q3 f3 q4 f4 r3 O04 B2 O3 O4; have k0 := B4.c0; have tP := xz0 (nz P) (n + m'); have tQ := xz0 (nz Q) (n' + m); have LP := (xz9 r6).take tP; have LQ := (xz9 r5).take tQ; have JA := xw7 R 0 (some ⟨w3.heap.size, 0, none⟩) (some ⟨w2.heap.size, 0, none⟩) w3.heap.size 0 (tlen (nz Q) (n' + m)) (n' + m) w2.heap.size 0 (tlen (nz P) (n + m')) (n + m') Q P w4 (by omega) (by omega) q5 LQ LP (fun j _ => hQ j) (fun j _ => hP j) top_row top_row; have JB := xw7 L 0 (some ⟨w2.heap.size, 0, none⟩) (some ⟨w3.heap.size, 0, none⟩) w2.heap.size 0 (tlen (nz P) (n + m')) (n + m') w3.heap.size 0 (tlen (nz Q) (n' + m)) (n' + m) P Q w4 (by omega) (by omega) q6 LP LQ (fun j _ => hP j) (fun j _ => hQ j) top_row top_row; rw [xx9, xx9, eP, eQ] at JA JB; clear r5 r6 LP LQ hP hQ eP eQ tP tQ; cases f
  . go_wp2_with fail
    refine JB.mono ?_; rintro e w5 ⟨rfl, s5⟩; go_wp2; go_ret; exact ⟨rfl, S4.trans (sM (s5.since w4.heap.size) S4.size)⟩
  . go_wp2_with fail
    refine JA.mono ?_; rintro e w5 ⟨rfl, s5⟩; go_wp2; go_ret; exact ⟨rfl, S4.trans (sM (s5.since w4.heap.size) S4.size)⟩
theorem xx8 (a : Option Addr) (lo b off n cap : Nat) (R : Nat -> RatD) (w : World) (hn : n <= 16777216) (hs : szR R n <= 16777216) (H : Rats w lo a b off n R) :
 Calls Tryz.prog 31 #[.slice a n cap] w fun e w' => ∃ r : Bool, e = .returned (.bool r) /\ (r = true ↔ yz5 R n) /\ w.Since w.heap.size w' := by
 go_enter Tryz.func31, Tryz.ntmps31; go_wp2
 go_loopw [3] (fun i wr => ∃ k : Nat, k <= n /\ i = .int .i64 k /\ w.Since w.heap.size wr /\ yz5 R k) (fun i _ => n - (intOf i).toNat)
 case atStart => exact ⟨0, Nat.zero_le _, rfl, World.Since.refl _ _, fun i hi => absurd hi (by omega)⟩
 case round =>
  obtain ⟨k, hk, rfl, s, O⟩ := hrel
  by_cases hlt : k < n
  . obtain ⟨rfl, a1, a2, k1, k2, M⟩ := H k hlt
    have M' := M.keep s; have g0 := M'.c0; have g1 := M'.c1; have g2 := M'.c2; have hz : (k : Int) < (n : Int) := by omega
    have hsz := szR_at (R := R) hlt; obtain ⟨ba, oa, -, LX⟩ := M'.L.LX; obtain ⟨bb, ob, -, LY⟩ := M'.L.LY; have J1 := specRatOk_any (R k).neg a1 a2 ba oa (R k).n k1 bb ob (R k).m k2 (R k).X (R k).Y wr (by omega) (by omega) LX LY M.L.lX M.L.lY; rw [show xj1 (R k).neg (R k).X (R k).n (R k).Y (R k).m = (R k).ok from rfl] at J1; cases hok : (R k).ok
    . have HK := hide hok
      rw [hok] at J1; clear hok; go_wp2_with fail; refine J1.mono ?_; rintro e w2 ⟨rfl, s2⟩; go_wp2; go_ret; refine ⟨false, rfl, ⟨(fun h => by cases h), fun h => ?_⟩, s.trans (sM s2 s.size)⟩; have := h k hlt; rw [HK.out] at this; cases this
    . have HK := hide hok
      rw [hok] at J1; clear hok; go_wp2_with fail; refine J1.mono ?_; rintro e w2 ⟨rfl, s2⟩; go_wp2; go_roundw
      case rel =>
       refine ⟨k + 1, by omega, by go_num, s.trans (sM s2 s.size), fun i hi => ?_⟩
       by_cases e : i = k
       . subst e; exact HK.out
       . exact O i (by omega)
      case measure => simp [intOf]; omega
  . have e : k = n := by omega
    subst e; go_wp2; go_ret; exact ⟨true, rfl, ⟨fun _ => O, fun _ => rfl⟩, s⟩
theorem yw2 (a a' : Option Addr) (lo b off cap lo' b' off' cap' n : Nat) (R : Nat -> RatD) (w : World) (hn : n <= 16777216) (hs : szR R n <= 16777216) (H : Rats w lo a b off n R) (H' : Rats w lo' a' b' off' n R) :
 Calls Tryz.prog 12 #[.slice a n cap, .slice a' n cap'] w fun e w' => e = .returned (.bool true) /\ w.Since w.heap.size w' := by
 go_enter Tryz.func12, Tryz.ntmps12; go_wp2
 go_loopw [5] (fun i wr => ∃ k : Nat, k <= n /\ i = .int .i64 k /\ w.Since w.heap.size wr) (fun i _ => n - (intOf i).toNat)
 case atStart => exact ⟨0, Nat.zero_le _, rfl, World.Since.refl _ _⟩
 case round =>
  obtain ⟨k, hk, rfl, s⟩ := hrel
  by_cases hlt : k < n
  . obtain ⟨rfl, a1, a2, k1, k2, M⟩ := H k hlt
    obtain ⟨rfl, a1', a2', k1', k2', M'⟩ := H' k hlt; have sd : w.Since w.heap.size wr.drew := ⟨s.os, s.tape, s.output, s.size, s.block⟩; have N := M.keep s; have N' := M'.keep s; have g0 := N.c0; have g1 := N.c1; have g2 := N.c2; have g0' := N'.c0; have g1' := N'.c1; have g2' := N'.c2; have hsz := szR_at (R := R) hlt; have hz : (k : Int) < (n : Int) := by omega
    obtain ⟨ba, oa, -, LX⟩ := (M.L.keep sd).LX; obtain ⟨bb, ob, -, LY⟩ := (M.L.keep sd).LY; obtain ⟨ba', oa', -, LX'⟩ := (M'.L.keep sd).LX; obtain ⟨bb', ob', -, LY'⟩ := (M'.L.keep sd).LY; have J1 := eqRat_true (R k).neg a1 a1' a2 a2' ba oa ba' oa' (R k).n k1 k1' bb ob bb' ob' (R k).m k2 k2' (R k).X (R k).Y wr.drew (by omega) (by omega) LX LX' LY LY'; clear LX LY LX' LY' N N'; go_wp2_with fail
    go_region_held3 (fun w' => w'.cell? ⟨b, off + k * 3, none⟩ = some (.bool (R k).neg) /\ w'.cell? ⟨b, off + k * 3 + 1, none⟩ = some (.slice a1 (R k).n k1) /\ w'.cell? ⟨b, off + k * 3 + 2, none⟩ = some (.slice a2 (R k).m k2) /\ w'.cell? ⟨b', off' + k * 3, none⟩ = some (.bool (R k).neg) /\ w'.cell? ⟨b', off' + k * 3 + 1, none⟩ = some (.slice a1' (R k).n k1') /\ w'.cell? ⟨b', off' + k * 3 + 2, none⟩ = some (.slice a2' (R k).m k2')) (go_keep)
     (first
       | (go_at_call 40
          with_reducible refine J1.mono ?_
          rintro e w1 ⟨rfl, s1⟩; have S1 := sd.trans (sM s1 sd.size); have i0 := (M.keep S1).c0; have i1 := (M.keep S1).c1; have i2 := (M.keep S1).c2; have i0' := (M'.keep S1).c0; have i1' := (M'.keep S1).c1; have i2' := (M'.keep S1).c2))
    all_goals go_wp2
    all_goals go_roundw
    case rel => exact ⟨k + 1, by omega, by go_num, S1⟩
    case measure => simp [intOf]; omega
  . go_wp2
    go_ret; exact ⟨rfl, s⟩
theorem Tab.keepN {w w' : World} (_h : Tab w) (_hw : 0 <= w.heap.size) (_s : w.Since w.heap.size w') : Tab w' := trivial
theorem yj2 (a : Option Addr) (lo b off n cap : Nat) (R : Nat -> RatD) (w : World) (hw : 0 <= w.heap.size) (hT : Tab w) (hn : n <= 16777216) (hs : szR R n <= 16777216) (H : Rats w lo a b off n R) :
 Calls Tryz.prog 36 #[.slice a n cap] w fun e w' => ∃ r : Bool, e = .returned (.bool r) /\ (r = true ↔ yz5 R n) /\ w.Since w.heap.size w' := by
 go_enter Tryz.func36, Tryz.ntmps36; go_wp2
 go_loopw [7] (fun i wr => ∃ k : Nat, k <= n /\ i = .int .i64 k /\ w.Since w.heap.size wr /\ yz5 R k) (fun i _ => n - (intOf i).toNat)
 case atStart => exact ⟨0, Nat.zero_le _, rfl, World.Since.refl _ _, fun i hi => absurd hi (by omega)⟩
 case round =>
  obtain ⟨k, hk, rfl, s, O⟩ := hrel
  by_cases hlt : k < n
  . obtain ⟨rfl, a1, a2, k1, k2, M⟩ := H k hlt
    have M' := M.keep s; have g0 := M'.c0; have g1 := M'.c1; have g2 := M'.c2; have hz : (k : Int) < (n : Int) := by omega
    have hsz := szR_at (R := R) hlt; have sA : w.Since w.heap.size (wr.alloc (.cells #[.bool (R k).neg, .slice a1 (R k).n k1, .slice a2 (R k).m k2] 70)) := s.alloc s.size _; obtain ⟨ba, oa, -, LX⟩ := (M.L.keep sA).LX; obtain ⟨bb, ob, -, LY⟩ := (M.L.keep sA).LY; have J1 := implRatOk_any (R k).neg a1 a2 ba oa (R k).n k1 bb ob (R k).m k2 (R k).X (R k).Y _ (Nat.zero_le _) (by omega) (by omega) M.L.nc M.L.mc M.L.ac M.L.bc LX LY M.L.lX M.L.lY (hT.keepN hw sA); rw [show xj1 (R k).neg (R k).X (R k).n (R k).Y (R k).m = (R k).ok from rfl] at J1; cases hok : (R k).ok
    . have HK := hide hok
      rw [hok] at J1; clear hok; go_wp2_with fail; refine J1.mono ?_; rintro e w2 ⟨rfl, s2⟩; go_wp2; go_ret; refine ⟨false, rfl, ⟨(fun h => by cases h), fun h => ?_⟩, sA.trans (sM s2 sA.size)⟩; have := h k hlt; rw [HK.out] at this; cases this
    . have HK := hide hok
      rw [hok] at J1; clear hok; go_wp2_with fail; refine J1.mono ?_; rintro e w2 ⟨rfl, s2⟩; go_wp2; go_roundw
      case rel =>
       refine ⟨k + 1, by omega, by go_num, sA.trans (sM s2 sA.size), fun i hi => ?_⟩
       by_cases e : i = k
       . subst e; exact HK.out
       . exact O i (by omega)
      case measure => simp [intOf]; omega
  . have e : k = n := by omega
    subst e; go_wp2; go_ret; exact ⟨true, rfl, ⟨fun _ => O, fun _ => rfl⟩, s⟩
theorem szNode_any (d : xq1) (a1 : Option Addr) (lo k1 L : Nat) (w : World) (hL : L <= 1048576) (H : NodL w lo d a1 k1) :
 Calls Tryz.prog 79 #[.agg #[.int .i64 d.op, .int .i64 d.a, .int .i64 d.b, .int .i64 d.k, .int .i64 d.s, .slice a1 d.nv k1], .int .i64 L] w fun e w' => e = .returned (.int .i64 (szl L d.size)) /\ w.Since w.heap.size w' := by
 have sA := sal w (.cells #[.int .i64 d.op, .int .i64 d.a, .int .i64 d.b, .int .i64 d.k, .int .i64 d.s, .slice a1 d.nv k1] 122); obtain ⟨ba, oa, -, LV⟩ := (H.keep sA).LV; have J1 := yv0 a1 lo ba oa d.nv k1 L d.V _ (by omega) H.n63 LV; have E := hide (show szl L d.size = szl L (d.nv + szR d.V d.nv) from rfl)
 by_cases h : d.nv + szR d.V d.nv <= L
 . rw [szl_ok h] at J1
   have E2 := hide (szl_ok h); go_enter Tryz.func79, Tryz.ntmps79; go_wp2_with fail; refine J1.mono ?_; rintro e w1 ⟨rfl, s1⟩; go_wp2; go_ret; exact ⟨xq7 (by rw [E.out, E2.out]), sA.trans (sM s1 sA.size)⟩
 . rw [yj8 (show L < d.nv + szR d.V d.nv by omega)] at J1
   have E2 := hide (yj8 (show L < d.nv + szR d.V d.nv by omega)); go_enter Tryz.func79, Tryz.ntmps79; go_wp2_with fail; refine J1.mono ?_; rintro e w1 ⟨rfl, s1⟩; go_wp2; go_ret; exact ⟨xq7 (by rw [E.out, E2.out]), sA.trans (sM s1 sA.size)⟩
theorem szNodeS_any (a : Option Addr) (lo b off n cap L : Nat) (A : Nat -> xq1) (w : World) (hL : L <= 1048576) (hn : n <= 9223372036854775807) (H : Nods w lo a b off n A) :
 Calls Tryz.prog 45 #[.slice a n cap, .int .i64 L] w fun e w' => e = .returned (.int .i64 (szl L (n + szN A n))) /\ w.Since w.heap.size w' := by
 by_cases h : L < n
 . rw [yj8 (show L < n + szN A n by omega)]
   go_enter Tryz.func45, Tryz.ntmps45; go_wp2; go_ret; exact ⟨rfl, World.Since.refl _ _⟩
 have h1 : (L : Int) - n = ((L - n : Nat) : Int) := by omega
 have H1 := hide h1; clear h1; go_enter Tryz.func45, Tryz.ntmps45; go_wp2
 go_loopw [1, 5] (fun q i wr => ∃ k : Nat, k <= n /\ i = .int .i64 k /\ n + szN A k <= L /\ q = .int .i64 ((L - n - szN A k : Nat) : Int) /\ w.Since w.heap.size wr) (fun _ i _ => n - (intOf i).toNat)
 case atStart => exact ⟨0, Nat.zero_le _, rfl, by unfold szN; omega, by simp only [szN, Nat.sub_zero]; rw [<- H1.out], World.Since.refl _ _⟩
 case round =>
  obtain ⟨k, hk, rfl, hs, rfl, s⟩ := hrel
  by_cases hlt : k < n
  . obtain ⟨rfl, a1, k1, M⟩ := H k hlt
    have M' := M.keep s; have g0 := M'.c0; have g1 := M'.c1; have g2 := M'.c2; have g3 := M'.c3; have g4 := M'.c4; have g5 := M'.c5; have hz : (k : Int) < (n : Int) := by omega
    have e1 := szN_succ A k; have J1 := szNode_any (A k) a1 lo k1 (L - n - szN A k) wr (by omega) M'.L
    by_cases hf : n + szN A (k + 1) <= L
    . have hf' : (A k).size <= L - n - szN A k := by omega
      rw [szl_ok hf'] at J1; have H2 := hide e1; clear e1; go_wp2_with fail; refine J1.mono ?_; rintro e w1 ⟨rfl, s1⟩; go_wp2; go_roundw
      case rel => exact ⟨k + 1, by omega, by go_num, hf, by rw [H2.out]; congr 2; omega, s.trans (sM s1 s.size)⟩
      case measure => simp [intOf]; omega
    . have hx := szN_mono (A := A) (show k + 1 <= n from hlt)
      have HZ := hide (yj8 (show L < n + szN A n by omega)).symm; rw [yj8 (show L - n - szN A k < (A k).size by omega)] at J1; clear e1; go_wp2_with fail; refine J1.mono ?_; rintro e w1 ⟨rfl, s1⟩; go_wp2; go_ret; exact ⟨xq7 HZ.out, s.trans (sM s1 s.size)⟩
  . have e : k = n := by omega
    subst e; go_wp2; go_ret; exact ⟨xq7 (by rw [szl_ok hs]; congr 1; omega), s⟩
theorem szGraph_any (g : xq8) (aL aH aN : Option Addr) (lo kL kH kN L : Nat) (w : World) (hL : L <= 1048576) (H : GraL w lo g aL aH aN kL kH kN) :
 Calls Tryz.prog 17 #[.agg #[.int .i64 g.inn, .int .i64 g.rounds, .slice aL g.nl kL, .slice aH g.nh kH, .slice aN g.nn kN, .int .i64 g.out], .int .i64 L] w fun e w' => e = .returned (.int .i64 (szl L g.size)) /\ w.Since w.heap.size w' := by
 have sA := sal w (.cells #[.int .i64 g.inn, .int .i64 g.rounds, .slice aL g.nl kL, .slice aH g.nh kH, .slice aN g.nn kN, .int .i64 g.out] 43); have bA := Box6.new w (.int .i64 g.inn) (.int .i64 g.rounds) (.slice aL g.nl kL) (.slice aH g.nh kH) (.slice aN g.nn kN) (.int .i64 g.out) 43; have HA := H.keep sA; obtain ⟨b1, o1, -, L1⟩ := HA.LL; obtain ⟨b2, o2, -, L2⟩ := HA.LH; obtain ⟨b3, o3, -, L3⟩ := HA.LN; have l63 := H.l63; have h63 := H.h63; have n63 := H.n63; have ES : g.size = (g.nl + szR g.Lo g.nl) + (g.nh + szR g.Hi g.nh) + (g.nn + szN g.N g.nn) := rfl; have J1 := yv0 aL lo b1 o1 g.nl kL L g.Lo _ (by omega) l63 L1
 by_cases h1 : (g.nl + szR g.Lo g.nl) <= L
 . rw [szl_ok h1] at J1
   go_enter Tryz.func17, Tryz.ntmps17; go_wp2_with fail; generalize w.alloc (.cells #[.int .i64 g.inn, .int .i64 g.rounds, .slice aL g.nl kL, .slice aH g.nh kH, .slice aN g.nn kN, .int .i64 g.out] 43) = wA at *; refine J1.mono ?_; rintro e w1 ⟨rfl, s1⟩; have B1 := bA.keep s1; have q3 := B1.c3; have J2 := yv0 aH lo b2 o2 g.nh kH (L - (g.nl + szR g.Lo g.nl)) g.Hi w1 (by omega) h63 (L2.keep s1); clear J1
   by_cases h2 : (g.nh + szR g.Hi g.nh) <= L - (g.nl + szR g.Lo g.nl)
   . rw [szl_ok h2] at J2
     go_wp2_with fail; refine J2.mono ?_; rintro e w2 ⟨rfl, s2⟩; have B2 := B1.keep s2; have q4 := B2.c4; have u2 := s1.trans (sM s2 s1.size); have J3 := szNodeS_any aN lo b3 o3 g.nn kN (L - (g.nl + szR g.Lo g.nl) - (g.nh + szR g.Hi g.nh)) g.N w2 (by omega) n63 (L3.keep u2); clear J2 q3
     by_cases h3 : (g.nn + szN g.N g.nn) <= L - (g.nl + szR g.Lo g.nl) - (g.nh + szR g.Hi g.nh)
     . rw [szl_ok h3] at J3
       have E := hide (show szl L g.size = ((L - (g.nl + szR g.Lo g.nl) - (g.nh + szR g.Hi g.nh) - (g.nn + szN g.N g.nn) : Nat) : Int) by rw [szl_ok (by omega)]; congr 1; omega); clear ES; go_wp2_with fail; refine J3.mono ?_; rintro e w3 ⟨rfl, s3⟩; go_wp2; go_ret; exact ⟨xq7 E.out.symm, sA.trans (sM (u2.trans (sM s3 u2.size)) sA.size)⟩
     . rw [yj8 (show L - (g.nl + szR g.Lo g.nl) - (g.nh + szR g.Hi g.nh) < (g.nn + szN g.N g.nn) by omega)] at J3
       have E := hide (show szl L g.size = -1 by rw [yj8 (by omega)]); clear ES; go_wp2_with fail; refine J3.mono ?_; rintro e w3 ⟨rfl, s3⟩; go_wp2; go_ret; exact ⟨xq7 E.out.symm, sA.trans (sM (u2.trans (sM s3 u2.size)) sA.size)⟩
   . rw [yj8 (show L - (g.nl + szR g.Lo g.nl) < (g.nh + szR g.Hi g.nh) by omega)] at J2
     have E := hide (show szl L g.size = -1 by rw [yj8 (by omega)]); clear ES; go_wp2_with fail; refine J2.mono ?_; rintro e w2 ⟨rfl, s2⟩; go_wp2; go_ret; exact ⟨xq7 E.out.symm, sA.trans (sM (s1.trans (sM s2 s1.size)) sA.size)⟩
 . rw [yj8 (show L < (g.nl + szR g.Lo g.nl) by omega)] at J1
   have E := hide (show szl L g.size = -1 by rw [yj8 (by omega)]); clear ES; go_enter Tryz.func17, Tryz.ntmps17; go_wp2_with fail; refine J1.mono ?_; rintro e w1 ⟨rfl, s1⟩; go_wp2; go_ret; exact ⟨xq7 E.out.symm, sA.trans (sM s1 sA.size)⟩
end Go.Proofs.YthaomfabdghfjaaGreat
