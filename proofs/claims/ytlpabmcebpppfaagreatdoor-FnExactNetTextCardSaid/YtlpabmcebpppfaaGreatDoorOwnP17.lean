import Derived.Test.YtlpabmcebpppfaaGreatDoorOwnP16
import Derived.Test.YtlpabmcebpppfaaGreatDoorOwnP4
import Derived.Test.YtlpabmcebpppfaaGreatDoorOwnP3
import Derived.Test.YtlpabmcebpppfaaGreatDoorOwnP7
namespace Go.Proofs.YtlpabmcebpppfaaGreatDoor
open Go.RowKit

theorem szl_two {L s t : Nat} (h : s ≤ L) : szl (L - s) t = szl L (s + t) := by
  unfold szl
  by_cases h2 : t ≤ L - s
  · rw [if_pos h2, if_pos (by omega)]; congr 1; omega
  · rw [if_neg h2, if_neg (by omega)]

set_option maxHeartbeats 1600000 in
set_option maxRecDepth 100000 in
theorem szAffine_any (d : AffD) (a1 a2 : Option Addr) (lo k1 k2 L : Nat) (w : World) (hL : L ≤ 16777216) (H : AffL w lo d a1 a2 k1 k2) :
    Calls Tryz.prog 69 #[.agg #[.int .i64 d.rows, .int .i64 d.cols, .slice a1 d.nw k1, .slice a2 d.nb k2], .int .i64 L] w fun e w' => e = .returned (.int .i64 (szl L d.size)) ∧ w.Since w.heap.size w' := by
  have sA : w.Since w.heap.size (w.alloc (.cells #[.int .i64 d.rows, .int .i64 d.cols, .slice a1 d.nw k1, .slice a2 d.nb k2] 135)) := (World.Since.refl _ _).alloc (Nat.le_refl _) _
  have bA := Box4.new w (.int .i64 d.rows) (.int .i64 d.cols) (.slice a1 d.nw k1) (.slice a2 d.nb k2) 135
  have HA := H.keep sA
  obtain ⟨ba, oa, -, LW⟩ := HA.LW
  obtain ⟨bb, ob, -, LB⟩ := HA.LB
  have n63 := H.n63
  have m63 := H.m63
  by_cases h : d.nw + szR d.W d.nw ≤ L
  · have E := hide (szl_two (t := d.nb + szR d.B d.nb) h)
    have J1 := szRatS_any a1 lo ba oa d.nw k1 L d.W _ hL n63 LW
    rw [szl_ok h] at J1
    go_enter Tryz.func69, Tryz.ntmps69
    go_wp2_with fail
    generalize w.alloc (.cells #[.int .i64 d.rows, .int .i64 d.cols, .slice a1 d.nw k1, .slice a2 d.nb k2] 135) = wA at *
    refine J1.mono ?_
    rintro e w1 ⟨rfl, s1⟩
    have B1 := bA.keep s1
    have q2 := B1.c2
    have q3 := B1.c3
    have J2 := szRatS_any a2 lo bb ob d.nb k2 (L - (d.nw + szR d.W d.nw)) d.B w1 (by omega) m63 (LB.keep s1)
    clear J1
    by_cases h2 : d.nb + szR d.B d.nb ≤ L - (d.nw + szR d.W d.nw)
    · have E2 := hide (szl_ok h2)
      rw [szl_ok h2] at J2
      go_wp2_with fail
      refine J2.mono ?_
      rintro e w2 ⟨rfl, s2⟩
      go_wp2
      go_ret
      exact ⟨ret_int (by rw [← E2.out, E.out]; rfl), sA.trans (sinceMono (s1.trans (sinceMono s2 s1.size)) sA.size)⟩
    · have E2 := hide (szl_no (show L - (d.nw + szR d.W d.nw) < d.nb + szR d.B d.nb by omega))
      rw [E2.out] at J2
      go_wp2_with fail
      refine J2.mono ?_
      rintro e w2 ⟨rfl, s2⟩
      go_wp2
      go_ret
      exact ⟨ret_int (by rw [← E2.out, E.out]; rfl), sA.trans (sinceMono (s1.trans (sinceMono s2 s1.size)) sA.size)⟩
  · have J1 := szRatS_any a1 lo ba oa d.nw k1 L d.W _ hL n63 LW
    rw [szl_no (show L < d.nw + szR d.W d.nw by omega)] at J1
    have E := hide (szl_no (show L < d.size by unfold AffD.size; omega))
    go_enter Tryz.func69, Tryz.ntmps69
    go_wp2_with fail
    refine J1.mono ?_
    rintro e w1 ⟨rfl, s1⟩
    go_wp2
    go_ret
    exact ⟨ret_int E.out.symm, sA.trans (sinceMono s1 sA.size)⟩

set_option maxHeartbeats 1600000 in
set_option maxRecDepth 100000 in
theorem szAffineS_any (a : Option Addr) (lo b off n cap L : Nat) (A : Nat → AffD) (w : World) (hL : L ≤ 16777216) (hn : n ≤ 9223372036854775807) (H : Affs w lo a b off n A) :
    Calls Tryz.prog 34 #[.slice a n cap, .int .i64 L] w fun e w' => e = .returned (.int .i64 (szl L (n + szA A n))) ∧ w.Since w.heap.size w' := by
  by_cases h : L < n
  · rw [szl_no (show L < n + szA A n by omega)]
    go_enter Tryz.func34, Tryz.ntmps34
    go_wp2
    go_ret
    exact ⟨rfl, World.Since.refl _ _⟩
  have h1 : (L : Int) - n = ((L - n : Nat) : Int) := by omega
  have H1 := hide h1
  clear h1
  go_enter Tryz.func34, Tryz.ntmps34
  go_wp2
  go_loopw [1, 5] (fun q i wr => ∃ k : Nat, k ≤ n ∧ i = .int .i64 k ∧ n + szA A k ≤ L ∧ q = .int .i64 ((L - n - szA A k : Nat) : Int) ∧ w.Since w.heap.size wr) (fun _ i _ => n - (intOf i).toNat)
  case atStart => exact ⟨0, Nat.zero_le _, rfl, by unfold szA; omega, by simp only [szA, Nat.sub_zero]; rw [← H1.out], World.Since.refl _ _⟩
  case round =>
    obtain ⟨k, hk, rfl, hs, rfl, s⟩ := hrel
    by_cases hlt : k < n
    · obtain ⟨rfl, a1, a2, k1, k2, M⟩ := H k hlt
      have M' := M.keep s
      have g0 := M'.c0
      have g1 := M'.c1
      have g2 := M'.c2
      have g3 := M'.c3
      have hz : (k : Int) < (n : Int) := by omega
      have e1 := szA_succ A k
      have J1 := szAffine_any (A k) a1 a2 lo k1 k2 (L - n - szA A k) wr (by omega) M'.L
      by_cases hf : n + szA A (k + 1) ≤ L
      · have hf' : (A k).size ≤ L - n - szA A k := by omega
        rw [szl_ok hf'] at J1
        have H2 := hide e1
        clear e1
        go_wp2_with fail
        refine J1.mono ?_
        rintro e w1 ⟨rfl, s1⟩
        go_wp2
        go_roundw
        case rel => exact ⟨k + 1, by omega, by go_num, hf, by rw [H2.out]; congr 2; omega, s.trans (sinceMono s1 s.size)⟩
        case measure => simp [intOf]; omega
      · have hx := szA_mono (A := A) (show k + 1 ≤ n from hlt)
        have HZ := hide (szl_no (show L < n + szA A n by omega)).symm
        rw [szl_no (show L - n - szA A k < (A k).size by omega)] at J1
        clear e1
        go_wp2_with fail
        refine J1.mono ?_
        rintro e w1 ⟨rfl, s1⟩
        go_wp2
        go_ret
        exact ⟨ret_int HZ.out, s.trans (sinceMono s1 s.size)⟩
    · have e : k = n := by omega
      subst e
      go_wp2
      go_ret
      exact ⟨ret_int (by rw [szl_ok hs]; congr 1; omega), s⟩

set_option maxHeartbeats 1600000 in
set_option maxRecDepth 100000 in
theorem szNet_any (a : Option Addr) (lo b off n cap L : Nat) (A : Nat → AffD) (w : World) (hL : L ≤ 16777216) (hn : n ≤ 9223372036854775807) (H : Affs w lo a b off n A) :
    Calls Tryz.prog 10 #[.agg #[.slice a n cap], .int .i64 L] w fun e w' => e = .returned (.int .i64 (szl L (n + szA A n))) ∧ w.Since w.heap.size w' := by
  have sA : w.Since w.heap.size (w.alloc (.cells #[.slice a n cap] 37)) := (World.Since.refl _ _).alloc (Nat.le_refl _) _
  have J1 := szAffineS_any a lo b off n cap L A _ hL hn (H.keep sA)
  by_cases h : n + szA A n ≤ L
  · have E := hide (szl_ok h)
    rw [E.out] at J1 ⊢
    go_enter Tryz.func10, Tryz.ntmps10
    go_wp2_with fail
    refine J1.mono ?_
    rintro e w1 ⟨rfl, s1⟩
    go_wp2
    go_ret
    exact ⟨rfl, sA.trans (sinceMono s1 sA.size)⟩
  · have E := hide (szl_no (show L < n + szA A n by omega))
    rw [E.out] at J1 ⊢
    go_enter Tryz.func10, Tryz.ntmps10
    go_wp2_with fail
    refine J1.mono ?_
    rintro e w1 ⟨rfl, s1⟩
    go_wp2
    go_ret
    exact ⟨rfl, sA.trans (sinceMono s1 sA.size)⟩

end Go.Proofs.YtlpabmcebpppfaaGreatDoor

namespace Go.Proofs.YtlpabmcebpppfaaGreatDoor
open Go.RowKit

/-- 'make([]T, n)', T of several cells. -/
theorem run_make_wide {P : Program} (t e : TypeId) (z : Value) (size bytes : Nat) (ht : P.underlying t = some (.slice e)) (hinfo : (P.info? e).map (fun i => (i.zero, i.size, i.bytes)) = some (some z, size, bytes))
    (kl kc : IntKind) (n : Nat) (hbytes : bytes * n ≤ 281474976710656) (h63 : n ≤ 9223372036854775807) (w : World) :
    (Instr.makeSlice t (.int kl (n : Int)) (.int kc (n : Int))).run P w = .ok (.slice (some ⟨w.heap.size, 0, none⟩) n n) (w.alloc (.cells (madeCells z.cells (n * size)) e)) := by
  obtain ⟨i, hi, hzz⟩ := Option.map_eq_some_iff.1 hinfo
  simp only [Prod.mk.injEq] at hzz
  obtain ⟨hz, hs, hb⟩ := hzz
  have hb' : (i.bytes : Int) * (n : Int) ≤ 281474976710656 := by
    have h : ((i.bytes * n : Nat) : Int) ≤ 281474976710656 := by rw [hb]; omega
    rwa [Int.natCast_mul] at h
  have hr := run_make (P := P) w t e i z ht hi hz kl kc n n (by omega) (Int.le_refl _) hb' (by omega)
  simp only [Int.toNat_natCast, hs] at hr
  exact hr

/-- A block of N cells that may be written. -/
structure Room (w : World) (c N : Nat) : Prop where
  lt : c < w.heap.size
  cell : ∀ o, o < N → ∃ v, w.cell? ⟨c, o, none⟩ = some v
  f : ∀ o, w.frozen? ⟨c, o, none⟩ = false

theorem Room.new (w : World) (z : Array Value) (N : Nat) (t : TypeId) : Room (w.alloc (.cells (madeCells z N) t)) w.heap.size N :=
  ⟨by simp, fun o ho => ⟨_, by simp [go_sem, madeCells, ho]; rfl⟩, fun o => by simp [go_sem]⟩

theorem Room.keep {w w' : World} {c N : Nat} (h : Room w c N) (s : w.Since w.heap.size w') : Room w' c N :=
  ⟨Nat.lt_of_lt_of_le h.lt s.size, fun o ho => by obtain ⟨v, hv⟩ := h.cell o ho; exact ⟨v, (s.cell (a := ⟨c, o, none⟩) h.lt).trans hv⟩, fun o => (s.frozen (a := ⟨c, o, none⟩) h.lt).trans (h.f o)⟩

theorem Room.set {w : World} {c N : Nat} (h : Room w c N) (q : Nat) (v : Value) : Room (w.setCell ⟨c, q, none⟩ v) c N := by
  have M : Marked w (w.setCell ⟨c, q, none⟩ v) c := (Marked.refl w c).setCell q v
  refine ⟨by rw [M.size]; exact h.lt, fun o ho => ?_, fun o => by rw [M.frozen]; exact h.f o⟩
  obtain ⟨u, hu⟩ := h.cell o ho
  by_cases e : o = q
  · subst e; exact ⟨v, World.cell?_setCell_same _ _ _ hu⟩
  · exact ⟨u, (World.cell?_setCell_other _ _ _ _ (fun h => e (congrArg Addr.off h).symm)).trans hu⟩

theorem cell_put {w : World} {c N : Nat} (h : Room w c N) {q : Nat} (hq : q < N) (v : Value) : (w.setCell ⟨c, q, none⟩ v).cell? ⟨c, q, none⟩ = some v := by
  obtain ⟨u, hu⟩ := h.cell q hq
  exact World.cell?_setCell_same _ _ _ hu

theorem cell_else (w : World) (c : Nat) {q o : Nat} (h : o ≠ q) (v : Value) : (w.setCell ⟨c, q, none⟩ v).cell? ⟨c, o, none⟩ = w.cell? ⟨c, o, none⟩ :=
  World.cell?_setCell_other _ _ _ _ (fun e => h (congrArg Addr.off e).symm)

/-- Three cells put down in a row. -/
theorem put3 {w : World} {c N q : Nat} (h : Room w c N) (hq : q + 2 < N) (x y z : Value) :
    ∃ w', w' = ((w.setCell ⟨c, q, none⟩ x).setCell ⟨c, q + 1, none⟩ y).setCell ⟨c, q + 2, none⟩ z ∧ Marked w w' c ∧ Room w' c N ∧ w'.cell? ⟨c, q, none⟩ = some x ∧ w'.cell? ⟨c, q + 1, none⟩ = some y ∧ w'.cell? ⟨c, q + 2, none⟩ = some z ∧
      ∀ o, o < q ∨ q + 2 < o → w'.cell? ⟨c, o, none⟩ = w.cell? ⟨c, o, none⟩ := by
  refine ⟨_, rfl, (((Marked.refl w c).setCell _ _).setCell _ _).setCell _ _, ((h.set _ _).set _ _).set _ _, ?_, ?_, ?_, fun o ho => ?_⟩
  · rw [cell_else _ _ (by omega), cell_else _ _ (by omega)]; exact cell_put h (by omega) x
  · rw [cell_else _ _ (by omega)]; exact cell_put (h.set _ _) (by omega) y
  · exact cell_put ((h.set _ _).set _ _) (by omega) z
  · rw [cell_else _ _ (by omega), cell_else _ _ (by omega), cell_else _ _ (by omega)]

/-- Four cells put down in a row. -/
theorem put4 {w : World} {c N q : Nat} (h : Room w c N) (hq : q + 3 < N) (x y z u : Value) :
    ∃ w', w' = (((w.setCell ⟨c, q, none⟩ x).setCell ⟨c, q + 1, none⟩ y).setCell ⟨c, q + 2, none⟩ z).setCell ⟨c, q + 3, none⟩ u ∧ Marked w w' c ∧ Room w' c N ∧ w'.cell? ⟨c, q, none⟩ = some x ∧ w'.cell? ⟨c, q + 1, none⟩ = some y ∧
      w'.cell? ⟨c, q + 2, none⟩ = some z ∧ w'.cell? ⟨c, q + 3, none⟩ = some u ∧ ∀ o, o < q ∨ q + 3 < o → w'.cell? ⟨c, o, none⟩ = w.cell? ⟨c, o, none⟩ := by
  refine ⟨_, rfl, ((((Marked.refl w c).setCell _ _).setCell _ _).setCell _ _).setCell _ _, (((h.set _ _).set _ _).set _ _).set _ _, ?_, ?_, ?_, ?_, fun o ho => ?_⟩
  · rw [cell_else _ _ (by omega), cell_else _ _ (by omega), cell_else _ _ (by omega)]; exact cell_put h (by omega) x
  · rw [cell_else _ _ (by omega), cell_else _ _ (by omega)]; exact cell_put (h.set _ _) (by omega) y
  · rw [cell_else _ _ (by omega)]; exact cell_put ((h.set _ _).set _ _) (by omega) z
  · exact cell_put (((h.set _ _).set _ _).set _ _) (by omega) u
  · rw [cell_else _ _ (by omega), cell_else _ _ (by omega), cell_else _ _ (by omega), cell_else _ _ (by omega)]

/-- A list of Rats grows by one in its room. -/
theorem Rats.put {w w' : World} {c k : Nat} {R : Nat → RatD} {a1 a2 : Option Addr} {k1 k2 : Nat} (h : Rats w (c + 1) (some ⟨c, 0, none⟩) c 0 k R) (M : Marked w w' c) (hc : ∀ o, o < k * 3 → w'.cell? ⟨c, o, none⟩ = w.cell? ⟨c, o, none⟩)
    (L : RatL w (c + 1) (R k) a1 a2 k1 k2) (c0 : w'.cell? ⟨c, k * 3, none⟩ = some (.bool (R k).neg)) (c1 : w'.cell? ⟨c, k * 3 + 1, none⟩ = some (.slice a1 (R k).n k1)) (c2 : w'.cell? ⟨c, k * 3 + 2, none⟩ = some (.slice a2 (R k).m k2)) :
    Rats w' (c + 1) (some ⟨c, 0, none⟩) c 0 (k + 1) R := fun i hi => by
  refine ⟨rfl, ?_⟩
  by_cases e : i = k
  · subst e
    exact ⟨a1, a2, k1, k2, by rw [Nat.zero_add]; exact c0, by rw [Nat.zero_add]; exact c1, by rw [Nat.zero_add]; exact c2, L.marked M (by omega)⟩
  · obtain ⟨-, b1, b2, l1, l2, m⟩ := h i (by omega)
    exact ⟨b1, b2, l1, l2, (hc _ (by omega)).trans m.c0, (hc _ (by omega)).trans m.c1, (hc _ (by omega)).trans m.c2, m.L.marked M (by omega)⟩

theorem info_Rat : (Tryz.prog.info? 53).map (fun i => (i.zero, i.size, i.bytes)) = some (some (.agg #[.bool false, .slice none 0 0, .slice none 0 0]), 3, 56) := by kernel_rfl

set_option maxHeartbeats 1600000 in
set_option maxRecDepth 100000 in
theorem toRatS_any (a : Option Addr) (lo b off n cap : Nat) (R : Nat → RatD) (w : World) (hn : n ≤ 16777216) (hs : szR R n ≤ 16777216) (H : Rats w lo a b off n R) :
    Calls Tryz.prog 21 #[.slice a n cap] w fun e w' => ∃ c, e = .returned (.slice (some ⟨c, 0, none⟩) n n) ∧ w.heap.size ≤ c ∧ c < w'.heap.size ∧ Rats w' (c + 1) (some ⟨c, 0, none⟩) c 0 n R ∧ w.Since w.heap.size w' := by
  have hmk := run_make_wide (P := Tryz.prog) 28 53 _ 3 56 Tryz.underlying28 info_Rat .i64 .i64 n (by omega) (by omega)
  have sA := (World.Since.refl w.heap.size w).alloc (Nat.le_refl _) (.cells (madeCells #[.bool false, .slice none 0 0, .slice none 0 0] (n * 3)) 53)
  have rA := Room.new w #[.bool false, .slice none 0 0, .slice none 0 0] (n * 3) 53
  go_enter Tryz.func21, Tryz.ntmps21
  go_wp2
  go_loopw [4] (fun i wr => ∃ k : Nat, k ≤ n ∧ i = .int .i64 k ∧ w.Since w.heap.size wr ∧ Room wr w.heap.size (n * 3) ∧ Rats wr (w.heap.size + 1) (some ⟨w.heap.size, 0, none⟩) w.heap.size 0 k R) (fun i _ => n - (intOf i).toNat)
  case atStart => exact ⟨0, Nat.zero_le _, rfl, sA, rA, fun i hi => absurd hi (by omega)⟩
  case round =>
    obtain ⟨k, hk, rfl, s, r, T⟩ := hrel
    by_cases hlt : k < n
    · obtain ⟨rfl, a1, a2, k1, k2, M⟩ := H k hlt
      have M' := M.keep s
      have g0 := M'.c0
      have g1 := M'.c1
      have g2 := M'.c2
      have hz : (k : Int) < (n : Int) := by omega
      have hsz := szR_at (R := R) hlt
      obtain ⟨ba, oa, -, LX⟩ := M'.L.LX
      obtain ⟨bb, ob, -, LY⟩ := M'.L.LY
      go_wp2_with fail
      refine (toRat_any (R k).neg a1 a2 ba oa (R k).n k1 bb ob (R k).m k2 (R k).X (R k).Y wr (by omega) (by omega) LX LY).mono ?_
      rintro e w2 ⟨g, h, rfl, s2, l1, l2, l3, LX2, LY2, -, -⟩
      have r2 := r.keep s2
      have T2 := T.keep s2
      have S2 : w.Since w.heap.size w2 := s.trans (sinceMono s2 s.size)
      obtain ⟨v0, u0⟩ := r2.cell (k * 3) (by omega)
      obtain ⟨v1, u1⟩ := r2.cell (k * 3 + 1) (by omega)
      obtain ⟨v2, u2⟩ := r2.cell (k * 3 + 2) (by omega)
      have f0 := r2.f (k * 3)
      have f1 := r2.f (k * 3 + 1)
      have f2 := r2.f (k * 3 + 2)
      have rl := r.lt
      clear g0 g1 g2
      go_wp2
      go_roundw
      case rel =>
        go_light
        obtain ⟨w3, e3, M3, R3, x0, x1, x2, xo⟩ := put3 (q := k * 3) r2 (by omega) (.bool (R k).neg) (.slice (some ⟨g, 0, none⟩) (R k).n (R k).n) (.slice (some ⟨h, 0, none⟩) (R k).m (R k).m)
        rw [← e3]
        exact ⟨k + 1, by omega, by go_num, S2.trans (M3.since (Nat.le_refl _)), R3, T2.put M3 (fun o ho => xo o (by omega)) ⟨Nat.le_refl _, Nat.le_refl _, (fun h => by cases h), (fun h => by cases h), ⟨g, 0, fun _ => by omega, LX2⟩, ⟨h, 0, fun _ => by omega, LY2⟩, M.L.lX, M.L.lY, M.L.n63, M.L.m63⟩ x0 x1 x2⟩
      case measure => simp [intOf]; omega
    · have e : k = n := by omega
      subst e
      have rl := r.lt
      go_wp2
      go_ret
      exact ⟨w.heap.size, rfl, Nat.le_refl _, rl, T, s⟩

/-- A list of affine maps grows by one in its room. -/
theorem Affs.put {w w' : World} {c k : Nat} {A : Nat → AffD} {a1 a2 : Option Addr} {k1 k2 : Nat} (h : Affs w (c + 1) (some ⟨c, 0, none⟩) c 0 k A) (M : Marked w w' c) (hc : ∀ o, o < k * 4 → w'.cell? ⟨c, o, none⟩ = w.cell? ⟨c, o, none⟩)
    (L : AffL w (c + 1) (A k) a1 a2 k1 k2) (c0 : w'.cell? ⟨c, k * 4, none⟩ = some (.int .i64 (A k).rows)) (c1 : w'.cell? ⟨c, k * 4 + 1, none⟩ = some (.int .i64 (A k).cols)) (c2 : w'.cell? ⟨c, k * 4 + 2, none⟩ = some (.slice a1 (A k).nw k1))
    (c3 : w'.cell? ⟨c, k * 4 + 3, none⟩ = some (.slice a2 (A k).nb k2)) :
    Affs w' (c + 1) (some ⟨c, 0, none⟩) c 0 (k + 1) A := fun i hi => by
  refine ⟨rfl, ?_⟩
  by_cases e : i = k
  · subst e
    exact ⟨a1, a2, k1, k2, by rw [Nat.zero_add]; exact c0, by rw [Nat.zero_add]; exact c1, by rw [Nat.zero_add]; exact c2, by rw [Nat.zero_add]; exact c3, L.marked M (by omega)⟩
  · obtain ⟨-, b1, b2, l1, l2, m⟩ := h i (by omega)
    exact ⟨b1, b2, l1, l2, (hc _ (by omega)).trans m.c0, (hc _ (by omega)).trans m.c1, (hc _ (by omega)).trans m.c2, (hc _ (by omega)).trans m.c3, m.L.marked M (by omega)⟩

theorem info_Affine : (Tryz.prog.info? 86).map (fun i => (i.zero, i.size, i.bytes)) = some (some (.agg #[.int .i64 0, .int .i64 0, .slice none 0 0, .slice none 0 0]), 4, 64) := by kernel_rfl
theorem size_Affine : (Tryz.prog.info? 86).map (·.size) = some 4 := by kernel_rfl
theorem size_Net : (Tryz.prog.info? 42).map (·.size) = some 1 := by kernel_rfl

set_option maxHeartbeats 3200000 in
set_option maxRecDepth 100000 in
theorem toAffine_any (d : AffD) (a1 a2 : Option Addr) (lo k1 k2 : Nat) (w : World) (hd : d.size ≤ 16777216) (H : AffL w lo d a1 a2 k1 k2) :
    Calls Tryz.prog 73 #[.agg #[.int .i64 d.rows, .int .i64 d.cols, .slice a1 d.nw k1, .slice a2 d.nb k2]] w fun e w' => ∃ b1 b2, e = .returned (.agg #[.int .i64 d.rows, .int .i64 d.cols, .slice b1 d.nw d.nw, .slice b2 d.nb d.nb]) ∧
      AffL w' w.heap.size d b1 b2 d.nw d.nb ∧ w.Since w.heap.size w' := by
  have ts := hd
  unfold AffD.size at ts
  have e1 : ∃ wA : World, wA = (((w.alloc (.cells #[.int .i64 d.rows, .int .i64 d.cols, .slice a1 d.nw k1, .slice a2 d.nb k2] 135)).alloc (.cells #[.int .i64 0, .int .i64 0, .slice none 0 0, .slice none 0 0] 86)).alloc (.cells #[.int .i64 d.rows, .int .i64 d.cols, .slice none 0 0, .slice none 0 0] 86)) := ⟨_, rfl⟩
  obtain ⟨wA, eA⟩ := e1
  have sA : w.Since w.heap.size wA := by rw [eA]; exact (((World.Since.refl _ _).alloc (Nat.le_refl _) _).alloc (by simp) _).alloc (by simp; omega) _
  have zA : wA.heap.size = w.heap.size + 1 + 1 + 1 := by rw [eA]; simp
  have bA : Box4 wA w.heap.size (.int .i64 d.rows) (.int .i64 d.cols) (.slice a1 d.nw k1) (.slice a2 d.nb k2) := by rw [eA]; exact ((Box4.new w _ _ _ _ _).keep ((World.Since.refl _ _).alloc (Nat.le_refl _) _)).keep ((World.Since.refl _ _).alloc (Nat.le_refl _) _)
  have rA : Box4 wA (w.heap.size + 1) (.int .i64 0) (.int .i64 0) (.slice none 0 0) (.slice none 0 0) := by
    rw [eA]
    have := (Box4.new (w.alloc (.cells #[.int .i64 d.rows, .int .i64 d.cols, .slice a1 d.nw k1, .slice a2 d.nb k2] 135)) (.int .i64 0) (.int .i64 0) (.slice none 0 0) (.slice none 0 0) 86).keep ((World.Since.refl _ _).alloc (Nat.le_refl _) (.cells #[.int .i64 d.rows, .int .i64 d.cols, .slice none 0 0, .slice none 0 0] 86))
    simpa using this
  have oA : Box4 wA (w.heap.size + 1 + 1) (.int .i64 d.rows) (.int .i64 d.cols) (.slice none 0 0) (.slice none 0 0) := by
    rw [eA]
    have := Box4.new ((w.alloc (.cells #[.int .i64 d.rows, .int .i64 d.cols, .slice a1 d.nw k1, .slice a2 d.nb k2] 135)).alloc (.cells #[.int .i64 0, .int .i64 0, .slice none 0 0, .slice none 0 0] 86)) (.int .i64 d.rows) (.int .i64 d.cols) (.slice none 0 0) (.slice none 0 0) 86
    simpa using this
  have HA := H.keep sA
  obtain ⟨ba, oa, -, LW⟩ := HA.LW
  obtain ⟨bb, ob, -, LB⟩ := HA.LB
  have EA := hide eA
  clear eA
  go_enter Tryz.func73, Tryz.ntmps73
  go_wp2_with fail
  rw [← EA.out]
  refine (toRatS_any a1 lo ba oa d.nw k1 d.W wA (by omega) (by omega) LW).mono ?_
  rintro e w1 ⟨g1, rfl, l1, l1', R1, s1⟩
  have S1 : w.Since w.heap.size w1 := sA.trans (sinceMono s1 sA.size)
  have B1 := bA.keep s1
  have Q1 := rA.keep s1
  have O1 := oA.keep s1
  have LB1 := LB.keep s1
  have b3 := B1.c3
  have o2 := O1.c2
  have f2 := O1.f 2
  have ll := B1.lt
  clear bA rA oA LW LB EA
  go_wp2_with fail
  have M2 : Marked w1 (w1.setCell ⟨w.heap.size + 1 + 1, 2, none⟩ (.slice (some ⟨g1, 0, none⟩) d.nw d.nw)) (w.heap.size + 1 + 1) := (Marked.refl w1 _).setCell _ _
  have O2 := O1.set2 (.slice (some ⟨g1, 0, none⟩) d.nw d.nw)
  have Q2 := Q1.marked M2 (by omega)
  have R2 := R1.marked M2 (by omega) (fun _ => by omega)
  have S2 := S1.trans (M2.since (B := w.heap.size) (by omega))
  have LB2 : Rats (w1.setCell ⟨w.heap.size + 1 + 1, 2, none⟩ (.slice (some ⟨g1, 0, none⟩) d.nw d.nw)) lo a2 bb ob d.nb d.B := by
    obtain ⟨bb', ob', -, L'⟩ := (H.keep S2).LB
    intro i hi
    obtain ⟨p1, -⟩ := LB1 i hi
    obtain ⟨q1, x1, x2, y1, y2, m⟩ := L' i hi
    obtain ⟨rfl, rfl⟩ : bb = bb' ∧ ob = ob' := by rw [p1] at q1; simpa using q1
    exact ⟨p1, x1, x2, y1, y2, m⟩
  have z2 := M2.size
  clear b3 o2 f2 B1 LB1 M2 O1 Q1 R1 S1
  generalize w1.setCell ⟨w.heap.size + 1 + 1, 2, none⟩ (.slice (some ⟨g1, 0, none⟩) d.nw d.nw) = w2 at *
  refine (toRatS_any a2 lo bb ob d.nb k2 d.B w2 (by omega) (by omega) LB2).mono ?_
  rintro e w3 ⟨g3, rfl, l3, l3', R3, s3⟩
  have S3 : w.Since w.heap.size w3 := S2.trans (sinceMono s3 S2.size)
  have Q3 := Q2.keep s3
  have O3 := O2.keep s3
  have R2' := R2.keep s3
  have o0 := O3.c0
  have o1 := O3.c1
  have o2 := O3.c2
  have o3 := O3.c3
  have of3 := O3.f 3
  have q0 := Q3.c0
  have q1 := Q3.c1
  have q2 := Q3.c2
  have q3 := Q3.c3
  have qf0 := Q3.f 0
  have qf1 := Q3.f 1
  have qf2 := Q3.f 2
  have qf3 := Q3.f 3
  clear LB2 R2 S2 O2 Q2
  have M4 : Marked w3 (w3.setCell ⟨w.heap.size + 1 + 1, 3, none⟩ (.slice (some ⟨g3, 0, none⟩) d.nb d.nb)) (w.heap.size + 1 + 1) := (Marked.refl w3 _).setCell _ _
  go_wp2
  have Q4 := ((((Q3.marked M4 (by omega)).set0 (.int .i64 d.rows)).set1 (.int .i64 d.cols)).set2 (.slice (some ⟨g1, 0, none⟩) d.nw d.nw)).set3 (.slice (some ⟨g3, 0, none⟩) d.nb d.nb)
  refine bodyPost_ret (results_box4T rfl Tryz.underlying86 rfl size_Affine _ _ _ _ _ _ _ rfl Q4) rfl ?_
  have M5 : Marked (w3.setCell ⟨w.heap.size + 1 + 1, 3, none⟩ (.slice (some ⟨g3, 0, none⟩) d.nb d.nb)) _ (w.heap.size + 1) := ((((Marked.refl _ _).setCell 0 (.int .i64 d.rows)).setCell 1 (.int .i64 d.cols)).setCell 2 (.slice (some ⟨g1, 0, none⟩) d.nw d.nw)).setCell 3 (.slice (some ⟨g3, 0, none⟩) d.nb d.nb)
  refine ⟨_, _, rfl, ⟨Nat.le_refl _, Nat.le_refl _, ⟨g1, 0, fun _ => by omega, ?_⟩, ⟨g3, 0, fun _ => by omega, ?_⟩, H.r0, H.r1, H.q0, H.q1, H.n63, H.m63⟩, (S3.trans (M4.since (by omega))).trans (M5.since (by omega))⟩
  · exact ((R2'.marked M4 (by omega) (fun _ => by omega)).marked M5 (by omega) (fun _ => by omega)).down (by omega)
  · exact ((R3.marked M4 (by omega) (fun _ => by omega)).marked M5 (by omega) (fun _ => by omega)).down (by omega)

end Go.Proofs.YtlpabmcebpppfaaGreatDoor

namespace Go.Proofs.YtlpabmcebpppfaaGreatDoor
open Go.RowKit

section
variable {w w' : World} {c d B : Nat} {x y z u v t : Value}
end

/-- What a node holds. -/
structure NodeD where
  op : Int
  a : Int
  b : Int
  k : Int
  s : Int
  nv : Nat
  V : Nat → RatD

def NodeD.nul : NodeD := ⟨0, 0, 0, 0, 0, 0, fun _ => RatD.nul⟩

section
variable {w w' : World} {lo lo' b off n c : Nat} {d : NodeD} {a a1 : Option Addr} {k1 : Nat} {A : Nat → NodeD}

end

/-- What a graph holds. -/
structure GraphD where
  inn : Int
  rounds : Int
  nl : Nat
  Lo : Nat → RatD
  nh : Nat
  Hi : Nat → RatD
  nn : Nat
  N : Nat → NodeD
  out : Int

section
variable {w w' : World} {lo lo' c : Nat} {g : GraphD} {aL aH aN : Option Addr} {kL kH kN : Nat}
end

end Go.Proofs.YtlpabmcebpppfaaGreatDoor

namespace Go.Proofs.YtlpabmcebpppfaaGreatDoor
open Go.RowKit

end Go.Proofs.YtlpabmcebpppfaaGreatDoor

namespace Go.Proofs.YtlpabmcebpppfaaGreatDoor
open Go.RowKit

end Go.Proofs.YtlpabmcebpppfaaGreatDoor

namespace Go.Proofs.YtlpabmcebpppfaaGreatDoor
open Go.RowKit

end Go.Proofs.YtlpabmcebpppfaaGreatDoor

namespace Go.Proofs.YtlpabmcebpppfaaGreatDoor
open Go.RowKit

end Go.Proofs.YtlpabmcebpppfaaGreatDoor

namespace Go.Proofs.YtlpabmcebpppfaaGreatDoor
open Go.RowKit

end Go.Proofs.YtlpabmcebpppfaaGreatDoor

namespace Go.Proofs.YtlpabmcebpppfaaGreatDoor
open Go.RowKit

set_option maxHeartbeats 1600000 in
set_option maxRecDepth 100000 in
theorem l1AllOk_any (a : Option Addr) (lo b off n cap : Nat) (R : Nat → RatD) (w : World) (hn : n ≤ 16777216) (hs : szR R n ≤ 16777216) (H : Rats w lo a b off n R) :
    Calls Tryz.prog 78 #[.slice a n cap] w fun e w' => ∃ r : Bool, e = .returned (.bool r) ∧ (r = true ↔ RatsOk R n) ∧ w.Since w.heap.size w' := by
  go_enter Tryz.func78, Tryz.ntmps78
  go_wp2
  go_loopw [3] (fun i wr => ∃ k : Nat, k ≤ n ∧ i = .int .i64 k ∧ w.Since w.heap.size wr ∧ RatsOk R k) (fun i _ => n - (intOf i).toNat)
  case atStart => exact ⟨0, Nat.zero_le _, rfl, World.Since.refl _ _, fun i hi => absurd hi (by omega)⟩
  case round =>
    obtain ⟨k, hk, rfl, s, O⟩ := hrel
    by_cases hlt : k < n
    · obtain ⟨rfl, a1, a2, k1, k2, M⟩ := H k hlt
      have M' := M.keep s
      have g0 := M'.c0
      have g1 := M'.c1
      have g2 := M'.c2
      have hz : (k : Int) < (n : Int) := by omega
      have hsz := szR_at (R := R) hlt
      obtain ⟨ba, oa, -, LX⟩ := M'.L.LX
      obtain ⟨bb, ob, -, LY⟩ := M'.L.LY
      have J1 := specRatOk_any (R k).neg a1 a2 ba oa (R k).n k1 bb ob (R k).m k2 (R k).X (R k).Y wr (by omega) (by omega) LX LY M.L.lX M.L.lY
      rw [show ratOkB (R k).neg (R k).X (R k).n (R k).Y (R k).m = (R k).ok from rfl] at J1
      cases hok : (R k).ok
      · have HK := hide hok
        rw [hok] at J1
        clear hok
        go_wp2_with fail
        refine J1.mono ?_
        rintro e w2 ⟨rfl, s2⟩
        go_wp2
        go_ret
        refine ⟨false, rfl, ⟨(fun h => by cases h), fun h => ?_⟩, s.trans (sinceMono s2 s.size)⟩
        have := h k hlt
        rw [HK.out] at this
        cases this
      · have HK := hide hok
        rw [hok] at J1
        clear hok
        go_wp2_with fail
        refine J1.mono ?_
        rintro e w2 ⟨rfl, s2⟩
        go_wp2
        go_roundw
        case rel =>
          refine ⟨k + 1, by omega, by go_num, s.trans (sinceMono s2 s.size), fun i hi => ?_⟩
          by_cases e : i = k
          · subst e; exact HK.out
          · exact O i (by omega)
        case measure => simp [intOf]; omega
    · have e : k = n := by omega
      subst e
      go_wp2
      go_ret
      exact ⟨true, rfl, ⟨fun _ => O, fun _ => rfl⟩, s⟩

set_option maxHeartbeats 800000 in
set_option maxRecDepth 100000 in
theorem l2In_yes (x a b : Int) (w : World) (h1 : a ≤ x) (h2 : x ≤ b) :
    Calls Tryz.prog 70 #[.int .i64 x, .int .i64 a, .int .i64 b] w fun e w' => e = .returned (.bool true) ∧ w' = w := by
  go_enter Tryz.func70, Tryz.ntmps70
  go_wp2
  go_ret
  exact ⟨rfl, rfl⟩

set_option maxHeartbeats 800000 in
set_option maxRecDepth 100000 in
theorem l2In_no (x a b : Int) (w : World) (h : ¬ (a ≤ x ∧ x ≤ b)) :
    Calls Tryz.prog 70 #[.int .i64 x, .int .i64 a, .int .i64 b] w fun e w' => e = .returned (.bool false) ∧ w' = w := by
  by_cases h1 : a ≤ x
  · have h2 : ¬ x ≤ b := fun h2 => h ⟨h1, h2⟩
    clear h
    go_enter Tryz.func70, Tryz.ntmps70
    go_wp2
    go_ret
    exact ⟨rfl, rfl⟩
  · clear h
    go_enter Tryz.func70, Tryz.ntmps70
    go_wp2
    go_ret
    exact ⟨rfl, rfl⟩

/-- The sides are in their bounds. -/
def AffD.sides (d : AffD) : Prop := 0 ≤ d.rows ∧ d.rows ≤ 20000 ∧ 0 ≤ d.cols ∧ d.cols ≤ 20000

/-- .. and the lists as long as they say. -/
def AffD.shape (d : AffD) : Prop := d.sides ∧ (d.nw : Int) = d.rows * d.cols ∧ (d.nb : Int) = d.rows

/-- The cells of a map. -/
def AffD.cells (d : AffD) : Int := d.rows * (d.cols + 1)

def AffD.vals (d : AffD) : Prop := RatsOk d.W d.nw ∧ RatsOk d.B d.nb

theorem AffD.sides.bounds {d : AffD} (h : d.sides) : 0 ≤ d.cells ∧ d.cells ≤ 400020000 ∧ 0 ≤ d.rows * d.cols ∧ d.rows * d.cols ≤ 400000000 := by
  obtain ⟨h0, h1, h2, h3⟩ := h
  have a1 : d.rows * d.cols ≤ 20000 * 20000 := Int.mul_le_mul h1 h3 h2 (by omega)
  have a2 : 0 ≤ d.rows * d.cols := Int.mul_nonneg h0 h2
  have e : d.cells = d.rows * d.cols + d.rows := by unfold AffD.cells; rw [Int.mul_add, Int.mul_one]
  omega

set_option maxHeartbeats 800000 in
set_option maxRecDepth 100000 in
theorem l3Cells_any (d : AffD) (v2 v3 : Value) (w : World) (h : d.sides) :
    Calls Tryz.prog 72 #[.agg #[.int .i64 d.rows, .int .i64 d.cols, v2, v3]] w fun e w' => e = .returned (.int .i64 d.cells) ∧ w.Since w.heap.size w' := by
  have sA : w.Since w.heap.size (w.alloc (.cells #[.int .i64 d.rows, .int .i64 d.cols, v2, v3] 86)) := (World.Since.refl _ _).alloc (Nat.le_refl _) _
  have hb := h.bounds
  unfold AffD.cells at hb ⊢
  obtain ⟨h0, h1, h2, h3⟩ := h
  go_enter Tryz.func72, Tryz.ntmps72
  go_wp2
  go_ret
  exact ⟨rfl, sA⟩

set_option maxHeartbeats 3200000 in
set_option maxRecDepth 100000 in
theorem l3MapOk_any (d : AffD) (a1 a2 : Option Addr) (lo k1 k2 : Nat) (w : World) (hd : d.size ≤ 16777216) (H : AffL w lo d a1 a2 k1 k2) :
    Calls Tryz.prog 71 #[.agg #[.int .i64 d.rows, .int .i64 d.cols, .slice a1 d.nw k1, .slice a2 d.nb k2]] w fun e w' => ∃ r : Bool, e = .returned (.bool r) ∧ (r = true ↔ d.shape ∧ d.cells ≤ 20000 ∧ d.vals) ∧ w.Since w.heap.size w' := by
  have ts := hd
  unfold AffD.size at ts
  have sA : w.Since w.heap.size (w.alloc (.cells #[.int .i64 d.rows, .int .i64 d.cols, .slice a1 d.nw k1, .slice a2 d.nb k2] 86)) := (World.Since.refl _ _).alloc (Nat.le_refl _) _
  have bA := Box4.new w (.int .i64 d.rows) (.int .i64 d.cols) (.slice a1 d.nw k1) (.slice a2 d.nb k2) 86
  by_cases hr : 0 ≤ d.rows ∧ d.rows ≤ 20000
  rotate_left
  · have HN := hide (show ¬ d.shape from fun h => hr ⟨h.1.1, h.1.2.1⟩)
    go_enter Tryz.func71, Tryz.ntmps71
    go_wp2_with fail
    refine (l2In_no d.rows 0 20000 _ hr).mono ?_
    rintro e w1 ⟨rfl, rfl⟩
    clear hr
    go_wp2
    go_ret
    exact ⟨false, rfl, ⟨(fun h => by cases h), fun h => absurd h.1 HN.out⟩, sA⟩
  by_cases hc : 0 ≤ d.cols ∧ d.cols ≤ 20000
  rotate_left
  · have HN := hide (show ¬ d.shape from fun h => hc ⟨h.1.2.2.1, h.1.2.2.2⟩)
    go_enter Tryz.func71, Tryz.ntmps71
    go_wp2_with fail
    refine (l2In_yes d.rows 0 20000 _ hr.1 hr.2).mono ?_
    rintro e w1 ⟨rfl, rfl⟩
    go_wp2_with fail
    refine (l2In_no d.cols 0 20000 _ hc).mono ?_
    rintro e w1 ⟨rfl, rfl⟩
    clear hr hc
    go_wp2
    go_ret
    exact ⟨false, rfl, ⟨(fun h => by cases h), fun h => absurd h.1 HN.out⟩, sA⟩
  have hS : d.sides := ⟨hr.1, hr.2, hc.1, hc.2⟩
  have hb := hS.bounds
  obtain ⟨hr0, hr1⟩ := hr
  obtain ⟨hc0, hc1⟩ := hc
  obtain ⟨hb0, hb1, hb2, hb3⟩ := hb
  by_cases hw : (d.nw : Int) = d.rows * d.cols
  rotate_left
  · have HN := hide (show ¬ d.shape from fun h => hw h.2.1)
    go_enter Tryz.func71, Tryz.ntmps71
    go_wp2_with fail
    refine (l2In_yes d.rows 0 20000 _ hr0 hr1).mono ?_
    rintro e w1 ⟨rfl, rfl⟩
    go_wp2_with fail
    refine (l2In_yes d.cols 0 20000 _ hc0 hc1).mono ?_
    rintro e w1 ⟨rfl, rfl⟩
    go_wp2
    go_ret
    exact ⟨false, rfl, ⟨(fun h => by cases h), fun h => absurd h.1 HN.out⟩, sA⟩
  by_cases hv : (d.nb : Int) = d.rows
  rotate_left
  · have HN := hide (show ¬ d.shape from fun h => hv h.2.2)
    go_enter Tryz.func71, Tryz.ntmps71
    go_wp2_with fail
    refine (l2In_yes d.rows 0 20000 _ hr0 hr1).mono ?_
    rintro e w1 ⟨rfl, rfl⟩
    go_wp2_with fail
    refine (l2In_yes d.cols 0 20000 _ hc0 hc1).mono ?_
    rintro e w1 ⟨rfl, rfl⟩
    go_wp2
    go_ret
    exact ⟨false, rfl, ⟨(fun h => by cases h), fun h => absurd h.1 HN.out⟩, sA⟩
  have HS := hide (show d.shape from ⟨hS, hw, hv⟩)
  have q1 : ((d.nw : Int) != d.rows * d.cols) = false := by simpa using hw
  have q2 : ((d.nb : Int) != d.rows) = false := by simpa using hv
  clear hw hv
  go_enter Tryz.func71, Tryz.ntmps71
  go_wp2_with fail
  refine (l2In_yes d.rows 0 20000 _ hr0 hr1).mono ?_
  rintro e w1 ⟨rfl, rfl⟩
  go_wp2_with fail
  refine (l2In_yes d.cols 0 20000 _ hc0 hc1).mono ?_
  rintro e w1 ⟨rfl, rfl⟩
  go_wp2_with fail
  refine (l3Cells_any d _ _ _ hS).mono ?_
  rintro e w1 ⟨rfl, s1⟩
  have B1 := bA.keep s1
  have b2 := B1.c2
  have b3 := B1.c3
  have S1 : w.Since w.heap.size w1 := sA.trans (sinceMono s1 sA.size)
  obtain ⟨ba, oa, -, LW⟩ := (H.keep S1).LW
  obtain ⟨bb, ob, -, LB⟩ := (H.keep S1).LB
  by_cases hcl : d.cells ≤ 20000
  rotate_left
  · have hg : 20000 < d.cells := by omega
    have HN := hide hcl
    clear hcl bA
    go_wp2
    go_ret
    exact ⟨false, rfl, ⟨(fun h => by cases h), fun h => absurd h.2.1 (by have := HN.out; omega)⟩, S1⟩
  have hg : ¬ 20000 < d.cells := by omega
  have HC := hide hcl
  clear hcl bA
  go_wp2_with fail
  refine (l1AllOk_any a1 lo ba oa d.nw k1 d.W w1 (by omega) (by omega) LW).mono ?_
  rintro e w2 ⟨r1, rfl, i1, s2⟩
  have I1 := hide i1
  clear i1
  cases r1
  · go_wp2
    go_ret
    exact ⟨false, rfl, ⟨(fun h => by cases h), fun h => absurd (I1.out.2 h.2.2.1) (by simp)⟩, S1.trans (sinceMono s2 S1.size)⟩
  · have b3' := (B1.keep s2).c3
    clear b2 b3
    go_wp2_with fail
    refine (l1AllOk_any a2 lo bb ob d.nb k2 d.B w2 (by omega) (by omega) (LB.keep s2)).mono ?_
    rintro e w3 ⟨r2, rfl, i2, s3⟩
    have I2 := hide i2
    clear i2
    go_wp2
    go_ret
    exact ⟨r2, rfl, ⟨fun h => ⟨HS.out, HC.out, I1.out.1 (by simp), I2.out.1 h⟩, fun h => I2.out.2 h.2.2.2⟩, (S1.trans (sinceMono s2 S1.size)).trans (sinceMono s3 (Nat.le_trans S1.size s2.size))⟩

/-- The cells of the first k maps. -/
def sumC (A : Nat → AffD) : Nat → Int
  | 0 => 0
  | k + 1 => sumC A k + (A k).cells

theorem sumC_succ (A : Nat → AffD) (k : Nat) : sumC A (k + 1) = sumC A k + (A k).cells := rfl

/-- What NetOk asks. -/
structure NetP (n : Nat) (A : Nat → AffD) : Prop where
  n0 : 1 ≤ n
  n1 : n ≤ 10000
  shape : ∀ k, k < n → (A k).shape
  chain : ∀ k, k < n → 0 < k → (A k).cols = (A (k - 1)).rows
  sum : sumC A n ≤ 20000
  vals : ∀ k, k < n → (A k).vals

theorem sumC_bound {A : Nat → AffD} {k : Nat} (h : ∀ j, j < k → (A j).shape) : 0 ≤ sumC A k ∧ sumC A k ≤ 400020000 * k := by
  induction k with
  | zero => simp [sumC]
  | succ k ih =>
    obtain ⟨h1, h2⟩ := ih (fun j hj => h j (by omega))
    obtain ⟨h3, h4, -, -⟩ := (h k (by omega)).1.bounds
    rw [sumC_succ]
    omega

theorem sumC_mono {A : Nat → AffD} {k n : Nat} (h : ∀ j, j < n → (A j).shape) (hk : k ≤ n) : sumC A k ≤ sumC A n := by
  induction n with
  | zero => simp at hk; subst hk; exact Int.le_refl _
  | succ n ih =>
    rcases Nat.lt_or_ge n k with h1 | h1
    · have : k = n + 1 := by omega
      subst this; exact Int.le_refl _
    · have := ih (fun j hj => h j (by omega)) h1
      have := (h n (by omega)).1.bounds
      rw [sumC_succ]
      omega

theorem NetP.cells {n : Nat} {A : Nat → AffD} (h : NetP n A) {k : Nat} (hk : k < n) : (A k).cells ≤ 20000 := by
  have h1 := sumC_mono h.shape (show k + 1 ≤ n from hk)
  have h2 := (sumC_bound (A := A) (k := k) (fun j hj => h.shape j (by omega))).1
  have h3 := h.sum
  rw [sumC_succ] at h1
  omega

end Go.Proofs.YtlpabmcebpppfaaGreatDoor

namespace Go.Proofs.YtlpabmcebpppfaaGreatDoor
open Go.RowKit

set_option maxHeartbeats 3200000 in
set_option maxRecDepth 100000 in
theorem specNetOk_any (a : Option Addr) (lo b off n cap : Nat) (A : Nat → AffD) (w : World) (hn : n ≤ 16777216) (hs : szA A n ≤ 16777216) (H : Affs w lo a b off n A) :
    Calls Tryz.prog 35 #[.agg #[.slice a n cap]] w fun e w' => ∃ r : Bool, e = .returned (.bool r) ∧ (r = true ↔ NetP n A) ∧ w.Since w.heap.size w' := by
  have sA : w.Since w.heap.size (w.alloc (.cells #[.slice a n cap] 42)) := (World.Since.refl _ _).alloc (Nat.le_refl _) _
  have bA := Box1.new w (.slice a n cap) 42
  by_cases h : (1 : Int) ≤ n ∧ (n : Int) ≤ 10000
  rotate_left
  · have HN := hide (show ¬ NetP n A from fun p => by have := p.n0; have := p.n1; omega)
    go_enter Tryz.func35, Tryz.ntmps35
    go_wp2_with fail
    refine (l2In_no n 1 10000 _ h).mono ?_
    rintro e w1 ⟨rfl, rfl⟩
    clear h
    go_wp2
    go_ret
    exact ⟨false, rfl, ⟨(fun h => by cases h), fun h => absurd h HN.out⟩, sA⟩
  obtain ⟨h0, h1⟩ := h
  go_enter Tryz.func35, Tryz.ntmps35
  go_wp2_with fail
  refine (l2In_yes n 1 10000 _ h0 h1).mono ?_
  rintro e w1 ⟨rfl, rfl⟩
  generalize w.alloc (.cells #[.slice a n cap] 42) = wA at *
  go_wp2
  go_loopw [3, 4] (fun q i wr => ∃ k : Nat, k ≤ n ∧ i = .int .i64 k ∧ q = .int .i64 (sumC A k) ∧ wA.Since wA.heap.size wr ∧ (∀ j, j < k → (A j).shape ∧ (A j).vals) ∧ (∀ j, j < k → 0 < j → (A j).cols = (A (j - 1)).rows)) (fun _ i _ => n - (intOf i).toNat)
  case atStart => exact ⟨0, Nat.zero_le _, rfl, rfl, World.Since.refl _ _, fun i hi => absurd hi (by omega), fun i hi => absurd hi (by omega)⟩
  case round =>
    obtain ⟨k, hk, rfl, rfl, s, O, C⟩ := hrel
    have B1 := bA.keep s
    have b0 := B1.c0
    have S1 : w.Since w.heap.size wr := sA.trans (sinceMono s sA.size)
    by_cases hlt : k < n
    · obtain ⟨rfl, a1, a2, k1, k2, M⟩ := H k hlt
      have M' := M.keep S1
      have g0 := M'.c0
      have g1 := M'.c1
      have g2 := M'.c2
      have g3 := M'.c3
      have hz : (k : Int) < (n : Int) := by omega
      have hsz := szA_at (A := A) hlt
      go_wp2_with fail
      refine (l3MapOk_any (A k) a1 a2 lo k1 k2 wr (by omega) M'.L).mono ?_
      rintro e w2 ⟨r1, rfl, i1, s2⟩
      have I1 := hide i1
      clear i1 g0 g1 g2 g3 b0
      have S2 : w.Since w.heap.size w2 := S1.trans (sinceMono s2 S1.size)
      cases r1
      · go_wp2
        go_ret
        exact ⟨false, rfl, ⟨(fun h => by cases h), fun p => absurd (I1.out.2 ⟨p.shape k hlt, p.cells hlt, p.vals k hlt⟩) (by simp)⟩, S2⟩
      have hq := hide (I1.out.1 (by simp))
      have hb := hq.out.1.1.bounds
      have sb := sumC_bound (A := A) (k := k) (fun j hj => (O j hj).1)
      have M2 := M.keep S2
      have g0 := M2.c0
      have g1 := M2.c1
      have g2 := M2.c2
      have g3 := M2.c3
      have b0 := (B1.keep s2).c0
      clear I1
      rcases Nat.eq_zero_or_pos k with h00 | hpos
      · subst h00
        simp only [Nat.zero_mul, Nat.add_zero] at g0 g1 g2 g3
        have OO : ∀ j, j < 0 + 1 → (A j).shape ∧ (A j).vals := fun j hj => by
          obtain rfl : j = 0 := by omega
          exact ⟨hq.out.1, hq.out.2.2⟩
        have CC : ∀ j, j < 0 + 1 → 0 < j → (A j).cols = (A (j - 1)).rows := fun j hj h => by omega
        have HO := hide (And.intro OO CC)
        clear OO CC O C
        have sd : ∀ q w', (w2.drewN q).Since (w2.drewN q).heap.size w' → wA.Since wA.heap.size w' := fun q w' s3 => (s.trans (sinceMono s2 s.size)).trans (((Same.refl w2).drewN q |>.since _).trans (sinceMono s3 (Nat.le_trans s.size s2.size)))
        go_wp2_with fail
        go_quiet (fail)
        go_wp2_with fail
        refine (l3Cells_any (A 0) _ _ _ hq.out.1.1).mono ?_
        rintro e w3 ⟨rfl, s3⟩
        have s4 := sd _ _ s3
        clear sd s3
        go_wp2
        go_roundw
        case rel => exact ⟨0 + 1, by omega, rfl, rfl, s4, HO.out.1, HO.out.2⟩
        case measure => simp [intOf]; omega
      · obtain ⟨-, a1', a2', k1', k2', M0⟩ := H (k - 1) (by omega)
        have M0' := M0.keep S2
        have e0 := M0'.c0
        have hg : (0 : Int) < k := by omega
        have hk1 : (k : Int) - 1 = ((k - 1 : Nat) : Int) := by omega
        by_cases hch : (A k).cols = (A (k - 1)).rows
        · have HC := hide hch
          have q : ((A k).cols != (A (k - 1)).rows) = false := by simpa using hch
          clear hch
          have OO : ∀ j, j < k + 1 → (A j).shape ∧ (A j).vals := fun j hj => by
            by_cases e : j = k
            · subst e; exact ⟨hq.out.1, hq.out.2.2⟩
            · exact O j (by omega)
          have CC : ∀ j, j < k + 1 → 0 < j → (A j).cols = (A (j - 1)).rows := fun j hj h => by
            by_cases e : j = k
            · subst e; exact HC.out
            · exact C j (by omega) h
          have HO := hide (And.intro OO CC)
          clear OO CC O C
          have sd : ∀ q w', (w2.drewN q).Since (w2.drewN q).heap.size w' → wA.Since wA.heap.size w' := fun q w' s3 => (s.trans (sinceMono s2 s.size)).trans (((Same.refl w2).drewN q |>.since _).trans (sinceMono s3 (Nat.le_trans s.size s2.size)))
          go_wp2_with fail
          go_quiet (fail)
          go_wp2_with fail
          refine (l3Cells_any (A k) _ _ _ hq.out.1.1).mono ?_
          rintro e w3 ⟨rfl, s3⟩
          have s4 := sd _ _ s3
          clear sd s3
          go_wp2
          go_roundw
          case rel => exact ⟨k + 1, by omega, by go_num, rfl, s4, HO.out.1, HO.out.2⟩
          case measure => simp [intOf]; omega
        · have HC := hide hch
          have q : ((A k).cols != (A (k - 1)).rows) = true := by simpa using hch
          clear hch
          have sd : ∀ q, w.Since w.heap.size (w2.drewN q) := fun q => S2.trans ((Same.refl w2).drewN q |>.since _)
          go_wp2_with fail
          go_quiet (fail)
          go_wp2
          go_ret
          exact ⟨false, rfl, ⟨(fun h => by cases h), fun p => absurd (p.chain k hlt hpos) HC.out⟩, sd _⟩
    · have e : k = n := by omega
      subst e
      have HO := hide (And.intro O C)
      clear O C
      by_cases hq : sumC A k ≤ 20000
      · have HQ := hide hq
        go_wp2
        go_ret
        exact ⟨true, by simp, ⟨fun _ => ⟨by omega, by omega, fun j hj => (HO.out.1 j hj).1, HO.out.2, HQ.out, fun j hj => (HO.out.1 j hj).2⟩, fun _ => rfl⟩, S1⟩
      · have HQ := hide hq
        go_wp2
        go_ret
        exact Or.inl ⟨by simp, fun p => absurd p.sum (by have := HQ.out; omega), S1⟩

end Go.Proofs.YtlpabmcebpppfaaGreatDoor

namespace Go.Proofs.YtlpabmcebpppfaaGreatDoor
open Go.RowKit

end Go.Proofs.YtlpabmcebpppfaaGreatDoor

namespace Go.Proofs.YtlpabmcebpppfaaGreatDoor
open Go.RowKit

end Go.Proofs.YtlpabmcebpppfaaGreatDoor

namespace Go.Proofs.YtlpabmcebpppfaaGreatDoor
open Go.RowKit

set_option maxHeartbeats 1600000 in
set_option maxRecDepth 100000 in
theorem toAffineS_any (a : Option Addr) (lo b off n cap : Nat) (A : Nat → AffD) (w : World) (hn : n ≤ 16777216) (hs : szA A n ≤ 16777216) (H : Affs w lo a b off n A) :
    Calls Tryz.prog 37 #[.slice a n cap] w fun e w' => ∃ c, e = .returned (.slice (some ⟨c, 0, none⟩) n n) ∧ w.heap.size ≤ c ∧ c < w'.heap.size ∧ Affs w' (c + 1) (some ⟨c, 0, none⟩) c 0 n A ∧ w.Since w.heap.size w' := by
  have hmk := run_make_wide (P := Tryz.prog) 40 86 _ 4 64 Tryz.underlying40 info_Affine .i64 .i64 n (by omega) (by omega)
  have sA := (World.Since.refl w.heap.size w).alloc (Nat.le_refl _) (.cells (madeCells #[.int .i64 0, .int .i64 0, .slice none 0 0, .slice none 0 0] (n * 4)) 86)
  have rA := Room.new w #[.int .i64 0, .int .i64 0, .slice none 0 0, .slice none 0 0] (n * 4) 86
  go_enter Tryz.func37, Tryz.ntmps37
  go_wp2
  go_loopw [4] (fun i wr => ∃ k : Nat, k ≤ n ∧ i = .int .i64 k ∧ w.Since w.heap.size wr ∧ Room wr w.heap.size (n * 4) ∧ Affs wr (w.heap.size + 1) (some ⟨w.heap.size, 0, none⟩) w.heap.size 0 k A) (fun i _ => n - (intOf i).toNat)
  case atStart => exact ⟨0, Nat.zero_le _, rfl, sA, rA, fun i hi => absurd hi (by omega)⟩
  case round =>
    obtain ⟨k, hk, rfl, s, r, T⟩ := hrel
    by_cases hlt : k < n
    · obtain ⟨rfl, a1, a2, k1, k2, M⟩ := H k hlt
      have M' := M.keep s
      have g0 := M'.c0
      have g1 := M'.c1
      have g2 := M'.c2
      have g3 := M'.c3
      have hz : (k : Int) < (n : Int) := by omega
      have hsz := szA_at (A := A) hlt
      go_wp2_with fail
      refine (toAffine_any (A k) a1 a2 lo k1 k2 wr (by omega) M'.L).mono ?_
      rintro e w2 ⟨b1, b2, rfl, L2, s2⟩
      have r2 := r.keep s2
      have T2 := T.keep s2
      have S2 : w.Since w.heap.size w2 := s.trans (sinceMono s2 s.size)
      obtain ⟨v0, u0⟩ := r2.cell (k * 4) (by omega)
      obtain ⟨v1, u1⟩ := r2.cell (k * 4 + 1) (by omega)
      obtain ⟨v2, u2⟩ := r2.cell (k * 4 + 2) (by omega)
      obtain ⟨v3, u3⟩ := r2.cell (k * 4 + 3) (by omega)
      have f0 := r2.f (k * 4)
      have f1 := r2.f (k * 4 + 1)
      have f2 := r2.f (k * 4 + 2)
      have f3 := r2.f (k * 4 + 3)
      have rl := r.lt
      clear g0 g1 g2 g3
      go_wp2
      go_roundw
      case rel =>
        go_light
        obtain ⟨w3, e3, M3, R3, x0, x1, x2, x3, xo⟩ := put4 (q := k * 4) r2 (by omega) (.int .i64 (A k).rows) (.int .i64 (A k).cols) (.slice b1 (A k).nw (A k).nw) (.slice b2 (A k).nb (A k).nb)
        rw [← e3]
        exact ⟨k + 1, by omega, by go_num, S2.trans (M3.since (Nat.le_refl _)), R3, T2.put M3 (fun o ho => xo o (by omega)) (L2.down (by omega)) x0 x1 x2 x3⟩
      case measure => simp [intOf]; omega
    · have e : k = n := by omega
      subst e
      have rl := r.lt
      go_wp2
      go_ret
      exact ⟨w.heap.size, rfl, Nat.le_refl _, rl, T, s⟩

theorem Affs.marked {w w' : World} {lo b off n c : Nat} {a : Option Addr} {A : Nat → AffD} (h : Affs w lo a b off n A) (s : Marked w w' c) (hc : c < lo) (hb : 0 < n → b ≠ c) : Affs w' lo a b off n A := fun i hi => by
  obtain ⟨h1, a1, a2, k1, k2, m⟩ := h i hi
  have hb := hb (by omega)
  exact ⟨h1, a1, a2, k1, k2, (s.cell (a := ⟨b, off + i * 4, none⟩) hb).trans m.c0, (s.cell (a := ⟨b, off + i * 4 + 1, none⟩) hb).trans m.c1, (s.cell (a := ⟨b, off + i * 4 + 2, none⟩) hb).trans m.c2, (s.cell (a := ⟨b, off + i * 4 + 3, none⟩) hb).trans m.c3, m.L.marked s hc⟩

set_option maxHeartbeats 1600000 in
set_option maxRecDepth 100000 in
theorem toNet_any (a : Option Addr) (lo b off n cap : Nat) (A : Nat → AffD) (w : World) (hn : n ≤ 16777216) (hs : szA A n ≤ 16777216) (H : Affs w lo a b off n A) :
    Calls Tryz.prog 12 #[.agg #[.slice a n cap]] w fun e w' => ∃ c, e = .returned (.agg #[.slice (some ⟨c, 0, none⟩) n n]) ∧ w.heap.size ≤ c ∧ c < w'.heap.size ∧ Affs w' (c + 1) (some ⟨c, 0, none⟩) c 0 n A ∧ w.Since w.heap.size w' := by
  obtain ⟨wA, eA⟩ : ∃ wA : World, wA = ((w.alloc (.cells #[.slice a n cap] 37)).alloc (.cells #[.slice none 0 0] 42)).alloc (.cells #[.slice none 0 0] 42) := ⟨_, rfl⟩
  have sA : w.Since w.heap.size wA := by rw [eA]; exact (((World.Since.refl _ _).alloc (Nat.le_refl _) _).alloc (by simp) _).alloc (by simp; omega) _
  have zA : wA.heap.size = w.heap.size + 1 + 1 + 1 := by rw [eA]; simp
  have rA : Box1 wA (w.heap.size + 1) (.slice none 0 0) := by
    rw [eA]
    have := (Box1.new (w.alloc (.cells #[.slice a n cap] 37)) (.slice none 0 0) 42).keep ((World.Since.refl _ _).alloc (Nat.le_refl _) (.cells #[.slice none 0 0] 42))
    simpa using this
  have oA : Box1 wA (w.heap.size + 1 + 1) (.slice none 0 0) := by
    rw [eA]
    have := Box1.new ((w.alloc (.cells #[.slice a n cap] 37)).alloc (.cells #[.slice none 0 0] 42)) (.slice none 0 0) 42
    simpa using this
  have EA := hide eA
  clear eA
  go_enter Tryz.func12, Tryz.ntmps12
  go_wp2_with fail
  rw [← EA.out]
  refine (toAffineS_any a lo b off n cap A wA hn hs (H.keep sA)).mono ?_
  rintro e w1 ⟨g1, rfl, l1, l1', R1, s1⟩
  have S1 : w.Since w.heap.size w1 := sA.trans (sinceMono s1 sA.size)
  have Q1 := rA.keep s1
  have O1 := oA.keep s1
  have o0 := O1.c0
  have f0 := O1.f 0
  have q0 := Q1.c0
  have qf0 := Q1.f 0
  clear rA oA EA
  have M2 : Marked w1 (w1.setCell ⟨w.heap.size + 1 + 1, 0, none⟩ (.slice (some ⟨g1, 0, none⟩) n n)) (w.heap.size + 1 + 1) := (Marked.refl w1 _).setCell _ _
  go_wp2
  have Q2 := (Q1.marked M2 (by omega)).set0 (.slice (some ⟨g1, 0, none⟩) n n)
  refine bodyPost_ret (results_box1T rfl Tryz.underlying42 rfl size_Net _ _ _ _ rfl Q2) rfl ?_
  have M5 : Marked (w1.setCell ⟨w.heap.size + 1 + 1, 0, none⟩ (.slice (some ⟨g1, 0, none⟩) n n)) _ (w.heap.size + 1) := (Marked.refl _ _).setCell 0 (.slice (some ⟨g1, 0, none⟩) n n)
  exact ⟨g1, rfl, by omega, by rw [M5.size, M2.size]; exact l1', (R1.marked M2 (by omega) (fun _ => by omega)).marked M5 (by omega) (fun _ => by omega), (S1.trans (M2.since (by omega))).trans (M5.since (by omega))⟩

end Go.Proofs.YtlpabmcebpppfaaGreatDoor

namespace Go.Proofs.YtlpabmcebpppfaaGreatDoor
open Go.RowKit

set_option maxHeartbeats 1600000 in
set_option maxRecDepth 100000 in
theorem eqRatS_true (a a' : Option Addr) (lo b off cap lo' b' off' cap' n : Nat) (R : Nat → RatD) (w : World) (hn : n ≤ 16777216) (hs : szR R n ≤ 16777216) (H : Rats w lo a b off n R) (H' : Rats w lo' a' b' off' n R) :
    Calls Tryz.prog 32 #[.slice a n cap, .slice a' n cap'] w fun e w' => e = .returned (.bool true) ∧ w.Since w.heap.size w' := by
  go_enter Tryz.func32, Tryz.ntmps32
  go_wp2
  go_loopw [5] (fun i wr => ∃ k : Nat, k ≤ n ∧ i = .int .i64 k ∧ w.Since w.heap.size wr) (fun i _ => n - (intOf i).toNat)
  case atStart => exact ⟨0, Nat.zero_le _, rfl, World.Since.refl _ _⟩
  case round =>
    obtain ⟨k, hk, rfl, s⟩ := hrel
    by_cases hlt : k < n
    · obtain ⟨rfl, a1, a2, k1, k2, M⟩ := H k hlt
      obtain ⟨rfl, a1', a2', k1', k2', M'⟩ := H' k hlt
      have sd : w.Since w.heap.size wr.drew := ⟨s.os, s.tape, s.output, s.size, s.block⟩
      have N := M.keep s
      have N' := M'.keep s
      have g0 := N.c0
      have g1 := N.c1
      have g2 := N.c2
      have g0' := N'.c0
      have g1' := N'.c1
      have g2' := N'.c2
      have hsz := szR_at (R := R) hlt
      have hz : (k : Int) < (n : Int) := by omega
      obtain ⟨ba, oa, -, LX⟩ := (M.L.keep sd).LX
      obtain ⟨bb, ob, -, LY⟩ := (M.L.keep sd).LY
      obtain ⟨ba', oa', -, LX'⟩ := (M'.L.keep sd).LX
      obtain ⟨bb', ob', -, LY'⟩ := (M'.L.keep sd).LY
      have J1 := eqRat_true (R k).neg a1 a1' a2 a2' ba oa ba' oa' (R k).n k1 k1' bb ob bb' ob' (R k).m k2 k2' (R k).X (R k).Y wr.drew (by omega) (by omega) LX LX' LY LY'
      clear LX LY LX' LY' N N'
      go_wp2_with fail
      go_region_held3 (fun w' => w'.cell? ⟨b, off + k * 3, none⟩ = some (.bool (R k).neg) ∧ w'.cell? ⟨b, off + k * 3 + 1, none⟩ = some (.slice a1 (R k).n k1) ∧ w'.cell? ⟨b, off + k * 3 + 2, none⟩ = some (.slice a2 (R k).m k2) ∧ w'.cell? ⟨b', off' + k * 3, none⟩ = some (.bool (R k).neg) ∧ w'.cell? ⟨b', off' + k * 3 + 1, none⟩ = some (.slice a1' (R k).n k1') ∧ w'.cell? ⟨b', off' + k * 3 + 2, none⟩ = some (.slice a2' (R k).m k2')) (go_keep)
        (first
          | (go_at_call 67
             with_reducible refine J1.mono ?_
             rintro e w1 ⟨rfl, s1⟩
             have S1 : w.Since w.heap.size w1 := sd.trans (sinceMono s1 sd.size)
             have i0 := (M.keep S1).c0
             have i1 := (M.keep S1).c1
             have i2 := (M.keep S1).c2
             have i0' := (M'.keep S1).c0
             have i1' := (M'.keep S1).c1
             have i2' := (M'.keep S1).c2))
      all_goals go_wp2
      all_goals go_roundw
      case rel => exact ⟨k + 1, by omega, by go_num, S1⟩
      case measure => simp [intOf]; omega
    · go_wp2
      go_ret
      exact ⟨rfl, s⟩

set_option maxHeartbeats 1600000 in
set_option maxRecDepth 100000 in
theorem eqAffine_true (d : AffD) (a1 a2 a1' a2' : Option Addr) (lo k1 k2 lo' k1' k2' : Nat) (w : World) (hd : d.size ≤ 16777216) (H : AffL w lo d a1 a2 k1 k2) (H' : AffL w lo' d a1' a2' k1' k2') :
    Calls Tryz.prog 76 #[.agg #[.int .i64 d.rows, .int .i64 d.cols, .slice a1 d.nw k1, .slice a2 d.nb k2], .agg #[.int .i64 d.rows, .int .i64 d.cols, .slice a1' d.nw k1', .slice a2' d.nb k2']] w fun e w' => e = .returned (.bool true) ∧ w.Since w.heap.size w' := by
  have ts := hd
  unfold AffD.size at ts
  obtain ⟨wA, eA⟩ : ∃ wA : World, wA = (w.alloc (.cells #[.int .i64 d.rows, .int .i64 d.cols, .slice a1 d.nw k1, .slice a2 d.nb k2] 86)).alloc (.cells #[.int .i64 d.rows, .int .i64 d.cols, .slice a1' d.nw k1', .slice a2' d.nb k2'] 86) := ⟨_, rfl⟩
  have sA : w.Since w.heap.size wA := by rw [eA]; exact ((World.Since.refl _ _).alloc (Nat.le_refl _) _).alloc (by simp) _
  have bA : Box4 wA w.heap.size (.int .i64 d.rows) (.int .i64 d.cols) (.slice a1 d.nw k1) (.slice a2 d.nb k2) := by rw [eA]; exact (Box4.new w _ _ _ _ _).keep ((World.Since.refl _ _).alloc (Nat.le_refl _) _)
  have cA : Box4 wA (w.heap.size + 1) (.int .i64 d.rows) (.int .i64 d.cols) (.slice a1' d.nw k1') (.slice a2' d.nb k2') := by
    rw [eA]
    have := Box4.new (w.alloc (.cells #[.int .i64 d.rows, .int .i64 d.cols, .slice a1 d.nw k1, .slice a2 d.nb k2] 86)) (.int .i64 d.rows) (.int .i64 d.cols) (.slice a1' d.nw k1') (.slice a2' d.nb k2') 86
    simpa using this
  obtain ⟨b1, o1, -, W1⟩ := (H.keep sA).LW
  obtain ⟨b2, o2, -, W2⟩ := (H'.keep sA).LW
  obtain ⟨b3, o3, -, B1⟩ := (H.keep sA).LB
  obtain ⟨b4, o4, -, B2⟩ := (H'.keep sA).LB
  have J1 := eqRatS_true a1 a1' lo b1 o1 k1 lo' b2 o2 k1' d.nw d.W wA (by omega) (by omega) W1 W2
  have EA := hide eA
  clear eA
  go_enter Tryz.func76, Tryz.ntmps76
  go_wp2_with fail
  rw [← EA.out]
  refine J1.mono ?_
  rintro e w1 ⟨rfl, s1⟩
  have J2 := eqRatS_true a2 a2' lo b3 o3 k2 lo' b4 o4 k2' d.nb d.B w1 (by omega) (by omega) (B1.keep s1) (B2.keep s1)
  have q1 := (bA.keep s1).c3
  have q2 := (cA.keep s1).c3
  clear J1 EA bA cA
  go_wp2_with fail
  refine J2.mono ?_
  rintro e w2 ⟨rfl, s2⟩
  go_wp2
  go_ret
  exact ⟨rfl, sA.trans (sinceMono (s1.trans (sinceMono s2 s1.size)) sA.size)⟩

set_option maxHeartbeats 1600000 in
set_option maxRecDepth 100000 in
theorem eqAffineS_true (a a' : Option Addr) (lo b off cap lo' b' off' cap' n : Nat) (A : Nat → AffD) (w : World) (hn : n ≤ 16777216) (hs : szA A n ≤ 16777216) (H : Affs w lo a b off n A) (H' : Affs w lo' a' b' off' n A) :
    Calls Tryz.prog 42 #[.slice a n cap, .slice a' n cap'] w fun e w' => e = .returned (.bool true) ∧ w.Since w.heap.size w' := by
  go_enter Tryz.func42, Tryz.ntmps42
  go_wp2
  go_loopw [5] (fun i wr => ∃ k : Nat, k ≤ n ∧ i = .int .i64 k ∧ w.Since w.heap.size wr) (fun i _ => n - (intOf i).toNat)
  case atStart => exact ⟨0, Nat.zero_le _, rfl, World.Since.refl _ _⟩
  case round =>
    obtain ⟨k, hk, rfl, s⟩ := hrel
    by_cases hlt : k < n
    · obtain ⟨rfl, a1, a2, k1, k2, M⟩ := H k hlt
      obtain ⟨rfl, a1', a2', k1', k2', M'⟩ := H' k hlt
      have sd : w.Since w.heap.size wr.drew := ⟨s.os, s.tape, s.output, s.size, s.block⟩
      have N := M.keep s
      have N' := M'.keep s
      have g0 := N.c0
      have g1 := N.c1
      have g2 := N.c2
      have g3 := N.c3
      have g0' := N'.c0
      have g1' := N'.c1
      have g2' := N'.c2
      have g3' := N'.c3
      have hsz := szA_at (A := A) hlt
      have hz : (k : Int) < (n : Int) := by omega
      have J1 := eqAffine_true (A k) a1 a2 a1' a2' lo k1 k2 lo' k1' k2' wr.drew (by omega) (M.L.keep sd) (M'.L.keep sd)
      clear N N'
      go_wp2_with fail
      go_region_held3 (fun w' => w'.cell? ⟨b, off + k * 4, none⟩ = some (.int .i64 (A k).rows) ∧ w'.cell? ⟨b, off + k * 4 + 1, none⟩ = some (.int .i64 (A k).cols) ∧ w'.cell? ⟨b, off + k * 4 + 2, none⟩ = some (.slice a1 (A k).nw k1) ∧ w'.cell? ⟨b, off + k * 4 + 3, none⟩ = some (.slice a2 (A k).nb k2) ∧
          w'.cell? ⟨b', off' + k * 4, none⟩ = some (.int .i64 (A k).rows) ∧ w'.cell? ⟨b', off' + k * 4 + 1, none⟩ = some (.int .i64 (A k).cols) ∧ w'.cell? ⟨b', off' + k * 4 + 2, none⟩ = some (.slice a1' (A k).nw k1') ∧ w'.cell? ⟨b', off' + k * 4 + 3, none⟩ = some (.slice a2' (A k).nb k2')) (go_keep)
        (first
          | (go_at_call 76
             with_reducible refine J1.mono ?_
             rintro e w1 ⟨rfl, s1⟩
             have S1 : w.Since w.heap.size w1 := sd.trans (sinceMono s1 sd.size)
             have i0 := (M.keep S1).c0
             have i1 := (M.keep S1).c1
             have i2 := (M.keep S1).c2
             have i3 := (M.keep S1).c3
             have i0' := (M'.keep S1).c0
             have i1' := (M'.keep S1).c1
             have i2' := (M'.keep S1).c2
             have i3' := (M'.keep S1).c3))
      all_goals go_wp2
      all_goals go_roundw
      case rel => exact ⟨k + 1, by omega, by go_num, S1⟩
      case measure => simp [intOf]; omega
    · go_wp2
      go_ret
      exact ⟨rfl, s⟩

set_option maxHeartbeats 1600000 in
set_option maxRecDepth 100000 in
theorem eqNet_true (a a' : Option Addr) (lo b off cap lo' b' off' cap' n : Nat) (A : Nat → AffD) (w : World) (hn : n ≤ 16777216) (hs : szA A n ≤ 16777216) (H : Affs w lo a b off n A) (H' : Affs w lo' a' b' off' n A) :
    Calls Tryz.prog 14 #[.agg #[.slice a n cap], .agg #[.slice a' n cap']] w fun e w' => e = .returned (.bool true) ∧ w.Since w.heap.size w' := by
  have sA : w.Since w.heap.size ((w.alloc (.cells #[.slice a n cap] 42)).alloc (.cells #[.slice a' n cap'] 42)) := ((World.Since.refl _ _).alloc (Nat.le_refl _) _).alloc (by simp) _
  have J1 := eqAffineS_true a a' lo b off cap lo' b' off' cap' n A _ hn hs (H.keep sA) (H'.keep sA)
  go_enter Tryz.func14, Tryz.ntmps14
  go_wp2_with fail
  refine J1.mono ?_
  rintro e w1 ⟨rfl, s1⟩
  go_wp2
  go_ret
  exact ⟨rfl, sA.trans (sinceMono s1 sA.size)⟩

end Go.Proofs.YtlpabmcebpppfaaGreatDoor

namespace Go.Proofs.YtlpabmcebpppfaaGreatDoor
open Go.RowKit

theorem Tab.keepN {w w' : World} (_h : Tab w) (_hw : 0 ≤ w.heap.size) (_s : w.Since w.heap.size w') : Tab w' := trivial

set_option maxHeartbeats 1600000 in
set_option maxRecDepth 100000 in
theorem allValid_any (a : Option Addr) (lo b off n cap : Nat) (R : Nat → RatD) (w : World) (hw : 0 ≤ w.heap.size) (hT : Tab w) (hn : n ≤ 16777216) (hs : szR R n ≤ 16777216) (H : Rats w lo a b off n R) :
    Calls Tryz.prog 75 #[.slice a n cap] w fun e w' => ∃ r : Bool, e = .returned (.bool r) ∧ (r = true ↔ RatsOk R n) ∧ w.Since w.heap.size w' := by
  go_enter Tryz.func75, Tryz.ntmps75
  go_wp2
  go_loopw [7] (fun i wr => ∃ k : Nat, k ≤ n ∧ i = .int .i64 k ∧ w.Since w.heap.size wr ∧ RatsOk R k) (fun i _ => n - (intOf i).toNat)
  case atStart => exact ⟨0, Nat.zero_le _, rfl, World.Since.refl _ _, fun i hi => absurd hi (by omega)⟩
  case round =>
    obtain ⟨k, hk, rfl, s, O⟩ := hrel
    by_cases hlt : k < n
    · obtain ⟨rfl, a1, a2, k1, k2, M⟩ := H k hlt
      have M' := M.keep s
      have g0 := M'.c0
      have g1 := M'.c1
      have g2 := M'.c2
      have hz : (k : Int) < (n : Int) := by omega
      have hsz := szR_at (R := R) hlt
      have sA : w.Since w.heap.size (wr.alloc (.cells #[.bool (R k).neg, .slice a1 (R k).n k1, .slice a2 (R k).m k2] 53)) := s.alloc s.size _
      obtain ⟨ba, oa, -, LX⟩ := (M.L.keep sA).LX
      obtain ⟨bb, ob, -, LY⟩ := (M.L.keep sA).LY
      have J1 := implRatOk_any (R k).neg a1 a2 ba oa (R k).n k1 bb ob (R k).m k2 (R k).X (R k).Y _ (Nat.zero_le _) (by omega) (by omega) M.L.nc M.L.mc M.L.ac M.L.bc LX LY M.L.lX M.L.lY (hT.keepN hw sA)
      rw [show ratOkB (R k).neg (R k).X (R k).n (R k).Y (R k).m = (R k).ok from rfl] at J1
      cases hok : (R k).ok
      · have HK := hide hok
        rw [hok] at J1
        clear hok
        go_wp2_with fail
        refine J1.mono ?_
        rintro e w2 ⟨rfl, s2⟩
        go_wp2
        go_ret
        refine ⟨false, rfl, ⟨(fun h => by cases h), fun h => ?_⟩, sA.trans (sinceMono s2 sA.size)⟩
        have := h k hlt
        rw [HK.out] at this
        cases this
      · have HK := hide hok
        rw [hok] at J1
        clear hok
        go_wp2_with fail
        refine J1.mono ?_
        rintro e w2 ⟨rfl, s2⟩
        go_wp2
        go_roundw
        case rel =>
          refine ⟨k + 1, by omega, by go_num, sA.trans (sinceMono s2 sA.size), fun i hi => ?_⟩
          by_cases e : i = k
          · subst e; exact HK.out
          · exact O i (by omega)
        case measure => simp [intOf]; omega
    · have e : k = n := by omega
      subst e
      go_wp2
      go_ret
      exact ⟨true, rfl, ⟨fun _ => O, fun _ => rfl⟩, s⟩

set_option maxHeartbeats 800000 in
set_option maxRecDepth 100000 in
theorem sideFits_yes (x : Int) (w : World) (h1 : 0 ≤ x) (h2 : x ≤ 20000) :
    Calls Tryz.prog 120 #[.int .i64 x] w fun e w' => e = .returned (.bool true) ∧ w' = w := by
  go_enter Tryz.func120, Tryz.ntmps120
  go_wp2
  go_ret
  exact ⟨rfl, rfl⟩

set_option maxHeartbeats 800000 in
set_option maxRecDepth 100000 in
theorem sideFits_no (x : Int) (w : World) (h : ¬ (0 ≤ x ∧ x ≤ 20000)) :
    Calls Tryz.prog 120 #[.int .i64 x] w fun e w' => e = .returned (.bool false) ∧ w' = w := by
  by_cases h1 : 0 ≤ x
  · have h2 : ¬ x ≤ 20000 := fun h2 => h ⟨h1, h2⟩
    clear h
    go_enter Tryz.func120, Tryz.ntmps120
    go_wp2
    go_ret
    exact ⟨rfl, rfl⟩
  · clear h
    go_enter Tryz.func120, Tryz.ntmps120
    go_wp2
    go_ret
    exact ⟨rfl, rfl⟩

set_option maxHeartbeats 800000 in
set_option maxRecDepth 100000 in
theorem cellsOf_any (d : AffD) (w : World) (h : d.sides) :
    Calls Tryz.prog 98 #[.int .i64 d.rows, .int .i64 d.cols] w fun e w' => e = .returned (.int .i64 d.cells) ∧ w' = w := by
  have hb := h.bounds
  unfold AffD.cells at hb ⊢
  obtain ⟨h0, h1, h2, h3⟩ := h
  go_enter Tryz.func98, Tryz.ntmps98
  go_wp2
  go_ret
  exact ⟨rfl, rfl⟩

set_option maxHeartbeats 3200000 in
set_option maxRecDepth 100000 in
theorem shapeFits_any (d : AffD) (a1 a2 : Option Addr) (k1 k2 : Nat) (w : World) :
    Calls Tryz.prog 97 #[.agg #[.int .i64 d.rows, .int .i64 d.cols, .slice a1 d.nw k1, .slice a2 d.nb k2]] w fun e w' => ∃ r : Bool, e = .returned (.bool r) ∧ (r = true ↔ d.shape) ∧ w.Since w.heap.size w' := by
  have sA : w.Since w.heap.size (w.alloc (.cells #[.int .i64 d.rows, .int .i64 d.cols, .slice a1 d.nw k1, .slice a2 d.nb k2] 86)) := (World.Since.refl _ _).alloc (Nat.le_refl _) _
  by_cases hr : 0 ≤ d.rows ∧ d.rows ≤ 20000
  rotate_left
  · have HN := hide (show ¬ d.shape from fun h => hr ⟨h.1.1, h.1.2.1⟩)
    go_enter Tryz.func97, Tryz.ntmps97
    go_wp2_with fail
    refine (sideFits_no d.rows _ hr).mono ?_
    rintro e w1 ⟨rfl, rfl⟩
    clear hr
    go_wp2
    go_ret
    exact ⟨false, rfl, ⟨(fun h => by cases h), fun h => absurd h HN.out⟩, sA⟩
  by_cases hc : 0 ≤ d.cols ∧ d.cols ≤ 20000
  rotate_left
  · have HN := hide (show ¬ d.shape from fun h => hc ⟨h.1.2.2.1, h.1.2.2.2⟩)
    go_enter Tryz.func97, Tryz.ntmps97
    go_wp2_with fail
    refine (sideFits_yes d.rows _ hr.1 hr.2).mono ?_
    rintro e w1 ⟨rfl, rfl⟩
    go_wp2_with fail
    refine (sideFits_no d.cols _ hc).mono ?_
    rintro e w1 ⟨rfl, rfl⟩
    clear hr hc
    go_wp2
    go_ret
    exact ⟨false, rfl, ⟨(fun h => by cases h), fun h => absurd h HN.out⟩, sA⟩
  have hS : d.sides := ⟨hr.1, hr.2, hc.1, hc.2⟩
  have hb := hS.bounds
  obtain ⟨hr0, hr1⟩ := hr
  obtain ⟨hc0, hc1⟩ := hc
  obtain ⟨hb0, hb1, hb2, hb3⟩ := hb
  by_cases hw : (d.nw : Int) = d.rows * d.cols
  rotate_left
  · have HN := hide (show ¬ d.shape from fun h => hw h.2.1)
    have q : ((d.nw : Int) == d.rows * d.cols) = false := by simpa using hw
    clear hw
    go_enter Tryz.func97, Tryz.ntmps97
    go_wp2_with fail
    refine (sideFits_yes d.rows _ hr0 hr1).mono ?_
    rintro e w1 ⟨rfl, rfl⟩
    go_wp2_with fail
    refine (sideFits_yes d.cols _ hc0 hc1).mono ?_
    rintro e w1 ⟨rfl, rfl⟩
    go_wp2
    go_ret
    exact ⟨false, rfl, ⟨(fun h => by cases h), fun h => absurd h HN.out⟩, sA⟩
  have q : ((d.nw : Int) == d.rows * d.cols) = true := by simpa using hw
  by_cases hv : (d.nb : Int) = d.rows
  rotate_left
  · have HN := hide (show ¬ d.shape from fun h => hv h.2.2)
    have q2 : ((d.nb : Int) == d.rows) = false := by simpa using hv
    clear hv hw
    go_enter Tryz.func97, Tryz.ntmps97
    go_wp2_with fail
    refine (sideFits_yes d.rows _ hr0 hr1).mono ?_
    rintro e w1 ⟨rfl, rfl⟩
    go_wp2_with fail
    refine (sideFits_yes d.cols _ hc0 hc1).mono ?_
    rintro e w1 ⟨rfl, rfl⟩
    go_wp2
    go_ret
    exact ⟨false, rfl, ⟨(fun h => by cases h), fun h => absurd h HN.out⟩, sA⟩
  have HS := hide (show d.shape from ⟨hS, hw, hv⟩)
  have q2 : ((d.nb : Int) == d.rows) = true := by simpa using hv
  clear hw hv
  go_enter Tryz.func97, Tryz.ntmps97
  go_wp2_with fail
  refine (sideFits_yes d.rows _ hr0 hr1).mono ?_
  rintro e w1 ⟨rfl, rfl⟩
  go_wp2_with fail
  refine (sideFits_yes d.cols _ hc0 hc1).mono ?_
  rintro e w1 ⟨rfl, rfl⟩
  go_wp2
  go_ret
  exact ⟨true, rfl, ⟨fun _ => HS.out, fun _ => rfl⟩, sA⟩

end Go.Proofs.YtlpabmcebpppfaaGreatDoor

namespace Go.Proofs.YtlpabmcebpppfaaGreatDoor
open Go.RowKit

theorem shapeFits_yes (d : AffD) (a1 a2 : Option Addr) (k1 k2 : Nat) (w : World) (h : d.shape) :
    Calls Tryz.prog 97 #[.agg #[.int .i64 d.rows, .int .i64 d.cols, .slice a1 d.nw k1, .slice a2 d.nb k2]] w fun e w' => e = .returned (.bool true) ∧ w.Since w.heap.size w' :=
  (shapeFits_any d a1 a2 k1 k2 w).mono fun e w' ⟨r, he, hi, hs⟩ => ⟨by rw [he, hi.2 h], hs⟩

theorem shapeFits_no (d : AffD) (a1 a2 : Option Addr) (k1 k2 : Nat) (w : World) (h : ¬ d.shape) :
    Calls Tryz.prog 97 #[.agg #[.int .i64 d.rows, .int .i64 d.cols, .slice a1 d.nw k1, .slice a2 d.nb k2]] w fun e w' => e = .returned (.bool false) ∧ w.Since w.heap.size w' :=
  (shapeFits_any d a1 a2 k1 k2 w).mono fun e w' ⟨r, he, hi, hs⟩ => ⟨by rw [he]; cases r; rfl; exact absurd (hi.1 rfl) h, hs⟩

/-- What chainFits asks. -/
structure ChainP (n : Nat) (A : Nat → AffD) : Prop where
  n0 : 1 ≤ n
  n1 : n ≤ 10000
  shape : ∀ k, k < n → (A k).shape
  chain : ∀ k, k < n → 0 < k → (A k).cols = (A (k - 1)).rows
  sum : sumC A n ≤ 20000

set_option maxHeartbeats 3200000 in
set_option maxRecDepth 100000 in
theorem chainFits_any (a : Option Addr) (lo b off n cap : Nat) (A : Nat → AffD) (w : World) (hn : n ≤ 16777216) (H : Affs w lo a b off n A) :
    Calls Tryz.prog 74 #[.agg #[.slice a n cap]] w fun e w' => ∃ r : Bool, e = .returned (.bool r) ∧ (r = true ↔ ChainP n A) ∧ w.Since w.heap.size w' := by
  have sA : w.Since w.heap.size (w.alloc (.cells #[.slice a n cap] 42)) := (World.Since.refl _ _).alloc (Nat.le_refl _) _
  have bA := Box1.new w (.slice a n cap) 42
  by_cases h0 : (n : Int) < 1
  · have HN := hide (show ¬ ChainP n A from fun p => by have := p.n0; omega)
    go_enter Tryz.func74, Tryz.ntmps74
    go_wp2
    go_ret
    exact ⟨false, rfl, ⟨(fun h => by cases h), fun h => absurd h HN.out⟩, sA⟩
  by_cases h1 : (10000 : Int) < n
  · have HN := hide (show ¬ ChainP n A from fun p => by have := p.n1; omega)
    go_enter Tryz.func74, Tryz.ntmps74
    go_wp2
    go_ret
    exact Or.inl ⟨rfl, HN.out, sA⟩
  go_enter Tryz.func74, Tryz.ntmps74
  go_wp2_with fail
  generalize w.alloc (.cells #[.slice a n cap] 42) = wA at *
  go_loopw [3, 19] (fun q i wr => ∃ k : Nat, k ≤ n ∧ i = .int .i64 k ∧ q = .int .i64 (sumC A k) ∧ wA.Since wA.heap.size wr ∧ (∀ j, j < k → (A j).shape) ∧ (∀ j, j < k → 0 < j → (A j).cols = (A (j - 1)).rows)) (fun _ i _ => n - (intOf i).toNat)
  case atStart => exact ⟨0, Nat.zero_le _, rfl, rfl, World.Since.refl _ _, fun i hi => absurd hi (by omega), fun i hi => absurd hi (by omega)⟩
  case round =>
    obtain ⟨k, hk, rfl, rfl, s, O, C⟩ := hrel
    by_cases hlt : k < n
    · have B1 := bA.keep s
      have b0 := B1.c0
      have S1 : w.Since w.heap.size wr := sA.trans (sinceMono s sA.size)
      obtain ⟨rfl, a1, a2, k1, k2, M⟩ := H k hlt
      have M' := M.keep S1
      have g0 := M'.c0
      have g1 := M'.c1
      have g2 := M'.c2
      have g3 := M'.c3
      have hz : (k : Int) < (n : Int) := by omega
      have t1 : wr.Since wr.heap.size (wr.alloc (.cells #[.int .i64 (A k).rows, .int .i64 (A k).cols, .slice a1 (A k).nw k1, .slice a2 (A k).nb k2] 86)) := (World.Since.refl _ _).alloc (Nat.le_refl _) _
      have cB := Box4.new wr (.int .i64 (A k).rows) (.int .i64 (A k).cols) (.slice a1 (A k).nw k1) (.slice a2 (A k).nb k2) 86
      go_wp2_with fail
      generalize wr.alloc (.cells #[.int .i64 (A k).rows, .int .i64 (A k).cols, .slice a1 (A k).nw k1, .slice a2 (A k).nb k2] 86) = w1 at *
      have S2 : w.Since w.heap.size w1.drew := ⟨(S1.trans (sinceMono t1 S1.size)).os, (S1.trans (sinceMono t1 S1.size)).tape, (S1.trans (sinceMono t1 S1.size)).output, (S1.trans (sinceMono t1 S1.size)).size, (S1.trans (sinceMono t1 S1.size)).block⟩
      have B2 : Box1 w1.drew w.heap.size (.slice (some ⟨b, off, none⟩) n cap) := ⟨(B1.keep t1).c0, (B1.keep t1).f⟩
      have D2 : Box4 w1.drew wr.heap.size (.int .i64 (A k).rows) (.int .i64 (A k).cols) (.slice a1 (A k).nw k1) (.slice a2 (A k).nb k2) := ⟨cB.c0, cB.c1, cB.c2, cB.c3, cB.f⟩
      have p0 := B2.c0
      have d0 := cB.c0
      have d1 := cB.c1
      have d2 := cB.c2
      have d3 := cB.c3
      have d0' := D2.c0
      have d1' := D2.c1
      have d2' := D2.c2
      have d3' := D2.c3
      have sd1 : wA.Since wA.heap.size w1.drew := ⟨(s.trans (sinceMono t1 s.size)).os, (s.trans (sinceMono t1 s.size)).tape, (s.trans (sinceMono t1 s.size)).output, (s.trans (sinceMono t1 s.size)).size, (s.trans (sinceMono t1 s.size)).block⟩
      clear g0 g1 g2 g3 b0
      by_cases hsh : (A k).shape
      rotate_left
      · have HN := hide hsh
        have J1 := shapeFits_no (A k) a1 a2 k1 k2 w1.drew hsh
        clear hsh
        -- REGION A
        refine wp_region_held_drew (S := (fun w' => w'.cell? ⟨wr.heap.size, 0, none⟩ = some (.int .i64 (A k).rows) ∧ w'.cell? ⟨wr.heap.size, 1, none⟩ = some (.int .i64 (A k).cols) ∧ w'.cell? ⟨wr.heap.size, 2, none⟩ = some (.slice a1 (A k).nw k1) ∧ w'.cell? ⟨wr.heap.size, 3, none⟩ = some (.slice a2 (A k).nb k2))) (by kernel_rfl) ?_ (fun hHeld => ?_)
        · go_keep
        refine take_at 0 (some 24) (.agg #[.int .i64 (A k).rows, .int .i64 (A k).cols, .slice a1 (A k).nw k1, .slice a2 (A k).nb k2]) rfl (by kernel_rfl) (by kernel_rfl) (by kernel_rfl) (by kernel_rfl) (fun _ _ _ h => h) (by kernel_rfl) (by assumption) ?_ ?_
        · intro w' hSw
          try dsimp only at hSw
          go_simp
        simp only [Act.put, List.setIfInBounds_toArray, List.set_cons_zero, List.set_cons_succ]
        refine wpAnyH_ready (rs := [1]) (by kernel_rfl) (by simp) ?_
        refine AllReadyH.cons rfl (fun K hK => ?_) AllReadyH.nil
        go_simp
        go_wp2_with (go_at_call 97; with_reducible refine J1.mono ?_; rintro e w3 ⟨rfl, s3⟩)
        have S3 : w.Since w.heap.size w3 := S2.trans (sinceMono s3 S2.size)
        have D3 := D2.keep s3
        have i0 := D3.c0
        have i1 := D3.c1
        have i2 := D3.c2
        have i3 := D3.c3
        refine hK.out _ _ ?_ (fun hHeld2 => ?_)
        · exact ⟨i0, i1, i2, i3⟩
        clear hK K hHeld
        refine take_at 2 (some 26) (.bool true) rfl (by kernel_rfl) (by kernel_rfl) (by kernel_rfl) (by kernel_rfl) (fun _ _ _ h => h) (by kernel_rfl) (by assumption) ?_ ?_
        · intro w' hSw
          clear hSw
          kernel_rfl
        simp only [Act.put, List.setIfInBounds_toArray, List.set_cons_zero, List.set_cons_succ]
        refine take_at 3 (some 27) (.bool true) rfl (by kernel_rfl) (by kernel_rfl) (by kernel_rfl) (by kernel_rfl) (fun _ _ _ h => h) (by kernel_rfl) (by assumption) ?_ ?_
        · intro w' hSw
          clear hSw
          kernel_rfl
        simp only [Act.put, List.setIfInBounds_toArray, List.set_cons_zero, List.set_cons_succ]
        refine skip_at 4 (some 28) rfl (by kernel_rfl) (by kernel_rfl) (by kernel_rfl) (by kernel_rfl) (fun _ _ _ h => h) (by kernel_rfl) (by assumption) ?_
        simp only [Act.put, List.setIfInBounds_toArray, List.set_cons_zero, List.set_cons_succ]
        refine skip_at 5 (some 29) rfl (by kernel_rfl) (by kernel_rfl) (by kernel_rfl) (by kernel_rfl) (fun _ _ _ h => h) (by kernel_rfl) (by assumption) ?_
        simp only [Act.put, List.setIfInBounds_toArray, List.set_cons_zero, List.set_cons_succ]
        refine skip_at 6 (some 30) rfl (by kernel_rfl) (by kernel_rfl) (by kernel_rfl) (by kernel_rfl) (fun _ _ _ h => h) (by kernel_rfl) (by assumption) ?_
        simp only [Act.put, List.setIfInBounds_toArray, List.set_cons_zero, List.set_cons_succ]
        refine skip_at 7 (some 31) rfl (by kernel_rfl) (by kernel_rfl) (by kernel_rfl) (by kernel_rfl) (fun _ _ _ h => h) (by kernel_rfl) (by assumption) ?_
        simp only [Act.put, List.setIfInBounds_toArray, List.set_cons_zero, List.set_cons_succ]
        refine skip_at 8 (some 32) rfl (by kernel_rfl) (by kernel_rfl) (by kernel_rfl) (by kernel_rfl) (fun _ _ _ h => h) (by kernel_rfl) (by assumption) ?_
        simp only [Act.put, List.setIfInBounds_toArray, List.set_cons_zero, List.set_cons_succ]
        refine skip_at 9 (some 33) rfl (by kernel_rfl) (by kernel_rfl) (by kernel_rfl) (by kernel_rfl) (fun _ _ _ h => h) (by kernel_rfl) (by assumption) ?_
        simp only [Act.put, List.setIfInBounds_toArray, List.set_cons_zero, List.set_cons_succ]
        refine skip_at 10 (some 34) rfl (by kernel_rfl) (by kernel_rfl) (by kernel_rfl) (by kernel_rfl) (fun _ _ _ h => h) (by kernel_rfl) (by assumption) ?_
        simp only [Act.put, List.setIfInBounds_toArray, List.set_cons_zero, List.set_cons_succ]
        refine skip_at 11 (some 35) rfl (by kernel_rfl) (by kernel_rfl) (by kernel_rfl) (by kernel_rfl) (fun _ _ _ h => h) (by kernel_rfl) (by assumption) ?_
        simp only [Act.put, List.setIfInBounds_toArray, List.set_cons_zero, List.set_cons_succ]
        refine skip_at 12 (some 36) rfl (by kernel_rfl) (by kernel_rfl) (by kernel_rfl) (by kernel_rfl) (fun _ _ _ h => h) (by kernel_rfl) (by assumption) ?_
        simp only [Act.put, List.setIfInBounds_toArray, List.set_cons_zero, List.set_cons_succ]
        refine skip_at 13 (some 37) rfl (by kernel_rfl) (by kernel_rfl) (by kernel_rfl) (by kernel_rfl) (fun _ _ _ h => h) (by kernel_rfl) (by assumption) ?_
        simp only [Act.put, List.setIfInBounds_toArray, List.set_cons_zero, List.set_cons_succ]
        refine skip_at 14 (some 38) rfl (by kernel_rfl) (by kernel_rfl) (by kernel_rfl) (by kernel_rfl) (fun _ _ _ h => h) (by kernel_rfl) (by assumption) ?_
        simp only [Act.put, List.setIfInBounds_toArray, List.set_cons_zero, List.set_cons_succ]
        refine skip_at 15 (some 39) rfl (by kernel_rfl) (by kernel_rfl) (by kernel_rfl) (by kernel_rfl) (fun _ _ _ h => h) (by kernel_rfl) (by assumption) ?_
        simp only [Act.put, List.setIfInBounds_toArray, List.set_cons_zero, List.set_cons_succ]
        refine skip_at 16 (some 40) rfl (by kernel_rfl) (by kernel_rfl) (by kernel_rfl) (by kernel_rfl) (fun _ _ _ h => h) (by kernel_rfl) (by assumption) ?_
        simp only [Act.put, List.setIfInBounds_toArray, List.set_cons_zero, List.set_cons_succ]
        refine skip_at 17 (some 41) rfl (by kernel_rfl) (by kernel_rfl) (by kernel_rfl) (by kernel_rfl) (fun _ _ _ h => h) (by kernel_rfl) (by assumption) ?_
        simp only [Act.put, List.setIfInBounds_toArray, List.set_cons_zero, List.set_cons_succ]
        refine take_at 18 (some 42) (.bool true) rfl (by kernel_rfl) (by kernel_rfl) (by kernel_rfl) (by kernel_rfl) (fun _ _ _ h => h) (by kernel_rfl) (by assumption) ?_ ?_
        · intro w' hSw
          clear hSw
          kernel_rfl
        simp only [Act.put, List.setIfInBounds_toArray, List.set_cons_zero, List.set_cons_succ]
        refine wpAnyH_done (by kernel_rfl) ?_ _
        all_goals go_wp2
        all_goals go_ret
        all_goals exact ⟨false, rfl, ⟨(fun h => by cases h), fun p => absurd (p.shape k hlt) HN.out⟩, S3⟩
      have HS := hide hsh
      have hb := hsh.1.bounds
      have sb := sumC_bound (A := A) (k := k) O
      have J1 := shapeFits_yes (A k) a1 a2 k1 k2 w1.drew hsh
      clear hsh
      rcases Nat.eq_zero_or_pos k with h00 | hpos
      · have hg : decide ((0 : Int) < k) = false := by simp; omega
        have OO : ∀ j, j < k + 1 → (A j).shape := fun j hj => by
          obtain rfl : j = k := by omega
          exact HS.out
        have CC : ∀ j, j < k + 1 → 0 < j → (A j).cols = (A (j - 1)).rows := fun j hj h => by omega
        have HO := hide (And.intro OO CC)
        have H0 := hide h00
        clear OO CC O C h00
        -- REGION B
        refine wp_region_held_drew (S := (fun w' => w'.cell? ⟨wr.heap.size, 0, none⟩ = some (.int .i64 (A k).rows) ∧ w'.cell? ⟨wr.heap.size, 1, none⟩ = some (.int .i64 (A k).cols) ∧ w'.cell? ⟨wr.heap.size, 2, none⟩ = some (.slice a1 (A k).nw k1) ∧ w'.cell? ⟨wr.heap.size, 3, none⟩ = some (.slice a2 (A k).nb k2))) (by kernel_rfl) ?_ (fun hHeld => ?_)
        · go_keep
        refine take_at 0 (some 24) (.agg #[.int .i64 (A k).rows, .int .i64 (A k).cols, .slice a1 (A k).nw k1, .slice a2 (A k).nb k2]) rfl (by kernel_rfl) (by kernel_rfl) (by kernel_rfl) (by kernel_rfl) (fun _ _ _ h => h) (by kernel_rfl) (by assumption) ?_ ?_
        · intro w' hSw
          try dsimp only at hSw
          go_simp
        simp only [Act.put, List.setIfInBounds_toArray, List.set_cons_zero, List.set_cons_succ]
        refine wpAnyH_ready (rs := [1]) (by kernel_rfl) (by simp) ?_
        refine AllReadyH.cons rfl (fun K hK => ?_) AllReadyH.nil
        go_simp
        go_wp2_with (go_at_call 97; with_reducible refine J1.mono ?_; rintro e w3 ⟨rfl, s3⟩)
        have S3 : w.Since w.heap.size w3 := S2.trans (sinceMono s3 S2.size)
        have D3 := D2.keep s3
        have i0 := D3.c0
        have i1 := D3.c1
        have i2 := D3.c2
        have i3 := D3.c3
        refine hK.out _ _ ?_ (fun hHeld2 => ?_)
        · exact ⟨i0, i1, i2, i3⟩
        clear hK K hHeld
        refine take_at 2 (some 26) (.bool false) rfl (by kernel_rfl) (by kernel_rfl) (by kernel_rfl) (by kernel_rfl) (fun _ _ _ h => h) (by kernel_rfl) (by assumption) ?_ ?_
        · intro w' hSw
          clear hSw
          kernel_rfl
        simp only [Act.put, List.setIfInBounds_toArray, List.set_cons_zero, List.set_cons_succ]
        refine take_at 3 (some 27) (.bool false) rfl (by kernel_rfl) (by kernel_rfl) (by kernel_rfl) (by kernel_rfl) (fun _ _ _ h => h) (by kernel_rfl) (by assumption) ?_ ?_
        · intro w' hSw
          clear hSw
          kernel_rfl
        simp only [Act.put, List.setIfInBounds_toArray, List.set_cons_zero, List.set_cons_succ]
        refine take_at 4 (some 28) (.int .i64 k) rfl (by kernel_rfl) (by kernel_rfl) (by kernel_rfl) (by kernel_rfl) (fun _ _ _ h => h) (by kernel_rfl) (by assumption) ?_ ?_
        · intro w' hSw
          clear hSw
          kernel_rfl
        simp only [Act.put, List.setIfInBounds_toArray, List.set_cons_zero, List.set_cons_succ]
        refine take_at 5 (some 29) (.bool false) rfl (by kernel_rfl) (by kernel_rfl) (by kernel_rfl) (by kernel_rfl) (fun _ _ _ h => h) (by kernel_rfl) (by assumption) ?_ ?_
        · intro w' hSw
          try dsimp only at hSw
          go_simp
          exact H0.out
        simp only [Act.put, List.setIfInBounds_toArray, List.set_cons_zero, List.set_cons_succ]
        refine take_at 6 (some 30) (.bool false) rfl (by kernel_rfl) (by kernel_rfl) (by kernel_rfl) (by kernel_rfl) (fun _ _ _ h => h) (by kernel_rfl) (by assumption) ?_ ?_
        · intro w' hSw
          clear hSw
          kernel_rfl
        simp only [Act.put, List.setIfInBounds_toArray, List.set_cons_zero, List.set_cons_succ]
        refine skip_at 7 (some 31) rfl (by kernel_rfl) (by kernel_rfl) (by kernel_rfl) (by kernel_rfl) (fun _ _ _ h => h) (by kernel_rfl) (by assumption) ?_
        simp only [Act.put, List.setIfInBounds_toArray, List.set_cons_zero, List.set_cons_succ]
        refine skip_at 8 (some 32) rfl (by kernel_rfl) (by kernel_rfl) (by kernel_rfl) (by kernel_rfl) (fun _ _ _ h => h) (by kernel_rfl) (by assumption) ?_
        simp only [Act.put, List.setIfInBounds_toArray, List.set_cons_zero, List.set_cons_succ]
        refine skip_at 9 (some 33) rfl (by kernel_rfl) (by kernel_rfl) (by kernel_rfl) (by kernel_rfl) (fun _ _ _ h => h) (by kernel_rfl) (by assumption) ?_
        simp only [Act.put, List.setIfInBounds_toArray, List.set_cons_zero, List.set_cons_succ]
        refine skip_at 10 (some 34) rfl (by kernel_rfl) (by kernel_rfl) (by kernel_rfl) (by kernel_rfl) (fun _ _ _ h => h) (by kernel_rfl) (by assumption) ?_
        simp only [Act.put, List.setIfInBounds_toArray, List.set_cons_zero, List.set_cons_succ]
        refine skip_at 11 (some 35) rfl (by kernel_rfl) (by kernel_rfl) (by kernel_rfl) (by kernel_rfl) (fun _ _ _ h => h) (by kernel_rfl) (by assumption) ?_
        simp only [Act.put, List.setIfInBounds_toArray, List.set_cons_zero, List.set_cons_succ]
        refine skip_at 12 (some 36) rfl (by kernel_rfl) (by kernel_rfl) (by kernel_rfl) (by kernel_rfl) (fun _ _ _ h => h) (by kernel_rfl) (by assumption) ?_
        simp only [Act.put, List.setIfInBounds_toArray, List.set_cons_zero, List.set_cons_succ]
        refine skip_at 13 (some 37) rfl (by kernel_rfl) (by kernel_rfl) (by kernel_rfl) (by kernel_rfl) (fun _ _ _ h => h) (by kernel_rfl) (by assumption) ?_
        simp only [Act.put, List.setIfInBounds_toArray, List.set_cons_zero, List.set_cons_succ]
        refine skip_at 14 (some 38) rfl (by kernel_rfl) (by kernel_rfl) (by kernel_rfl) (by kernel_rfl) (fun _ _ _ h => h) (by kernel_rfl) (by assumption) ?_
        simp only [Act.put, List.setIfInBounds_toArray, List.set_cons_zero, List.set_cons_succ]
        refine skip_at 15 (some 39) rfl (by kernel_rfl) (by kernel_rfl) (by kernel_rfl) (by kernel_rfl) (fun _ _ _ h => h) (by kernel_rfl) (by assumption) ?_
        simp only [Act.put, List.setIfInBounds_toArray, List.set_cons_zero, List.set_cons_succ]
        refine skip_at 16 (some 40) rfl (by kernel_rfl) (by kernel_rfl) (by kernel_rfl) (by kernel_rfl) (fun _ _ _ h => h) (by kernel_rfl) (by assumption) ?_
        simp only [Act.put, List.setIfInBounds_toArray, List.set_cons_zero, List.set_cons_succ]
        refine take_at 17 (some 41) (.bool false) rfl (by kernel_rfl) (by kernel_rfl) (by kernel_rfl) (by kernel_rfl) (fun _ _ _ h => h) (by kernel_rfl) (by assumption) ?_ ?_
        · intro w' hSw
          clear hSw
          kernel_rfl
        simp only [Act.put, List.setIfInBounds_toArray, List.set_cons_zero, List.set_cons_succ]
        refine take_at 18 (some 42) (.bool false) rfl (by kernel_rfl) (by kernel_rfl) (by kernel_rfl) (by kernel_rfl) (fun _ _ _ h => h) (by kernel_rfl) (by assumption) ?_ ?_
        · intro w' hSw
          clear hSw
          kernel_rfl
        simp only [Act.put, List.setIfInBounds_toArray, List.set_cons_zero, List.set_cons_succ]
        refine wpAnyH_done (by kernel_rfl) ?_ _
        go_wp2_with fail
        refine (cellsOf_any (A k) _ HS.out.1).mono ?_
        rintro e w4 ⟨rfl, rfl⟩
        go_wp2
        go_roundw
        case rel => exact ⟨k + 1, by omega, by go_num, rfl, sd1.trans (sinceMono s3 sd1.size), HO.out.1, HO.out.2⟩
        case measure => simp [intOf]; omega
      · obtain ⟨p, hp⟩ : ∃ p, p = k - 1 := ⟨_, rfl⟩
        have HP := hide hp
        obtain ⟨-, a1', a2', k1', k2', M0⟩ := H p (by omega)
        have e0 := (M0.keep S2).c0
        have hg : (0 : Int) < k := by omega
        have hk1 : IntKind.i64.wrap ((k : Int) - 1) = (p : Int) := by rw [IntKind.wrap_i64]; omega
        have hk2 : (p : Int) < n := by omega
        have hk3 : (k : Int) - 1 = p := by omega
        clear hp
        by_cases hch : (A k).cols = (A p).rows
        · have HC := hide hch
          have q : ((A k).cols != (A p).rows) = false := by simpa using hch
          clear hch
          have OO : ∀ j, j < k + 1 → (A j).shape := fun j hj => by
            by_cases e : j = k
            · subst e; exact HS.out
            · exact O j (by omega)
          have CC : ∀ j, j < k + 1 → 0 < j → (A j).cols = (A (j - 1)).rows := fun j hj h => by
            by_cases e : j = k
            · subst e; rw [← HP.out]; exact HC.out
            · exact C j (by omega) h
          have HO := hide (And.intro OO CC)
          clear OO CC O C
          refine wp_region_held_drew (S := (fun w' => w'.cell? ⟨wr.heap.size, 0, none⟩ = some (.int .i64 (A k).rows) ∧ w'.cell? ⟨wr.heap.size, 1, none⟩ = some (.int .i64 (A k).cols) ∧ w'.cell? ⟨wr.heap.size, 2, none⟩ = some (.slice a1 (A k).nw k1) ∧ w'.cell? ⟨wr.heap.size, 3, none⟩ = some (.slice a2 (A k).nb k2) ∧ w'.cell? ⟨w.heap.size, 0, none⟩ = some (.slice (some ⟨b, off, none⟩) n cap) ∧ w'.cell? ⟨b, off + p * 4, none⟩ = some (.int .i64 (A p).rows))) (by kernel_rfl) ?_ (fun hHeld => ?_)
          · exact ⟨d0', d1', d2', d3', p0, e0⟩
          refine take_at 0 (some 24) (.agg #[.int .i64 (A k).rows, .int .i64 (A k).cols, .slice a1 (A k).nw k1, .slice a2 (A k).nb k2]) rfl (by kernel_rfl) (by kernel_rfl) (by kernel_rfl) (by kernel_rfl) (fun _ _ _ h => h) (by kernel_rfl) (by assumption) ?_ ?_
          · intro w' hSw
            try dsimp only at hSw
            go_simp
          simp only [Act.put, List.setIfInBounds_toArray, List.set_cons_zero, List.set_cons_succ]
          refine wpAnyH_ready (rs := [1]) (by kernel_rfl) (by simp) ?_
          refine AllReadyH.cons rfl (fun K hK => ?_) AllReadyH.nil
          go_simp
          go_wp2_with (go_at_call 97; with_reducible refine J1.mono ?_; rintro e w3 ⟨rfl, s3⟩)
          have S3 : w.Since w.heap.size w3 := S2.trans (sinceMono s3 S2.size)
          have D3 := D2.keep s3
          have i0 := D3.c0
          have i1 := D3.c1
          have i2 := D3.c2
          have i3 := D3.c3
          have i4 := (B2.keep s3).c0
          have i5 := (M0.keep S3).c0
          refine hK.out _ _ ?_ (fun hHeld2 => ?_)
          · exact ⟨i0, i1, i2, i3, i4, i5⟩
          clear hK K hHeld
          refine take_at 2 (some 26) (.bool false) rfl (by kernel_rfl) (by kernel_rfl) (by kernel_rfl) (by kernel_rfl) (fun _ _ _ h => h) (by kernel_rfl) (by assumption) ?_ ?_
          · intro w' hSw
            clear hSw
            kernel_rfl
          simp only [Act.put, List.setIfInBounds_toArray, List.set_cons_zero, List.set_cons_succ]
          refine take_at 3 (some 27) (.bool false) rfl (by kernel_rfl) (by kernel_rfl) (by kernel_rfl) (by kernel_rfl) (fun _ _ _ h => h) (by kernel_rfl) (by assumption) ?_ ?_
          · intro w' hSw
            clear hSw
            kernel_rfl
          simp only [Act.put, List.setIfInBounds_toArray, List.set_cons_zero, List.set_cons_succ]
          refine take_at 4 (some 28) (.int .i64 k) rfl (by kernel_rfl) (by kernel_rfl) (by kernel_rfl) (by kernel_rfl) (fun _ _ _ h => h) (by kernel_rfl) (by assumption) ?_ ?_
          · intro w' hSw
            clear hSw
            kernel_rfl
          simp only [Act.put, List.setIfInBounds_toArray, List.set_cons_zero, List.set_cons_succ]
          refine take_at 5 (some 29) (.bool true) rfl (by kernel_rfl) (by kernel_rfl) (by kernel_rfl) (by kernel_rfl) (fun _ _ _ h => h) (by kernel_rfl) (by assumption) ?_ ?_
          · intro w' hSw
            try dsimp only at hSw
            go_simp
          simp only [Act.put, List.setIfInBounds_toArray, List.set_cons_zero, List.set_cons_succ]
          refine take_at 6 (some 30) (.bool true) rfl (by kernel_rfl) (by kernel_rfl) (by kernel_rfl) (by kernel_rfl) (fun _ _ _ h => h) (by kernel_rfl) (by assumption) ?_ ?_
          · intro w' hSw
            clear hSw
            kernel_rfl
          simp only [Act.put, List.setIfInBounds_toArray, List.set_cons_zero, List.set_cons_succ]
          refine take_at 7 (some 31) (.pointer (some ⟨wr.heap.size, 1, none⟩)) rfl (by kernel_rfl) (by kernel_rfl) (by kernel_rfl) (by kernel_rfl) (fun _ _ _ h => h) (by kernel_rfl) (by assumption) ?_ ?_
          · intro w' hSw
            clear hSw
            kernel_rfl
          simp only [Act.put, List.setIfInBounds_toArray, List.set_cons_zero, List.set_cons_succ]
          refine take_at 8 (some 32) (.int .i64 (A k).cols) rfl (by kernel_rfl) (by kernel_rfl) (by kernel_rfl) (by kernel_rfl) (fun _ _ _ h => h) (by kernel_rfl) (by assumption) ?_ ?_
          · intro w' hSw
            try dsimp only at hSw
            go_simp
          simp only [Act.put, List.setIfInBounds_toArray, List.set_cons_zero, List.set_cons_succ]
          refine take_at 9 (some 33) (.pointer (some ⟨w.heap.size, 0, none⟩)) rfl (by kernel_rfl) (by kernel_rfl) (by kernel_rfl) (by kernel_rfl) (fun _ _ _ h => h) (by kernel_rfl) (by assumption) ?_ ?_
          · intro w' hSw
            clear hSw
            kernel_rfl
          simp only [Act.put, List.setIfInBounds_toArray, List.set_cons_zero, List.set_cons_succ]
          refine take_at 10 (some 34) (.slice (some ⟨b, off, none⟩) n cap) rfl (by kernel_rfl) (by kernel_rfl) (by kernel_rfl) (by kernel_rfl) (fun _ _ _ h => h) (by kernel_rfl) (by assumption) ?_ ?_
          · intro w' hSw
            try dsimp only at hSw
            go_simp
          simp only [Act.put, List.setIfInBounds_toArray, List.set_cons_zero, List.set_cons_succ]
          refine take_at 11 (some 35) (.int .i64 k) rfl (by kernel_rfl) (by kernel_rfl) (by kernel_rfl) (by kernel_rfl) (fun _ _ _ h => h) (by kernel_rfl) (by assumption) ?_ ?_
          · intro w' hSw
            clear hSw
            kernel_rfl
          simp only [Act.put, List.setIfInBounds_toArray, List.set_cons_zero, List.set_cons_succ]
          refine take_at 12 (some 36) (.int .i64 p) rfl (by kernel_rfl) (by kernel_rfl) (by kernel_rfl) (by kernel_rfl) (fun _ _ _ h => h) (by kernel_rfl) (by assumption) ?_ ?_
          · intro w' hSw
            try dsimp only at hSw
            go_simp
            rw [IntKind.wrap_i64]
            omega
          simp only [Act.put, List.setIfInBounds_toArray, List.set_cons_zero, List.set_cons_succ]
          refine take_at 13 (some 37) (.pointer (some ⟨b, off + p * 4, none⟩)) rfl (by kernel_rfl) (by kernel_rfl) (by kernel_rfl) (by kernel_rfl) (fun _ _ _ h => h) (by kernel_rfl) (by assumption) ?_ ?_
          · intro w' hSw
            try dsimp only at hSw
            go_simp
          simp only [Act.put, List.setIfInBounds_toArray, List.set_cons_zero, List.set_cons_succ]
          refine take_at 14 (some 38) (.pointer (some ⟨b, off + p * 4, none⟩)) rfl (by kernel_rfl) (by kernel_rfl) (by kernel_rfl) (by kernel_rfl) (fun _ _ _ h => h) (by kernel_rfl) (by assumption) ?_ ?_
          · intro w' hSw
            clear hSw
            kernel_rfl
          simp only [Act.put, List.setIfInBounds_toArray, List.set_cons_zero, List.set_cons_succ]
          refine take_at 15 (some 39) (.int .i64 (A p).rows) rfl (by kernel_rfl) (by kernel_rfl) (by kernel_rfl) (by kernel_rfl) (fun _ _ _ h => h) (by kernel_rfl) (by assumption) ?_ ?_
          · intro w' hSw
            try dsimp only at hSw
            go_simp
          simp only [Act.put, List.setIfInBounds_toArray, List.set_cons_zero, List.set_cons_succ]
          refine take_at 16 (some 40) (.bool false) rfl (by kernel_rfl) (by kernel_rfl) (by kernel_rfl) (by kernel_rfl) (fun _ _ _ h => h) (by kernel_rfl) (by assumption) ?_ ?_
          · intro w' hSw
            try dsimp only at hSw
            go_simp
          simp only [Act.put, List.setIfInBounds_toArray, List.set_cons_zero, List.set_cons_succ]
          refine take_at 17 (some 41) (.bool false) rfl (by kernel_rfl) (by kernel_rfl) (by kernel_rfl) (by kernel_rfl) (fun _ _ _ h => h) (by kernel_rfl) (by assumption) ?_ ?_
          · intro w' hSw
            clear hSw
            kernel_rfl
          simp only [Act.put, List.setIfInBounds_toArray, List.set_cons_zero, List.set_cons_succ]
          refine take_at 18 (some 42) (.bool false) rfl (by kernel_rfl) (by kernel_rfl) (by kernel_rfl) (by kernel_rfl) (fun _ _ _ h => h) (by kernel_rfl) (by assumption) ?_ ?_
          · intro w' hSw
            clear hSw
            kernel_rfl
          simp only [Act.put, List.setIfInBounds_toArray, List.set_cons_zero, List.set_cons_succ]
          refine wpAnyH_done (by kernel_rfl) ?_ _
          all_goals go_wp2_with fail
          all_goals refine (cellsOf_any (A k) _ HS.out.1).mono ?_
          all_goals rintro e w4 ⟨rfl, rfl⟩
          all_goals go_wp2
          all_goals go_roundw
          case rel => exact ⟨k + 1, by omega, by go_num, rfl, sd1.trans (sinceMono s3 sd1.size), HO.out.1, HO.out.2⟩
          case measure => simp [intOf]; omega
        · have HC := hide hch
          have q : ((A k).cols != (A p).rows) = true := by simpa using hch
          clear hch
          refine wp_region_held_drew (S := (fun w' => w'.cell? ⟨wr.heap.size, 0, none⟩ = some (.int .i64 (A k).rows) ∧ w'.cell? ⟨wr.heap.size, 1, none⟩ = some (.int .i64 (A k).cols) ∧ w'.cell? ⟨wr.heap.size, 2, none⟩ = some (.slice a1 (A k).nw k1) ∧ w'.cell? ⟨wr.heap.size, 3, none⟩ = some (.slice a2 (A k).nb k2) ∧ w'.cell? ⟨w.heap.size, 0, none⟩ = some (.slice (some ⟨b, off, none⟩) n cap) ∧ w'.cell? ⟨b, off + p * 4, none⟩ = some (.int .i64 (A p).rows))) (by kernel_rfl) ?_ (fun hHeld => ?_)
          · exact ⟨d0', d1', d2', d3', p0, e0⟩
          refine take_at 0 (some 24) (.agg #[.int .i64 (A k).rows, .int .i64 (A k).cols, .slice a1 (A k).nw k1, .slice a2 (A k).nb k2]) rfl (by kernel_rfl) (by kernel_rfl) (by kernel_rfl) (by kernel_rfl) (fun _ _ _ h => h) (by kernel_rfl) (by assumption) ?_ ?_
          · intro w' hSw
            try dsimp only at hSw
            go_simp
          simp only [Act.put, List.setIfInBounds_toArray, List.set_cons_zero, List.set_cons_succ]
          refine wpAnyH_ready (rs := [1]) (by kernel_rfl) (by simp) ?_
          refine AllReadyH.cons rfl (fun K hK => ?_) AllReadyH.nil
          go_simp
          go_wp2_with (go_at_call 97; with_reducible refine J1.mono ?_; rintro e w3 ⟨rfl, s3⟩)
          have S3 : w.Since w.heap.size w3 := S2.trans (sinceMono s3 S2.size)
          have D3 := D2.keep s3
          have i0 := D3.c0
          have i1 := D3.c1
          have i2 := D3.c2
          have i3 := D3.c3
          have i4 := (B2.keep s3).c0
          have i5 := (M0.keep S3).c0
          refine hK.out _ _ ?_ (fun hHeld2 => ?_)
          · exact ⟨i0, i1, i2, i3, i4, i5⟩
          clear hK K hHeld
          refine take_at 2 (some 26) (.bool false) rfl (by kernel_rfl) (by kernel_rfl) (by kernel_rfl) (by kernel_rfl) (fun _ _ _ h => h) (by kernel_rfl) (by assumption) ?_ ?_
          · intro w' hSw
            clear hSw
            kernel_rfl
          simp only [Act.put, List.setIfInBounds_toArray, List.set_cons_zero, List.set_cons_succ]
          refine take_at 3 (some 27) (.bool false) rfl (by kernel_rfl) (by kernel_rfl) (by kernel_rfl) (by kernel_rfl) (fun _ _ _ h => h) (by kernel_rfl) (by assumption) ?_ ?_
          · intro w' hSw
            clear hSw
            kernel_rfl
          simp only [Act.put, List.setIfInBounds_toArray, List.set_cons_zero, List.set_cons_succ]
          refine take_at 4 (some 28) (.int .i64 k) rfl (by kernel_rfl) (by kernel_rfl) (by kernel_rfl) (by kernel_rfl) (fun _ _ _ h => h) (by kernel_rfl) (by assumption) ?_ ?_
          · intro w' hSw
            clear hSw
            kernel_rfl
          simp only [Act.put, List.setIfInBounds_toArray, List.set_cons_zero, List.set_cons_succ]
          refine take_at 5 (some 29) (.bool true) rfl (by kernel_rfl) (by kernel_rfl) (by kernel_rfl) (by kernel_rfl) (fun _ _ _ h => h) (by kernel_rfl) (by assumption) ?_ ?_
          · intro w' hSw
            try dsimp only at hSw
            go_simp
          simp only [Act.put, List.setIfInBounds_toArray, List.set_cons_zero, List.set_cons_succ]
          refine take_at 6 (some 30) (.bool true) rfl (by kernel_rfl) (by kernel_rfl) (by kernel_rfl) (by kernel_rfl) (fun _ _ _ h => h) (by kernel_rfl) (by assumption) ?_ ?_
          · intro w' hSw
            clear hSw
            kernel_rfl
          simp only [Act.put, List.setIfInBounds_toArray, List.set_cons_zero, List.set_cons_succ]
          refine take_at 7 (some 31) (.pointer (some ⟨wr.heap.size, 1, none⟩)) rfl (by kernel_rfl) (by kernel_rfl) (by kernel_rfl) (by kernel_rfl) (fun _ _ _ h => h) (by kernel_rfl) (by assumption) ?_ ?_
          · intro w' hSw
            clear hSw
            kernel_rfl
          simp only [Act.put, List.setIfInBounds_toArray, List.set_cons_zero, List.set_cons_succ]
          refine take_at 8 (some 32) (.int .i64 (A k).cols) rfl (by kernel_rfl) (by kernel_rfl) (by kernel_rfl) (by kernel_rfl) (fun _ _ _ h => h) (by kernel_rfl) (by assumption) ?_ ?_
          · intro w' hSw
            try dsimp only at hSw
            go_simp
          simp only [Act.put, List.setIfInBounds_toArray, List.set_cons_zero, List.set_cons_succ]
          refine take_at 9 (some 33) (.pointer (some ⟨w.heap.size, 0, none⟩)) rfl (by kernel_rfl) (by kernel_rfl) (by kernel_rfl) (by kernel_rfl) (fun _ _ _ h => h) (by kernel_rfl) (by assumption) ?_ ?_
          · intro w' hSw
            clear hSw
            kernel_rfl
          simp only [Act.put, List.setIfInBounds_toArray, List.set_cons_zero, List.set_cons_succ]
          refine take_at 10 (some 34) (.slice (some ⟨b, off, none⟩) n cap) rfl (by kernel_rfl) (by kernel_rfl) (by kernel_rfl) (by kernel_rfl) (fun _ _ _ h => h) (by kernel_rfl) (by assumption) ?_ ?_
          · intro w' hSw
            try dsimp only at hSw
            go_simp
          simp only [Act.put, List.setIfInBounds_toArray, List.set_cons_zero, List.set_cons_succ]
          refine take_at 11 (some 35) (.int .i64 k) rfl (by kernel_rfl) (by kernel_rfl) (by kernel_rfl) (by kernel_rfl) (fun _ _ _ h => h) (by kernel_rfl) (by assumption) ?_ ?_
          · intro w' hSw
            clear hSw
            kernel_rfl
          simp only [Act.put, List.setIfInBounds_toArray, List.set_cons_zero, List.set_cons_succ]
          refine take_at 12 (some 36) (.int .i64 p) rfl (by kernel_rfl) (by kernel_rfl) (by kernel_rfl) (by kernel_rfl) (fun _ _ _ h => h) (by kernel_rfl) (by assumption) ?_ ?_
          · intro w' hSw
            try dsimp only at hSw
            go_simp
            rw [IntKind.wrap_i64]
            omega
          simp only [Act.put, List.setIfInBounds_toArray, List.set_cons_zero, List.set_cons_succ]
          refine take_at 13 (some 37) (.pointer (some ⟨b, off + p * 4, none⟩)) rfl (by kernel_rfl) (by kernel_rfl) (by kernel_rfl) (by kernel_rfl) (fun _ _ _ h => h) (by kernel_rfl) (by assumption) ?_ ?_
          · intro w' hSw
            try dsimp only at hSw
            go_simp
          simp only [Act.put, List.setIfInBounds_toArray, List.set_cons_zero, List.set_cons_succ]
          refine take_at 14 (some 38) (.pointer (some ⟨b, off + p * 4, none⟩)) rfl (by kernel_rfl) (by kernel_rfl) (by kernel_rfl) (by kernel_rfl) (fun _ _ _ h => h) (by kernel_rfl) (by assumption) ?_ ?_
          · intro w' hSw
            clear hSw
            kernel_rfl
          simp only [Act.put, List.setIfInBounds_toArray, List.set_cons_zero, List.set_cons_succ]
          refine take_at 15 (some 39) (.int .i64 (A p).rows) rfl (by kernel_rfl) (by kernel_rfl) (by kernel_rfl) (by kernel_rfl) (fun _ _ _ h => h) (by kernel_rfl) (by assumption) ?_ ?_
          · intro w' hSw
            try dsimp only at hSw
            go_simp
          simp only [Act.put, List.setIfInBounds_toArray, List.set_cons_zero, List.set_cons_succ]
          refine take_at 16 (some 40) (.bool true) rfl (by kernel_rfl) (by kernel_rfl) (by kernel_rfl) (by kernel_rfl) (fun _ _ _ h => h) (by kernel_rfl) (by assumption) ?_ ?_
          · intro w' hSw
            try dsimp only at hSw
            go_simp
          simp only [Act.put, List.setIfInBounds_toArray, List.set_cons_zero, List.set_cons_succ]
          refine take_at 17 (some 41) (.bool true) rfl (by kernel_rfl) (by kernel_rfl) (by kernel_rfl) (by kernel_rfl) (fun _ _ _ h => h) (by kernel_rfl) (by assumption) ?_ ?_
          · intro w' hSw
            clear hSw
            kernel_rfl
          simp only [Act.put, List.setIfInBounds_toArray, List.set_cons_zero, List.set_cons_succ]
          refine take_at 18 (some 42) (.bool true) rfl (by kernel_rfl) (by kernel_rfl) (by kernel_rfl) (by kernel_rfl) (fun _ _ _ h => h) (by kernel_rfl) (by assumption) ?_ ?_
          · intro w' hSw
            clear hSw
            kernel_rfl
          simp only [Act.put, List.setIfInBounds_toArray, List.set_cons_zero, List.set_cons_succ]
          refine wpAnyH_done (by kernel_rfl) ?_ _
          all_goals go_wp2
          all_goals go_ret
          all_goals exact ⟨false, rfl, ⟨(fun h => by cases h), fun pc => absurd (pc.chain k hlt hpos) (by rw [← HP.out]; exact HC.out)⟩, S3⟩
    · have S1 : w.Since w.heap.size wr := sA.trans (sinceMono s sA.size)
      have e : k = n := by omega
      subst e
      have HO := hide (And.intro O C)
      clear O C
      by_cases hq : sumC A k ≤ 20000
      · have HQ := hide hq
        go_wp2
        go_ret
        exact ⟨true, by simp, ⟨fun _ => ⟨by omega, by omega, HO.out.1, HO.out.2, HQ.out⟩, fun _ => rfl⟩, S1⟩
      · have HQ := hide hq
        go_wp2
        go_ret
        exact Or.inl ⟨by simp, fun p => absurd p.sum (by have := HQ.out; omega), S1⟩

end Go.Proofs.YtlpabmcebpppfaaGreatDoor

namespace Go.Proofs.YtlpabmcebpppfaaGreatDoor
open Go.RowKit

theorem netP_iff (n : Nat) (A : Nat → AffD) : NetP n A ↔ ChainP n A ∧ ∀ k, k < n → (A k).vals :=
  ⟨fun h => ⟨⟨h.n0, h.n1, h.shape, h.chain, h.sum⟩, h.vals⟩, fun h => ⟨h.1.n0, h.1.n1, h.1.shape, h.1.chain, h.1.sum, h.2⟩⟩

set_option maxHeartbeats 3200000 in
set_option maxRecDepth 100000 in
theorem implNetOk_any (a : Option Addr) (lo b off n cap : Nat) (A : Nat → AffD) (w : World) (hw : 0 ≤ w.heap.size) (hT : Tab w) (hn : n ≤ 16777216) (hs : szA A n ≤ 16777216) (H : Affs w lo a b off n A) :
    Calls Tryz.prog 38 #[.agg #[.slice a n cap]] w fun e w' => ∃ r : Bool, e = .returned (.bool r) ∧ (r = true ↔ NetP n A) ∧ w.Since w.heap.size w' := by
  have sA : w.Since w.heap.size (w.alloc (.cells #[.slice a n cap] 42)) := (World.Since.refl _ _).alloc (Nat.le_refl _) _
  have bA := Box1.new w (.slice a n cap) 42
  have E := hide (netP_iff n A)
  go_enter Tryz.func38, Tryz.ntmps38
  go_wp2_with fail
  refine (chainFits_any a lo b off n cap A _ hn (H.keep sA)).mono ?_
  rintro e w1 ⟨r1, rfl, i1, s1⟩
  have I1 := hide i1
  have S1 : w.Since w.heap.size w1 := sA.trans (sinceMono s1 sA.size)
  have B1 := bA.keep s1
  have b0 := B1.c0
  clear i1 bA
  cases r1
  · go_wp2
    go_ret
    exact ⟨false, rfl, ⟨(fun h => by cases h), fun p => absurd (I1.out.2 (E.out.1 p).1) (by simp)⟩, S1⟩
  have CP := hide (I1.out.1 (by simp))
  clear I1
  go_wp2_with fail
  go_loopw [11] (fun i wr => ∃ k : Nat, k ≤ n ∧ i = .int .i64 k ∧ w1.Since w1.heap.size wr ∧ (∀ j, j < k → (A j).vals)) (fun i _ => n - (intOf i).toNat)
  case atStart => exact ⟨0, Nat.zero_le _, rfl, World.Since.refl _ _, fun i hi => absurd hi (by omega)⟩
  case round =>
    obtain ⟨k, hk, rfl, s, O⟩ := hrel
    by_cases hlt : k < n
    · have S2 : w.Since w.heap.size wr := S1.trans (sinceMono s S1.size)
      obtain ⟨rfl, a1, a2, k1, k2, M⟩ := H k hlt
      have M' := M.keep S2
      have g0 := M'.c0
      have g1 := M'.c1
      have g2 := M'.c2
      have g3 := M'.c3
      have hz : (k : Int) < (n : Int) := by omega
      have hsz := szA_at (A := A) hlt
      unfold AffD.size at hsz
      have t1 : wr.Since wr.heap.size (wr.alloc (.cells #[.int .i64 (A k).rows, .int .i64 (A k).cols, .slice a1 (A k).nw k1, .slice a2 (A k).nb k2] 86)) := (World.Since.refl _ _).alloc (Nat.le_refl _) _
      have cB := Box4.new wr (.int .i64 (A k).rows) (.int .i64 (A k).cols) (.slice a1 (A k).nw k1) (.slice a2 (A k).nb k2) 86
      go_wp2_with fail
      generalize wr.alloc (.cells #[.int .i64 (A k).rows, .int .i64 (A k).cols, .slice a1 (A k).nw k1, .slice a2 (A k).nb k2] 86) = w2 at *
      have S3 : w.Since w.heap.size w2 := S2.trans (sinceMono t1 S2.size)
      have s3 : w1.Since w1.heap.size w2 := s.trans (sinceMono t1 s.size)
      obtain ⟨ba, oa, -, LW⟩ := (M.L.keep S3).LW
      obtain ⟨bb, ob, -, LB⟩ := (M.L.keep S3).LB
      refine (allValid_any a1 lo ba oa (A k).nw k1 (A k).W w2 (Nat.zero_le _) (hT.keepN hw S3) (by omega) (by omega) LW).mono ?_
      rintro e w3 ⟨r2, rfl, i2, s4⟩
      have I2 := hide i2
      have S4 : w.Since w.heap.size w3 := S3.trans (sinceMono s4 S3.size)
      have d3 := (cB.keep s4).c3
      clear i2 g0 g1 g2 g3
      cases r2
      · go_wp2
        go_ret
        exact ⟨false, rfl, ⟨(fun h => by cases h), fun p => absurd (I2.out.2 (p.vals k hlt).1) (by simp)⟩, S4⟩
      go_wp2_with fail
      refine (allValid_any a2 lo bb ob (A k).nb k2 (A k).B w3 (Nat.zero_le _) (hT.keepN hw S4) (by omega) (by omega) (LB.keep s4)).mono ?_
      rintro e w4 ⟨r3, rfl, i3, s5⟩
      have I3 := hide i3
      have S5 : w.Since w.heap.size w4 := S4.trans (sinceMono s5 S4.size)
      clear i3
      cases r3
      · go_wp2
        go_ret
        exact ⟨false, rfl, ⟨(fun h => by cases h), fun p => absurd (I3.out.2 (p.vals k hlt).2) (by simp)⟩, S5⟩
      go_wp2
      go_roundw
      case rel =>
        refine ⟨k + 1, by omega, by go_num, (s3.trans (sinceMono s4 s3.size)).trans (sinceMono s5 (Nat.le_trans s3.size s4.size)), fun j hj => ?_⟩
        by_cases e : j = k
        · subst e; exact ⟨I2.out.1 (by simp), I3.out.1 (by simp)⟩
        · exact O j (by omega)
      case measure => simp [intOf]; omega
    · have S2 : w.Since w.heap.size wr := S1.trans (sinceMono s S1.size)
      have e : k = n := by omega
      subst e
      have HO := hide O
      clear O
      go_wp2
      go_ret
      exact ⟨true, rfl, ⟨fun _ => E.out.2 ⟨CP.out, HO.out⟩, fun _ => rfl⟩, S2⟩

end Go.Proofs.YtlpabmcebpppfaaGreatDoor
