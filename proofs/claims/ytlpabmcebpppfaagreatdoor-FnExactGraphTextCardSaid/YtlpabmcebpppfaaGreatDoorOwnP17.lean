import Derived.Test.YtlpabmcebpppfaaGreatDoorOwnP16
import Derived.Test.YtlpabmcebpppfaaGreatDoorOwnP4
import Derived.Test.YtlpabmcebpppfaaGreatDoorOwnP3
import Derived.Test.YtlpabmcebpppfaaGreatDoorOwnP7
namespace Go.Proofs.YtlpabmcebpppfaaGreatDoor
open Go.RowKit

/-- What a Rat holds. -/
structure RatD where
  neg : Bool
  n : Nat
  X : Nat → Nat
  m : Nat
  Y : Nat → Nat

def RatD.nul : RatD := ⟨false, 0, fun _ => 0, 0, fun _ => 0⟩

def RatD.ok (r : RatD) : Bool := ratOkB r.neg r.X r.n r.Y r.m

/-- Two slices that hold a Rat's lists, in blocks from lo on. -/
structure RatL (w : World) (lo : Nat) (r : RatD) (a b : Option Addr) (ca cb : Nat) : Prop where
  nc : r.n ≤ ca
  mc : r.m ≤ cb
  ac : a = none → ca = 0
  bc : b = none → cb = 0
  LX : ∃ ba oa, (0 < r.n → lo ≤ ba) ∧ Limbs w a ba oa r.n r.X
  LY : ∃ bb ob, (0 < r.m → lo ≤ bb) ∧ Limbs w b bb ob r.m r.Y
  lX : ∀ j, j < r.n → r.X j < 4294967296
  lY : ∀ j, j < r.m → r.Y j < 4294967296
  n63 : r.n ≤ 9223372036854775807
  m63 : r.m ≤ 9223372036854775807

section
variable {w w' : World} {lo lo' b off n c : Nat} {r : RatD} {a a1 a2 : Option Addr} {k1 k2 : Nat} {R : Nat → RatD}

theorem RatL.keep (h : RatL w lo r a1 a2 k1 k2) (s : w.Since w.heap.size w') : RatL w' lo r a1 a2 k1 k2 := by
  obtain ⟨ba, oa, l1, LX⟩ := h.LX
  obtain ⟨bb, ob, l2, LY⟩ := h.LY
  exact ⟨h.nc, h.mc, h.ac, h.bc, ⟨ba, oa, l1, LX.keep s⟩, ⟨bb, ob, l2, LY.keep s⟩, h.lX, h.lY, h.n63, h.m63⟩

theorem RatL.down (h : RatL w lo r a1 a2 k1 k2) (hl : lo' ≤ lo) : RatL w lo' r a1 a2 k1 k2 := by
  obtain ⟨ba, oa, l1, LX⟩ := h.LX
  obtain ⟨bb, ob, l2, LY⟩ := h.LY
  exact ⟨h.nc, h.mc, h.ac, h.bc, ⟨ba, oa, fun h => Nat.le_trans hl (l1 h), LX⟩, ⟨bb, ob, fun h => Nat.le_trans hl (l2 h), LY⟩, h.lX, h.lY, h.n63, h.m63⟩

theorem RatL.marked (h : RatL w lo r a1 a2 k1 k2) (s : Marked w w' c) (hc : c < lo) : RatL w' lo r a1 a2 k1 k2 := by
  obtain ⟨ba, oa, l1, LX⟩ := h.LX
  obtain ⟨bb, ob, l2, LY⟩ := h.LY
  exact ⟨h.nc, h.mc, h.ac, h.bc, ⟨ba, oa, l1, LX.marked s (fun h => by have := l1 h; omega)⟩, ⟨bb, ob, l2, LY.marked s (fun h => by have := l2 h; omega)⟩, h.lX, h.lY, h.n63, h.m63⟩

/-- A Rat that lies in memory. -/
structure RatM (w : World) (lo b off : Nat) (r : RatD) (a1 a2 : Option Addr) (k1 k2 : Nat) : Prop where
  c0 : w.cell? ⟨b, off, none⟩ = some (.bool r.neg)
  c1 : w.cell? ⟨b, off + 1, none⟩ = some (.slice a1 r.n k1)
  c2 : w.cell? ⟨b, off + 2, none⟩ = some (.slice a2 r.m k2)
  L : RatL w lo r a1 a2 k1 k2

theorem RatM.lt (h : RatM w lo b off r a1 a2 k1 k2) : b < w.heap.size := World.block_lt_of_cell? _ _ h.c0
theorem RatM.keep (h : RatM w lo b off r a1 a2 k1 k2) (s : w.Since w.heap.size w') : RatM w' lo b off r a1 a2 k1 k2 :=
  ⟨(s.cell (a := ⟨b, off, none⟩) h.lt).trans h.c0, (s.cell (a := ⟨b, off + 1, none⟩) h.lt).trans h.c1, (s.cell (a := ⟨b, off + 2, none⟩) h.lt).trans h.c2, h.L.keep s⟩
theorem RatM.down (h : RatM w lo b off r a1 a2 k1 k2) (hl : lo' ≤ lo) : RatM w lo' b off r a1 a2 k1 k2 := ⟨h.c0, h.c1, h.c2, h.L.down hl⟩
theorem RatM.marked (h : RatM w lo b off r a1 a2 k1 k2) (s : Marked w w' c) (hc : c < lo) (hb : b ≠ c) : RatM w' lo b off r a1 a2 k1 k2 :=
  ⟨(s.cell (a := ⟨b, off, none⟩) hb).trans h.c0, (s.cell (a := ⟨b, off + 1, none⟩) hb).trans h.c1, (s.cell (a := ⟨b, off + 2, none⟩) hb).trans h.c2, h.L.marked s hc⟩

/-- A slice of Rats. -/
def Rats (w : World) (lo : Nat) (a : Option Addr) (b off n : Nat) (R : Nat → RatD) : Prop :=
  ∀ i, i < n → a = some ⟨b, off, none⟩ ∧ ∃ a1 a2 k1 k2, RatM w lo b (off + i * 3) (R i) a1 a2 k1 k2

theorem Rats.keep (h : Rats w lo a b off n R) (s : w.Since w.heap.size w') : Rats w' lo a b off n R := fun i hi => by
  obtain ⟨h1, a1, a2, k1, k2, h2⟩ := h i hi
  exact ⟨h1, a1, a2, k1, k2, h2.keep s⟩
theorem Rats.down (h : Rats w lo a b off n R) (hl : lo' ≤ lo) : Rats w lo' a b off n R := fun i hi => by
  obtain ⟨h1, a1, a2, k1, k2, h2⟩ := h i hi
  exact ⟨h1, a1, a2, k1, k2, h2.down hl⟩
theorem Rats.marked (h : Rats w lo a b off n R) (s : Marked w w' c) (hc : c < lo) (hb : 0 < n → b ≠ c) : Rats w' lo a b off n R := fun i hi => by
  obtain ⟨h1, a1, a2, k1, k2, h2⟩ := h i hi
  exact ⟨h1, a1, a2, k1, k2, h2.marked s hc (hb (by omega))⟩
end

/-- How much a list of Rats counts. -/
def szR (R : Nat → RatD) : Nat → Nat
  | 0 => 0
  | n + 1 => szR R n + ((R n).n + (R n).m)

theorem szR_succ (R : Nat → RatD) (n : Nat) : szR R (n + 1) = szR R n + ((R n).n + (R n).m) := rfl

theorem szR_mono {R : Nat → RatD} {k n : Nat} (h : k ≤ n) : szR R k ≤ szR R n := by
  induction n with
  | zero => simp at h; subst h; exact Nat.le_refl _
  | succ n ih =>
    rcases Nat.lt_or_ge n k with h1 | h1
    · have : k = n + 1 := by omega
      subst this; exact Nat.le_refl _
    · have := ih h1
      rw [szR_succ]
      omega

theorem szR_at {R : Nat → RatD} {k n : Nat} (h : k < n) : (R k).n + (R k).m ≤ szR R n := by
  have := szR_mono (R := R) (show k + 1 ≤ n from h)
  rw [szR_succ] at this
  omega

/-- All are valid. -/
def RatsOk (R : Nat → RatD) (n : Nat) : Prop := ∀ i, i < n → (R i).ok = true

/-- What an affine map holds. -/
structure AffD where
  rows : Int
  cols : Int
  nw : Nat
  W : Nat → RatD
  nb : Nat
  B : Nat → RatD

def AffD.nul : AffD := ⟨0, 0, 0, fun _ => RatD.nul, 0, fun _ => RatD.nul⟩

section
variable {w w' : World} {lo lo' b off n c : Nat} {d : AffD} {a a1 a2 : Option Addr} {k1 k2 : Nat} {A : Nat → AffD}

end

end Go.Proofs.YtlpabmcebpppfaaGreatDoor

namespace Go.Proofs.YtlpabmcebpppfaaGreatDoor
open Go.RowKit

/-- What a count leaves. -/
def szl (L t : Nat) : Int := if t ≤ L then ((L - t : Nat) : Int) else -1

theorem szl_ok {L t : Nat} (h : t ≤ L) : szl L t = ((L - t : Nat) : Int) := by simp [szl, h]
theorem szl_no {L t : Nat} (h : L < t) : szl L t = -1 := by simp [szl]; omega

set_option maxHeartbeats 1600000 in
set_option maxRecDepth 100000 in
theorem szRatS_any (a : Option Addr) (lo b off n cap L : Nat) (R : Nat → RatD) (w : World) (hL : L ≤ 16777216) (hn : n ≤ 9223372036854775807) (H : Rats w lo a b off n R) :
    Calls Tryz.prog 15 #[.slice a n cap, .int .i64 L] w fun e w' => e = .returned (.int .i64 (szl L (n + szR R n))) ∧ w.Since w.heap.size w' := by
  by_cases h : L < n
  · rw [szl_no (show L < n + szR R n by omega)]
    go_enter Tryz.func15, Tryz.ntmps15
    go_wp2
    go_ret
    exact ⟨rfl, World.Since.refl _ _⟩
  have h1 : (L : Int) - n = ((L - n : Nat) : Int) := by omega
  have H1 := hide h1
  clear h1
  go_enter Tryz.func15, Tryz.ntmps15
  go_wp2
  go_loopw [1, 5] (fun q i wr => ∃ k : Nat, k ≤ n ∧ i = .int .i64 k ∧ n + szR R k ≤ L ∧ q = .int .i64 ((L - n - szR R k : Nat) : Int) ∧ w.Since w.heap.size wr) (fun _ i _ => n - (intOf i).toNat)
  case atStart => exact ⟨0, Nat.zero_le _, rfl, by unfold szR; omega, by simp only [szR, Nat.sub_zero]; rw [← H1.out], World.Since.refl _ _⟩
  case round =>
    obtain ⟨k, hk, rfl, hs, rfl, s⟩ := hrel
    by_cases hlt : k < n
    · obtain ⟨rfl, a1, a2, k1, k2, M⟩ := H k hlt
      have M' := M.keep s
      have g0 := M'.c0
      have g1 := M'.c1
      have g2 := M'.c2
      have hz : (k : Int) < (n : Int) := by omega
      have e1 := szR_succ R k
      by_cases hf : n + szR R (k + 1) ≤ L
      · have H2 := hide e1
        clear e1
        go_wp2_with fail
        refine (szRat_ok (R k).neg a1 a2 (R k).n k1 (R k).m k2 (L - n - szR R k) wr (by omega) (by have := H2.out; omega)).mono ?_
        rintro e w1 ⟨rfl, s1⟩
        go_wp2
        go_roundw
        case rel => exact ⟨k + 1, by omega, by go_num, hf, by rw [H2.out]; congr 2; omega, s.trans (sinceMono s1 s.size)⟩
        case measure => simp [intOf]; omega
      · have hx := szR_mono (R := R) (show k + 1 ≤ n from hlt)
        have HZ := hide (szl_no (show L < n + szR R n by omega)).symm
        have H2 := hide e1
        clear e1
        go_wp2_with fail
        refine (szRat_no (R k).neg a1 a2 (R k).n k1 (R k).m k2 (L - n - szR R k) wr (by omega) (by have := H2.out; omega) M.L.n63 M.L.m63).mono ?_
        rintro e w1 ⟨rfl, s1⟩
        go_wp2
        go_ret
        exact ⟨ret_int HZ.out, s.trans (sinceMono s1 s.size)⟩
    · have e : k = n := by omega
      subst e
      go_wp2
      go_ret
      exact ⟨ret_int (by rw [szl_ok hs]; congr 1; omega), s⟩

end Go.Proofs.YtlpabmcebpppfaaGreatDoor

namespace Go.Proofs.YtlpabmcebpppfaaGreatDoor
open Go.RowKit

end Go.Proofs.YtlpabmcebpppfaaGreatDoor

namespace Go.Proofs.YtlpabmcebpppfaaGreatDoor
open Go.RowKit

/-- 'make([]T, n)', T of several cells. -/
theorem run_make_wide {P : Program} (t e : TypeId) (z : Value) (size bytes : Nat) (ht : P.underlying t = some (.slice e)) (hinfo : (P.info? e).map (fun i => (i.zero, i.size, i.bytes)) = some (some z, size, bytes))
    (kl kc : IntKind) (n : Nat) (hbytes : bytes * n ≤ 281474976710656) (h63 : n ≤ 9223372036854775807) (w : World) :
    (Instr.makeSlice t (.int kl (n : Int)) (.int kc (n : Int))).run P w = .ok (.slice (some ⟨w.heap.size, 0, none⟩) n n) (w.alloc (.cells (madeCells z.cells (n * size)) e)) := by
  obtain ⟨i, hi, hzz⟩ := Option.map_eq_some_iff.1 hinfo
  simp only [Prod.mk.injEq] at hzz
  obtain ⟨hz, hs, hb⟩ := hzz
  have hb' : (i.bytes : Int) * (n : Int) ≤ 281474976710656 := by
    have h : ((i.bytes * n : Nat) : Int) ≤ 281474976710656 := by rw [hb]; omega
    rwa [Int.natCast_mul] at h
  have hr := run_make (P := P) w t e i z ht hi hz kl kc n n (by omega) (Int.le_refl _) hb' (by omega)
  simp only [Int.toNat_natCast, hs] at hr
  exact hr

/-- A block of N cells that may be written. -/
structure Room (w : World) (c N : Nat) : Prop where
  lt : c < w.heap.size
  cell : ∀ o, o < N → ∃ v, w.cell? ⟨c, o, none⟩ = some v
  f : ∀ o, w.frozen? ⟨c, o, none⟩ = false

theorem Room.new (w : World) (z : Array Value) (N : Nat) (t : TypeId) : Room (w.alloc (.cells (madeCells z N) t)) w.heap.size N :=
  ⟨by simp, fun o ho => ⟨_, by simp [go_sem, madeCells, ho]; rfl⟩, fun o => by simp [go_sem]⟩

theorem Room.keep {w w' : World} {c N : Nat} (h : Room w c N) (s : w.Since w.heap.size w') : Room w' c N :=
  ⟨Nat.lt_of_lt_of_le h.lt s.size, fun o ho => by obtain ⟨v, hv⟩ := h.cell o ho; exact ⟨v, (s.cell (a := ⟨c, o, none⟩) h.lt).trans hv⟩, fun o => (s.frozen (a := ⟨c, o, none⟩) h.lt).trans (h.f o)⟩

theorem Room.set {w : World} {c N : Nat} (h : Room w c N) (q : Nat) (v : Value) : Room (w.setCell ⟨c, q, none⟩ v) c N := by
  have M : Marked w (w.setCell ⟨c, q, none⟩ v) c := (Marked.refl w c).setCell q v
  refine ⟨by rw [M.size]; exact h.lt, fun o ho => ?_, fun o => by rw [M.frozen]; exact h.f o⟩
  obtain ⟨u, hu⟩ := h.cell o ho
  by_cases e : o = q
  · subst e; exact ⟨v, World.cell?_setCell_same _ _ _ hu⟩
  · exact ⟨u, (World.cell?_setCell_other _ _ _ _ (fun h => e (congrArg Addr.off h).symm)).trans hu⟩

theorem cell_put {w : World} {c N : Nat} (h : Room w c N) {q : Nat} (hq : q < N) (v : Value) : (w.setCell ⟨c, q, none⟩ v).cell? ⟨c, q, none⟩ = some v := by
  obtain ⟨u, hu⟩ := h.cell q hq
  exact World.cell?_setCell_same _ _ _ hu

theorem cell_else (w : World) (c : Nat) {q o : Nat} (h : o ≠ q) (v : Value) : (w.setCell ⟨c, q, none⟩ v).cell? ⟨c, o, none⟩ = w.cell? ⟨c, o, none⟩ :=
  World.cell?_setCell_other _ _ _ _ (fun e => h (congrArg Addr.off e).symm)

/-- Three cells put down in a row. -/
theorem put3 {w : World} {c N q : Nat} (h : Room w c N) (hq : q + 2 < N) (x y z : Value) :
    ∃ w', w' = ((w.setCell ⟨c, q, none⟩ x).setCell ⟨c, q + 1, none⟩ y).setCell ⟨c, q + 2, none⟩ z ∧ Marked w w' c ∧ Room w' c N ∧ w'.cell? ⟨c, q, none⟩ = some x ∧ w'.cell? ⟨c, q + 1, none⟩ = some y ∧ w'.cell? ⟨c, q + 2, none⟩ = some z ∧
      ∀ o, o < q ∨ q + 2 < o → w'.cell? ⟨c, o, none⟩ = w.cell? ⟨c, o, none⟩ := by
  refine ⟨_, rfl, (((Marked.refl w c).setCell _ _).setCell _ _).setCell _ _, ((h.set _ _).set _ _).set _ _, ?_, ?_, ?_, fun o ho => ?_⟩
  · rw [cell_else _ _ (by omega), cell_else _ _ (by omega)]; exact cell_put h (by omega) x
  · rw [cell_else _ _ (by omega)]; exact cell_put (h.set _ _) (by omega) y
  · exact cell_put ((h.set _ _).set _ _) (by omega) z
  · rw [cell_else _ _ (by omega), cell_else _ _ (by omega), cell_else _ _ (by omega)]

/-- A list of Rats grows by one in its room. -/
theorem Rats.put {w w' : World} {c k : Nat} {R : Nat → RatD} {a1 a2 : Option Addr} {k1 k2 : Nat} (h : Rats w (c + 1) (some ⟨c, 0, none⟩) c 0 k R) (M : Marked w w' c) (hc : ∀ o, o < k * 3 → w'.cell? ⟨c, o, none⟩ = w.cell? ⟨c, o, none⟩)
    (L : RatL w (c + 1) (R k) a1 a2 k1 k2) (c0 : w'.cell? ⟨c, k * 3, none⟩ = some (.bool (R k).neg)) (c1 : w'.cell? ⟨c, k * 3 + 1, none⟩ = some (.slice a1 (R k).n k1)) (c2 : w'.cell? ⟨c, k * 3 + 2, none⟩ = some (.slice a2 (R k).m k2)) :
    Rats w' (c + 1) (some ⟨c, 0, none⟩) c 0 (k + 1) R := fun i hi => by
  refine ⟨rfl, ?_⟩
  by_cases e : i = k
  · subst e
    exact ⟨a1, a2, k1, k2, by rw [Nat.zero_add]; exact c0, by rw [Nat.zero_add]; exact c1, by rw [Nat.zero_add]; exact c2, L.marked M (by omega)⟩
  · obtain ⟨-, b1, b2, l1, l2, m⟩ := h i (by omega)
    exact ⟨b1, b2, l1, l2, (hc _ (by omega)).trans m.c0, (hc _ (by omega)).trans m.c1, (hc _ (by omega)).trans m.c2, m.L.marked M (by omega)⟩

theorem info_Rat : (Tryz.prog.info? 53).map (fun i => (i.zero, i.size, i.bytes)) = some (some (.agg #[.bool false, .slice none 0 0, .slice none 0 0]), 3, 56) := by kernel_rfl

end Go.Proofs.YtlpabmcebpppfaaGreatDoor

namespace Go.Proofs.YtlpabmcebpppfaaGreatDoor
open Go.RowKit

/-- A struct of six cells in a block of its own. -/
structure Box6 (w : World) (c : Nat) (x y z u v t : Value) : Prop where
  c0 : w.cell? ⟨c, 0, none⟩ = some x
  c1 : w.cell? ⟨c, 1, none⟩ = some y
  c2 : w.cell? ⟨c, 2, none⟩ = some z
  c3 : w.cell? ⟨c, 3, none⟩ = some u
  c4 : w.cell? ⟨c, 4, none⟩ = some v
  c5 : w.cell? ⟨c, 5, none⟩ = some t
  f : ∀ k, w.frozen? ⟨c, k, none⟩ = false

section
variable {w w' : World} {c d B : Nat} {x y z u v t : Value}
theorem Box6.lt (h : Box6 w c x y z u v t) : c < w.heap.size := World.block_lt_of_cell? _ _ h.c0
theorem Box6.new (w : World) (x y z u v t : Value) (T : TypeId) : Box6 (w.alloc (.cells #[x, y, z, u, v, t] T)) w.heap.size x y z u v t := ⟨by simp [go_sem], by simp [go_sem], by simp [go_sem], by simp [go_sem], by simp [go_sem], by simp [go_sem], fun k => by simp [go_sem]⟩
theorem Box6.since (h : Box6 w c x y z u v t) (s : w.Since B w') (hc : c < B) : Box6 w' c x y z u v t :=
  ⟨(s.cell (a := ⟨c, 0, none⟩) hc).trans h.c0, (s.cell (a := ⟨c, 1, none⟩) hc).trans h.c1, (s.cell (a := ⟨c, 2, none⟩) hc).trans h.c2, (s.cell (a := ⟨c, 3, none⟩) hc).trans h.c3, (s.cell (a := ⟨c, 4, none⟩) hc).trans h.c4, (s.cell (a := ⟨c, 5, none⟩) hc).trans h.c5, fun k => (s.frozen (a := ⟨c, k, none⟩) hc).trans (h.f k)⟩
theorem Box6.keep (h : Box6 w c x y z u v t) (s : w.Since w.heap.size w') : Box6 w' c x y z u v t := h.since s h.lt
theorem Box6.marked (h : Box6 w c x y z u v t) (s : Marked w w' d) (hc : c ≠ d) : Box6 w' c x y z u v t :=
  ⟨(s.cell (a := ⟨c, 0, none⟩) hc).trans h.c0, (s.cell (a := ⟨c, 1, none⟩) hc).trans h.c1, (s.cell (a := ⟨c, 2, none⟩) hc).trans h.c2, (s.cell (a := ⟨c, 3, none⟩) hc).trans h.c3, (s.cell (a := ⟨c, 4, none⟩) hc).trans h.c4, (s.cell (a := ⟨c, 5, none⟩) hc).trans h.c5, fun k => (s.frozenO (a := ⟨c, k, none⟩) hc).trans (h.f k)⟩
theorem Box6.set0 (h : Box6 w c x y z u v t) (q : Value) : Box6 (w.setCell ⟨c, 0, none⟩ q) c q y z u v t :=
  ⟨World.cell?_setCell_same _ _ _ h.c0, (World.cell?_setCell_other _ _ _ _ (by simp)).trans h.c1, (World.cell?_setCell_other _ _ _ _ (by simp)).trans h.c2, (World.cell?_setCell_other _ _ _ _ (by simp)).trans h.c3, (World.cell?_setCell_other _ _ _ _ (by simp)).trans h.c4, (World.cell?_setCell_other _ _ _ _ (by simp)).trans h.c5, fun k => by rw [((Marked.refl w c).setCell 0 q).frozen]; exact h.f k⟩
theorem Box6.set1 (h : Box6 w c x y z u v t) (q : Value) : Box6 (w.setCell ⟨c, 1, none⟩ q) c x q z u v t :=
  ⟨(World.cell?_setCell_other _ _ _ _ (by simp)).trans h.c0, World.cell?_setCell_same _ _ _ h.c1, (World.cell?_setCell_other _ _ _ _ (by simp)).trans h.c2, (World.cell?_setCell_other _ _ _ _ (by simp)).trans h.c3, (World.cell?_setCell_other _ _ _ _ (by simp)).trans h.c4, (World.cell?_setCell_other _ _ _ _ (by simp)).trans h.c5, fun k => by rw [((Marked.refl w c).setCell 1 q).frozen]; exact h.f k⟩
theorem Box6.set2 (h : Box6 w c x y z u v t) (q : Value) : Box6 (w.setCell ⟨c, 2, none⟩ q) c x y q u v t :=
  ⟨(World.cell?_setCell_other _ _ _ _ (by simp)).trans h.c0, (World.cell?_setCell_other _ _ _ _ (by simp)).trans h.c1, World.cell?_setCell_same _ _ _ h.c2, (World.cell?_setCell_other _ _ _ _ (by simp)).trans h.c3, (World.cell?_setCell_other _ _ _ _ (by simp)).trans h.c4, (World.cell?_setCell_other _ _ _ _ (by simp)).trans h.c5, fun k => by rw [((Marked.refl w c).setCell 2 q).frozen]; exact h.f k⟩
theorem Box6.set3 (h : Box6 w c x y z u v t) (q : Value) : Box6 (w.setCell ⟨c, 3, none⟩ q) c x y z q v t :=
  ⟨(World.cell?_setCell_other _ _ _ _ (by simp)).trans h.c0, (World.cell?_setCell_other _ _ _ _ (by simp)).trans h.c1, (World.cell?_setCell_other _ _ _ _ (by simp)).trans h.c2, World.cell?_setCell_same _ _ _ h.c3, (World.cell?_setCell_other _ _ _ _ (by simp)).trans h.c4, (World.cell?_setCell_other _ _ _ _ (by simp)).trans h.c5, fun k => by rw [((Marked.refl w c).setCell 3 q).frozen]; exact h.f k⟩
theorem Box6.set4 (h : Box6 w c x y z u v t) (q : Value) : Box6 (w.setCell ⟨c, 4, none⟩ q) c x y z u q t :=
  ⟨(World.cell?_setCell_other _ _ _ _ (by simp)).trans h.c0, (World.cell?_setCell_other _ _ _ _ (by simp)).trans h.c1, (World.cell?_setCell_other _ _ _ _ (by simp)).trans h.c2, (World.cell?_setCell_other _ _ _ _ (by simp)).trans h.c3, World.cell?_setCell_same _ _ _ h.c4, (World.cell?_setCell_other _ _ _ _ (by simp)).trans h.c5, fun k => by rw [((Marked.refl w c).setCell 4 q).frozen]; exact h.f k⟩
theorem Box6.set5 (h : Box6 w c x y z u v t) (q : Value) : Box6 (w.setCell ⟨c, 5, none⟩ q) c x y z u v q :=
  ⟨(World.cell?_setCell_other _ _ _ _ (by simp)).trans h.c0, (World.cell?_setCell_other _ _ _ _ (by simp)).trans h.c1, (World.cell?_setCell_other _ _ _ _ (by simp)).trans h.c2, (World.cell?_setCell_other _ _ _ _ (by simp)).trans h.c3, (World.cell?_setCell_other _ _ _ _ (by simp)).trans h.c4, World.cell?_setCell_same _ _ _ h.c5, fun k => by rw [((Marked.refl w c).setCell 5 q).frozen]; exact h.f k⟩
end

/-- A struct answer of six cells that lies in a box. -/
theorem results_box6T {fn : Func} {p : Tmp} {T : TypeId} {d : TypeDesc} (h : fn.results = #[.cell p T]) (hu : Tryz.prog.underlying T = some d) (hd : d.isRow = true) (hi : (Tryz.prog.info? T).map (·.size) = some 6) (tmps : Array Value) (w : World) (c : Nat) (x y z u v t : Value)
    (hp : tmps.getD p undef = .pointer (some ⟨c, 0, none⟩)) (B : Box6 w c x y z u v t) : (results fn tmps).run Tryz.prog w = .ok (.agg #[x, y, z, u, v, t]) w := by
  have hp' : tmps[p]?.getD undef = .pointer (some ⟨c, 0, none⟩) := by simpa using hp
  have hl := run_loadVar_mid (P := Tryz.prog) w c 0 T [x, y, z, u, v, t] d (fun j q hv => by
    rcases j with _ | _ | _ | _ | _ | _ | j
    · simp at hv; subst hv; exact B.c0
    · simp at hv; subst hv; exact B.c1
    · simp at hv; subst hv; exact B.c2
    · simp at hv; subst hv; exact B.c3
    · simp at hv; subst hv; exact B.c4
    · simp at hv; subst hv; exact B.c5
    · simp at hv) hu hd hi
  simp [results, h, hp', asAddr, hl]

/-- Six cells put down in a row. -/
theorem put6 {w : World} {c N q : Nat} (h : Room w c N) (hq : q + 5 < N) (x y z u v t : Value) :
    ∃ w', w' = (((((w.setCell ⟨c, q, none⟩ x).setCell ⟨c, q + 1, none⟩ y).setCell ⟨c, q + 2, none⟩ z).setCell ⟨c, q + 3, none⟩ u).setCell ⟨c, q + 4, none⟩ v).setCell ⟨c, q + 5, none⟩ t ∧ Marked w w' c ∧ Room w' c N ∧ w'.cell? ⟨c, q, none⟩ = some x ∧ w'.cell? ⟨c, q + 1, none⟩ = some y ∧ w'.cell? ⟨c, q + 2, none⟩ = some z ∧ w'.cell? ⟨c, q + 3, none⟩ = some u ∧ w'.cell? ⟨c, q + 4, none⟩ = some v ∧ w'.cell? ⟨c, q + 5, none⟩ = some t ∧
      ∀ o, o < q ∨ q + 5 < o → w'.cell? ⟨c, o, none⟩ = w.cell? ⟨c, o, none⟩ := by
  refine ⟨_, rfl, ((((((Marked.refl w c).setCell _ _).setCell _ _).setCell _ _).setCell _ _).setCell _ _).setCell _ _, (((((h.set _ _).set _ _).set _ _).set _ _).set _ _).set _ _, ?_, ?_, ?_, ?_, ?_, ?_, fun o ho => ?_⟩
  · rw [cell_else _ _ (by omega), cell_else _ _ (by omega), cell_else _ _ (by omega), cell_else _ _ (by omega), cell_else _ _ (by omega)]; exact cell_put h (by omega) x
  · rw [cell_else _ _ (by omega), cell_else _ _ (by omega), cell_else _ _ (by omega), cell_else _ _ (by omega)]; exact cell_put (h.set _ _) (by omega) y
  · rw [cell_else _ _ (by omega), cell_else _ _ (by omega), cell_else _ _ (by omega)]; exact cell_put ((h.set _ _).set _ _) (by omega) z
  · rw [cell_else _ _ (by omega), cell_else _ _ (by omega)]; exact cell_put (((h.set _ _).set _ _).set _ _) (by omega) u
  · rw [cell_else _ _ (by omega)]; exact cell_put ((((h.set _ _).set _ _).set _ _).set _ _) (by omega) v
  · exact cell_put (((((h.set _ _).set _ _).set _ _).set _ _).set _ _) (by omega) t
  · rw [cell_else _ _ (by omega), cell_else _ _ (by omega), cell_else _ _ (by omega), cell_else _ _ (by omega), cell_else _ _ (by omega), cell_else _ _ (by omega)]

/-- What a node holds. -/
structure NodeD where
  op : Int
  a : Int
  b : Int
  k : Int
  s : Int
  nv : Nat
  V : Nat → RatD

def NodeD.nul : NodeD := ⟨0, 0, 0, 0, 0, 0, fun _ => RatD.nul⟩

def NodeD.size (d : NodeD) : Nat := d.nv + szR d.V d.nv

def I64 (z : Int) : Prop := -9223372036854775808 ≤ z ∧ z ≤ 9223372036854775807

/-- A slice that holds a node's numbers, in blocks from lo on. -/
structure NodL (w : World) (lo : Nat) (d : NodeD) (a : Option Addr) (ca : Nat) : Prop where
  nc : d.nv ≤ ca
  LV : ∃ ba oa, (0 < d.nv → lo ≤ ba) ∧ Rats w lo a ba oa d.nv d.V
  iop : I64 d.op
  ia : I64 d.a
  ib : I64 d.b
  ik : I64 d.k
  is : I64 d.s
  n63 : d.nv ≤ 9223372036854775807

section
variable {w w' : World} {lo lo' b off n c : Nat} {d : NodeD} {a a1 : Option Addr} {k1 : Nat} {A : Nat → NodeD}

theorem NodL.keep (h : NodL w lo d a1 k1) (s : w.Since w.heap.size w') : NodL w' lo d a1 k1 := by
  obtain ⟨ba, oa, l1, LV⟩ := h.LV
  exact ⟨h.nc, ⟨ba, oa, l1, LV.keep s⟩, h.iop, h.ia, h.ib, h.ik, h.is, h.n63⟩
theorem NodL.down (h : NodL w lo d a1 k1) (hl : lo' ≤ lo) : NodL w lo' d a1 k1 := by
  obtain ⟨ba, oa, l1, LV⟩ := h.LV
  exact ⟨h.nc, ⟨ba, oa, fun h => Nat.le_trans hl (l1 h), LV.down hl⟩, h.iop, h.ia, h.ib, h.ik, h.is, h.n63⟩
theorem NodL.marked (h : NodL w lo d a1 k1) (s : Marked w w' c) (hc : c < lo) : NodL w' lo d a1 k1 := by
  obtain ⟨ba, oa, l1, LV⟩ := h.LV
  exact ⟨h.nc, ⟨ba, oa, l1, LV.marked s hc (fun h => by have := l1 h; omega)⟩, h.iop, h.ia, h.ib, h.ik, h.is, h.n63⟩

/-- A node that lies in memory. -/
structure NodM (w : World) (lo b off : Nat) (d : NodeD) (a1 : Option Addr) (k1 : Nat) : Prop where
  c0 : w.cell? ⟨b, off, none⟩ = some (.int .i64 d.op)
  c1 : w.cell? ⟨b, off + 1, none⟩ = some (.int .i64 d.a)
  c2 : w.cell? ⟨b, off + 2, none⟩ = some (.int .i64 d.b)
  c3 : w.cell? ⟨b, off + 3, none⟩ = some (.int .i64 d.k)
  c4 : w.cell? ⟨b, off + 4, none⟩ = some (.int .i64 d.s)
  c5 : w.cell? ⟨b, off + 5, none⟩ = some (.slice a1 d.nv k1)
  L : NodL w lo d a1 k1

theorem NodM.lt (h : NodM w lo b off d a1 k1) : b < w.heap.size := World.block_lt_of_cell? _ _ h.c0
theorem NodM.keep (h : NodM w lo b off d a1 k1) (s : w.Since w.heap.size w') : NodM w' lo b off d a1 k1 :=
  ⟨(s.cell (a := ⟨b, off, none⟩) h.lt).trans h.c0, (s.cell (a := ⟨b, off + 1, none⟩) h.lt).trans h.c1, (s.cell (a := ⟨b, off + 2, none⟩) h.lt).trans h.c2, (s.cell (a := ⟨b, off + 3, none⟩) h.lt).trans h.c3, (s.cell (a := ⟨b, off + 4, none⟩) h.lt).trans h.c4, (s.cell (a := ⟨b, off + 5, none⟩) h.lt).trans h.c5, h.L.keep s⟩
theorem NodM.down (h : NodM w lo b off d a1 k1) (hl : lo' ≤ lo) : NodM w lo' b off d a1 k1 := ⟨h.c0, h.c1, h.c2, h.c3, h.c4, h.c5, h.L.down hl⟩
theorem NodM.marked (h : NodM w lo b off d a1 k1) (s : Marked w w' c) (hc : c < lo) (hb : b ≠ c) : NodM w' lo b off d a1 k1 :=
  ⟨(s.cell (a := ⟨b, off, none⟩) hb).trans h.c0, (s.cell (a := ⟨b, off + 1, none⟩) hb).trans h.c1, (s.cell (a := ⟨b, off + 2, none⟩) hb).trans h.c2, (s.cell (a := ⟨b, off + 3, none⟩) hb).trans h.c3, (s.cell (a := ⟨b, off + 4, none⟩) hb).trans h.c4, (s.cell (a := ⟨b, off + 5, none⟩) hb).trans h.c5, h.L.marked s hc⟩

/-- A slice of nodes. -/
def Nods (w : World) (lo : Nat) (a : Option Addr) (b off n : Nat) (A : Nat → NodeD) : Prop :=
  ∀ i, i < n → a = some ⟨b, off, none⟩ ∧ ∃ a1 k1, NodM w lo b (off + i * 6) (A i) a1 k1

theorem Nods.keep (h : Nods w lo a b off n A) (s : w.Since w.heap.size w') : Nods w' lo a b off n A := fun i hi => by
  obtain ⟨h1, a1, k1, h2⟩ := h i hi
  exact ⟨h1, a1, k1, h2.keep s⟩
theorem Nods.down (h : Nods w lo a b off n A) (hl : lo' ≤ lo) : Nods w lo' a b off n A := fun i hi => by
  obtain ⟨h1, a1, k1, h2⟩ := h i hi
  exact ⟨h1, a1, k1, h2.down hl⟩
theorem Nods.marked (h : Nods w lo a b off n A) (s : Marked w w' c) (hc : c < lo) (hb : 0 < n → b ≠ c) : Nods w' lo a b off n A := fun i hi => by
  obtain ⟨h1, a1, k1, h2⟩ := h i hi
  exact ⟨h1, a1, k1, h2.marked s hc (hb (by omega))⟩

/-- A list of nodes grows by one in its room. -/
theorem Nods.put {k : Nat} (h : Nods w (c + 1) (some ⟨c, 0, none⟩) c 0 k A) (M : Marked w w' c) (hc : ∀ o, o < k * 6 → w'.cell? ⟨c, o, none⟩ = w.cell? ⟨c, o, none⟩)
    (L : NodL w (c + 1) (A k) a1 k1) (c0 : w'.cell? ⟨c, k * 6, none⟩ = some (.int .i64 (A k).op)) (c1 : w'.cell? ⟨c, k * 6 + 1, none⟩ = some (.int .i64 (A k).a)) (c2 : w'.cell? ⟨c, k * 6 + 2, none⟩ = some (.int .i64 (A k).b))
    (c3 : w'.cell? ⟨c, k * 6 + 3, none⟩ = some (.int .i64 (A k).k)) (c4 : w'.cell? ⟨c, k * 6 + 4, none⟩ = some (.int .i64 (A k).s)) (c5 : w'.cell? ⟨c, k * 6 + 5, none⟩ = some (.slice a1 (A k).nv k1)) :
    Nods w' (c + 1) (some ⟨c, 0, none⟩) c 0 (k + 1) A := fun i hi => by
  refine ⟨rfl, ?_⟩
  by_cases e : i = k
  · subst e
    exact ⟨a1, k1, by rw [Nat.zero_add]; exact c0, by rw [Nat.zero_add]; exact c1, by rw [Nat.zero_add]; exact c2, by rw [Nat.zero_add]; exact c3, by rw [Nat.zero_add]; exact c4, by rw [Nat.zero_add]; exact c5, L.marked M (by omega)⟩
  · obtain ⟨-, b1, l1, m⟩ := h i (by omega)
    exact ⟨b1, l1, (hc _ (by omega)).trans m.c0, (hc _ (by omega)).trans m.c1, (hc _ (by omega)).trans m.c2, (hc _ (by omega)).trans m.c3, (hc _ (by omega)).trans m.c4, (hc _ (by omega)).trans m.c5, m.L.marked M (by omega)⟩
end

/-- How much a list of nodes counts. -/
def szN (A : Nat → NodeD) : Nat → Nat
  | 0 => 0
  | n + 1 => szN A n + (A n).size

theorem szN_succ (A : Nat → NodeD) (n : Nat) : szN A (n + 1) = szN A n + (A n).size := rfl

theorem szN_mono {A : Nat → NodeD} {k n : Nat} (h : k ≤ n) : szN A k ≤ szN A n := by
  induction n with
  | zero => simp at h; subst h; exact Nat.le_refl _
  | succ n ih =>
    rcases Nat.lt_or_ge n k with h1 | h1
    · have : k = n + 1 := by omega
      subst this; exact Nat.le_refl _
    · have := ih h1
      rw [szN_succ]
      omega

theorem szN_at {A : Nat → NodeD} {k n : Nat} (h : k < n) : (A k).size ≤ szN A n := by
  have := szN_mono (A := A) (show k + 1 ≤ n from h)
  rw [szN_succ] at this
  omega

/-- What a graph holds. -/
structure GraphD where
  inn : Int
  rounds : Int
  nl : Nat
  Lo : Nat → RatD
  nh : Nat
  Hi : Nat → RatD
  nn : Nat
  N : Nat → NodeD
  out : Int

def GraphD.size (g : GraphD) : Nat := (g.nl + szR g.Lo g.nl) + (g.nh + szR g.Hi g.nh) + (g.nn + szN g.N g.nn)

/-- Three slices that hold a graph's lists, in blocks from lo on. -/
structure GraL (w : World) (lo : Nat) (g : GraphD) (aL aH aN : Option Addr) (kL kH kN : Nat) : Prop where
  lc : g.nl ≤ kL
  hc : g.nh ≤ kH
  nc : g.nn ≤ kN
  LL : ∃ b o, (0 < g.nl → lo ≤ b) ∧ Rats w lo aL b o g.nl g.Lo
  LH : ∃ b o, (0 < g.nh → lo ≤ b) ∧ Rats w lo aH b o g.nh g.Hi
  LN : ∃ b o, (0 < g.nn → lo ≤ b) ∧ Nods w lo aN b o g.nn g.N
  ii : I64 g.inn
  ir : I64 g.rounds
  io : I64 g.out
  l63 : g.nl ≤ 9223372036854775807
  h63 : g.nh ≤ 9223372036854775807
  n63 : g.nn ≤ 9223372036854775807

section
variable {w w' : World} {lo lo' c : Nat} {g : GraphD} {aL aH aN : Option Addr} {kL kH kN : Nat}
theorem GraL.keep (h : GraL w lo g aL aH aN kL kH kN) (s : w.Since w.heap.size w') : GraL w' lo g aL aH aN kL kH kN := by
  obtain ⟨b1, o1, l1, L1⟩ := h.LL
  obtain ⟨b2, o2, l2, L2⟩ := h.LH
  obtain ⟨b3, o3, l3, L3⟩ := h.LN
  exact ⟨h.lc, h.hc, h.nc, ⟨b1, o1, l1, L1.keep s⟩, ⟨b2, o2, l2, L2.keep s⟩, ⟨b3, o3, l3, L3.keep s⟩, h.ii, h.ir, h.io, h.l63, h.h63, h.n63⟩
end

end Go.Proofs.YtlpabmcebpppfaaGreatDoor

namespace Go.Proofs.YtlpabmcebpppfaaGreatDoor
open Go.RowKit

end Go.Proofs.YtlpabmcebpppfaaGreatDoor

namespace Go.Proofs.YtlpabmcebpppfaaGreatDoor
open Go.RowKit

/-- The sign and the numerator of a sum. -/
def sumNeg (f f' : Bool) (x y : Nat) : Bool := if f = f' then f else if x < y then f' else f
def sumTop (f f' : Bool) (x y : Nat) : Nat := if f = f' then x + y else if x < y then y - x else x - y

end Go.Proofs.YtlpabmcebpppfaaGreatDoor

namespace Go.Proofs.YtlpabmcebpppfaaGreatDoor
open Go.RowKit

end Go.Proofs.YtlpabmcebpppfaaGreatDoor

namespace Go.Proofs.YtlpabmcebpppfaaGreatDoor
open Go.RowKit

set_option maxHeartbeats 1600000 in
set_option maxRecDepth 100000 in
/-- (*fraction).compare at differing signs. -/
theorem fracCmp_sign (c : Nat) (f f' : Bool) (a b a' b' : Option Addr) (n ca m cb n' ca' m' cb' : Nat) (w : World) (B : Box4 w c (.bool f) (.slice a n ca) (.slice b m cb) (.slice none 0 0)) (hne : f ≠ f') :
    Calls Tryz.prog 106 #[.pointer (some ⟨c, 0, none⟩), .agg #[.bool f', .slice a' n' ca', .slice b' m' cb', .slice none 0 0]] w fun e w' => e = .returned (.int .i64 (if f then -1 else 1)) ∧ w.Since w.heap.size w' := by
  have sA : w.Since w.heap.size (w.alloc (.cells #[.bool f', .slice a' n' ca', .slice b' m' cb', .slice none 0 0] 168)) := (World.Since.refl _ _).alloc (Nat.le_refl _) _
  have BA := B.keep sA
  have gA := Box4.new w (.bool f') (.slice a' n' ca') (.slice b' m' cb') (.slice none 0 0) 168
  have k0 := BA.c0
  have g0 := gA.c0
  cases f <;> cases f'
  · exact absurd rfl hne
  · go_enter Tryz.func106, Tryz.ntmps106
    go_wp2
    go_quiet (fail)
    go_wp2
    go_ret
    exact ⟨rfl, ⟨sA.os, sA.tape, sA.output, sA.size, sA.block⟩⟩
  · go_enter Tryz.func106, Tryz.ntmps106
    go_wp2
    go_quiet (fail)
    go_wp2
    go_ret
    exact ⟨rfl, ⟨sA.os, sA.tape, sA.output, sA.size, sA.block⟩⟩
  · exact absurd rfl hne

end Go.Proofs.YtlpabmcebpppfaaGreatDoor

namespace Go.Proofs.YtlpabmcebpppfaaGreatDoor
open Go.RowKit

set_option maxHeartbeats 1600000 in
set_option maxRecDepth 100000 in
/-- (*fraction).compare at like signs. -/
theorem fracCmp_same (c : Nat) (f : Bool) (a b a' b' : Option Addr) (ba oa n ca bb ob m cb ba' oa' n' ca' bb' ob' m' cb' : Nat) (X Y X' Y' : Nat → Nat) (w : World) (hn : n + n' + m + m' ≤ 16777216)
    (hX : Limbs w a ba oa n X) (hY : Limbs w b bb ob m Y) (hX' : Limbs w a' ba' oa' n' X') (hY' : Limbs w b' bb' ob' m' Y') (hXl : ∀ j, j < n → X j < 4294967296) (hYl : ∀ j, j < m → Y j < 4294967296) (hXl' : ∀ j, j < n' → X' j < 4294967296) (hYl' : ∀ j, j < m' → Y' j < 4294967296)
    (B : Box4 w c (.bool f) (.slice a n ca) (.slice b m cb) (.slice none 0 0)) :
    Calls Tryz.prog 106 #[.pointer (some ⟨c, 0, none⟩), .agg #[.bool f, .slice a' n' ca', .slice b' m' cb', .slice none 0 0]] w fun e w' => e = .returned (.int .i64 (if f then cmpN (lv X' n' * lv Y m) (lv X n * lv Y' m') else cmpN (lv X n * lv Y' m') (lv X' n' * lv Y m))) ∧ w.Since w.heap.size w' := by
  have sA : w.Since w.heap.size (w.alloc (.cells #[.bool f, .slice a' n' ca', .slice b' m' cb', .slice none 0 0] 168)) := (World.Since.refl _ _).alloc (Nat.le_refl _) _
  have BA := B.keep sA
  have gA := Box4.new w (.bool f) (.slice a' n' ca') (.slice b' m' cb') (.slice none 0 0) 168
  have hcl := B.lt
  have zA : (w.alloc (.cells #[.bool f, .slice a' n' ca', .slice b' m' cb', .slice none 0 0] 168)).heap.size = w.heap.size + 1 := by simp
  have k0 := BA.c0
  have k1 := BA.c1
  have g0 := gA.c0
  have g1 := gA.c1
  go_enter Tryz.func106, Tryz.ntmps106
  go_wp2
  go_quiet (fail)
  go_wp2
  have S1 : w.Since w.heap.size ((w.alloc (.cells #[.bool f, .slice a' n' ca', .slice b' m' cb', .slice none 0 0] 168)).drewN nq) := ⟨sA.os, sA.tape, sA.output, sA.size, sA.block⟩
  have B1 : Box4 ((w.alloc (.cells #[.bool f, .slice a' n' ca', .slice b' m' cb', .slice none 0 0] 168)).drewN nq) c (.bool f) (.slice a n ca) (.slice b m cb) (.slice none 0 0) := ⟨BA.c0, BA.c1, BA.c2, BA.c3, BA.f⟩
  have G1 : Box4 ((w.alloc (.cells #[.bool f, .slice a' n' ca', .slice b' m' cb', .slice none 0 0] 168)).drewN nq) w.heap.size (.bool f) (.slice a' n' ca') (.slice b' m' cb') (.slice none 0 0) := ⟨gA.c0, gA.c1, gA.c2, gA.c3, gA.f⟩
  have zl : w.heap.size + 1 ≤ ((w.alloc (.cells #[.bool f, .slice a' n' ca', .slice b' m' cb', .slice none 0 0] 168)).drewN nq).heap.size := Nat.le_of_eq zA.symm
  clear sA BA gA zA k0 k1 g0 g1
  generalize (w.alloc (.cells #[.bool f, .slice a' n' ca', .slice b' m' cb', .slice none 0 0] 168)).drewN nq = w1 at *
  have n1 : w1.heap.size ≠ c := by omega
  have n2 : w1.heap.size ≠ w.heap.size := by omega
  have n3 : w1.heap.size + 1 ≠ c := by omega
  have n4 : w1.heap.size + 1 ≠ w.heap.size := by omega
  have kk := And.intro B1.c1 G1.c1
  have tZ : (w1.drew.alloc (.cells #[.slice none 0 0] 112)).Since (w1.drew.alloc (.cells #[.slice none 0 0] 112)).heap.size ((w1.drew.alloc (.cells #[.slice none 0 0] 112)).alloc (.cells #[.slice none 0 0] 112)) := (World.Since.refl _ _).alloc (Nat.le_refl _) _
  have a1 : ((w1.drew.alloc (.cells #[.slice none 0 0] 112)).alloc (.cells #[.slice none 0 0] 112)).cell? ⟨w1.heap.size, 0, none⟩ = some (.slice none 0 0) := by rw [tZ.cell (a := ⟨w1.heap.size, 0, none⟩) (by show w1.drew.heap.size < _; simp)]; exact World.cell?_alloc_new w1.drew _ _ 0
  clear tZ
  go_region_held3 (fun w' => w'.cell? ⟨c, 1, none⟩ = some (.slice a n ca) ∧ w'.cell? ⟨w.heap.size, 1, none⟩ = some (.slice a' n' ca')) (go_keep) (fail)
  all_goals
    first
    | (with_reducible show Exit.then _ _ Exit.normal _ ((w1.alloc (.cells #[.slice a n ca] 112)).alloc (.cells #[.slice a' n' ca'] 112)).drew
       have tV : w1.Since w1.heap.size (w1.alloc (.cells #[.slice a n ca] 112)) := (World.Since.refl _ _).alloc (Nat.le_refl _) _
       have tW : (w1.alloc (.cells #[.slice a n ca] 112)).Since (w1.alloc (.cells #[.slice a n ca] 112)).heap.size ((w1.alloc (.cells #[.slice a n ca] 112)).alloc (.cells #[.slice a' n' ca'] 112)) := (World.Since.refl _ _).alloc (Nat.le_refl _) _
       have tt : w1.Since w1.heap.size ((w1.alloc (.cells #[.slice a n ca] 112)).alloc (.cells #[.slice a' n' ca'] 112)).drew := since_drew (tV.trans (sinceMono tW tV.size))
       have zV : (w1.alloc (.cells #[.slice a n ca] 112)).heap.size = w1.heap.size + 1 := by simp
       have zW : ((w1.alloc (.cells #[.slice a n ca] 112)).alloc (.cells #[.slice a' n' ca'] 112)).drew.heap.size = w1.heap.size + 2 := by show ((w1.alloc (.cells #[.slice a n ca] 112)).alloc (.cells #[.slice a' n' ca'] 112)).heap.size = _; simp
       have ql : ((w1.alloc (.cells #[.slice a n ca] 112)).alloc (.cells #[.slice a' n' ca'] 112)).drew.cell? ⟨w1.heap.size, 0, none⟩ = some (.slice a n ca) := (tW.cell (a := ⟨w1.heap.size, 0, none⟩) (by show w1.heap.size < _; omega)).trans (World.cell?_alloc_new w1 _ _ 0)
       have fl : ((w1.alloc (.cells #[.slice a n ca] 112)).alloc (.cells #[.slice a' n' ca'] 112)).drew.frozen? ⟨w1.heap.size, 0, none⟩ = false := (tW.frozen (a := ⟨w1.heap.size, 0, none⟩) (by show w1.heap.size < _; omega)).trans (by simp)
       have qr : ((w1.alloc (.cells #[.slice a n ca] 112)).alloc (.cells #[.slice a' n' ca'] 112)).drew.cell? ⟨w1.heap.size + 1, 0, none⟩ = some (.slice a' n' ca') := by have := World.cell?_alloc_new (w1.alloc (.cells #[.slice a n ca] 112)) #[.slice a' n' ca'] 112 0; rw [zV] at this; exact this
       have fr : ((w1.alloc (.cells #[.slice a n ca] 112)).alloc (.cells #[.slice a' n' ca'] 112)).drew.frozen? ⟨w1.heap.size + 1, 0, none⟩ = false := by have h9 : ((w1.alloc (.cells #[.slice a n ca] 112)).alloc (.cells #[.slice a' n' ca'] 112)).frozen? ⟨(w1.alloc (.cells #[.slice a n ca] 112)).heap.size, 0, none⟩ = false := (by simp); rw [zV] at h9; exact h9
       have S2 := S1.trans (sinceMono tt S1.size)
       have B2 := B1.keep tt
       have G2 := G1.keep tt
       obtain ⟨L, hL⟩ : ∃ L, L = w1.heap.size := ⟨_, rfl⟩
       obtain ⟨R, hR⟩ : ∃ R, R = w1.heap.size + 1 := ⟨_, rfl⟩
       have hLR : L ≠ R ∧ w.heap.size < L ∧ w.heap.size < R ∧ L < ((w1.alloc (.cells #[.slice a n ca] 112)).alloc (.cells #[.slice a' n' ca'] 112)).drew.heap.size ∧ R < ((w1.alloc (.cells #[.slice a n ca] 112)).alloc (.cells #[.slice a' n' ca'] 112)).drew.heap.size := by omega
       rw [← hR, ← hL]
       rw [← hL] at ql fl
       rw [← hR] at qr fr
       clear tV tW tt zV zW
       generalize ((w1.alloc (.cells #[.slice a n ca] 112)).alloc (.cells #[.slice a' n' ca'] 112)).drew = w2 at *)
    | (with_reducible show Exit.then _ _ Exit.normal _ ((w1.alloc (.cells #[.slice a' n' ca'] 112)).alloc (.cells #[.slice a n ca] 112)).drew
       have tV : w1.Since w1.heap.size (w1.alloc (.cells #[.slice a' n' ca'] 112)) := (World.Since.refl _ _).alloc (Nat.le_refl _) _
       have tW : (w1.alloc (.cells #[.slice a' n' ca'] 112)).Since (w1.alloc (.cells #[.slice a' n' ca'] 112)).heap.size ((w1.alloc (.cells #[.slice a' n' ca'] 112)).alloc (.cells #[.slice a n ca] 112)) := (World.Since.refl _ _).alloc (Nat.le_refl _) _
       have tt : w1.Since w1.heap.size ((w1.alloc (.cells #[.slice a' n' ca'] 112)).alloc (.cells #[.slice a n ca] 112)).drew := since_drew (tV.trans (sinceMono tW tV.size))
       have zV : (w1.alloc (.cells #[.slice a' n' ca'] 112)).heap.size = w1.heap.size + 1 := by simp
       have zW : ((w1.alloc (.cells #[.slice a' n' ca'] 112)).alloc (.cells #[.slice a n ca] 112)).drew.heap.size = w1.heap.size + 2 := by show ((w1.alloc (.cells #[.slice a' n' ca'] 112)).alloc (.cells #[.slice a n ca] 112)).heap.size = _; simp
       have qr : ((w1.alloc (.cells #[.slice a' n' ca'] 112)).alloc (.cells #[.slice a n ca] 112)).drew.cell? ⟨w1.heap.size, 0, none⟩ = some (.slice a' n' ca') := (tW.cell (a := ⟨w1.heap.size, 0, none⟩) (by show w1.heap.size < _; omega)).trans (World.cell?_alloc_new w1 _ _ 0)
       have fr : ((w1.alloc (.cells #[.slice a' n' ca'] 112)).alloc (.cells #[.slice a n ca] 112)).drew.frozen? ⟨w1.heap.size, 0, none⟩ = false := (tW.frozen (a := ⟨w1.heap.size, 0, none⟩) (by show w1.heap.size < _; omega)).trans (by simp)
       have ql : ((w1.alloc (.cells #[.slice a' n' ca'] 112)).alloc (.cells #[.slice a n ca] 112)).drew.cell? ⟨w1.heap.size + 1, 0, none⟩ = some (.slice a n ca) := by have := World.cell?_alloc_new (w1.alloc (.cells #[.slice a' n' ca'] 112)) #[.slice a n ca] 112 0; rw [zV] at this; exact this
       have fl : ((w1.alloc (.cells #[.slice a' n' ca'] 112)).alloc (.cells #[.slice a n ca] 112)).drew.frozen? ⟨w1.heap.size + 1, 0, none⟩ = false := by have h9 : ((w1.alloc (.cells #[.slice a' n' ca'] 112)).alloc (.cells #[.slice a n ca] 112)).frozen? ⟨(w1.alloc (.cells #[.slice a' n' ca'] 112)).heap.size, 0, none⟩ = false := (by simp); rw [zV] at h9; exact h9
       have S2 := S1.trans (sinceMono tt S1.size)
       have B2 := B1.keep tt
       have G2 := G1.keep tt
       obtain ⟨L, hL⟩ : ∃ L, L = w1.heap.size + 1 := ⟨_, rfl⟩
       obtain ⟨R, hR⟩ : ∃ R, R = w1.heap.size := ⟨_, rfl⟩
       have hLR : L ≠ R ∧ w.heap.size < L ∧ w.heap.size < R ∧ L < ((w1.alloc (.cells #[.slice a' n' ca'] 112)).alloc (.cells #[.slice a n ca] 112)).drew.heap.size ∧ R < ((w1.alloc (.cells #[.slice a' n' ca'] 112)).alloc (.cells #[.slice a n ca] 112)).drew.heap.size := by omega
       rw [← hL, ← hR]
       rw [← hL] at ql fl
       rw [← hR] at qr fr
       clear tV tW tt zV zW
       generalize ((w1.alloc (.cells #[.slice a' n' ca'] 112)).alloc (.cells #[.slice a n ca] 112)).drew = w2 at *)
  all_goals
    obtain ⟨hLR, hwL, hwR, hL2, hR2⟩ := hLR
    clear hL hR a1 n1 n2 n3 n4 kk zl S1 B1 G1
    have k2 := G2.c2
    go_wp2_with fail
    refine (mulAtR L a b' ba oa n ca bb' ob' m' cb' X Y' w2 (by omega) (by omega) (hX.keep S2) (hY'.keep S2) hXl hYl' ql fl).mono ?_
    rintro e w3 ⟨rfl, P, q3, f3, r3, hP, eP, O3, z3⟩
    have O03 : Oth w.heap.size w w3 := (Oth.ofSince _ S2).up O3 (by omega)
    have S3 : w.Since w.heap.size w3 := O03.since (Nat.le_refl _)
    have B3 := B2.oth O3 (by omega)
    have q4 : w3.cell? ⟨R, 0, none⟩ = some (.slice a' n' ca') := (O3.cell (a := ⟨R, 0, none⟩) hR2 (Ne.symm hLR)).trans qr
    have f4 : w3.frozen? ⟨R, 0, none⟩ = false := (O3.frozen (a := ⟨R, 0, none⟩) hR2 (Ne.symm hLR)).trans fr
    clear k2 G2 ql fl qr fr O03
    have k2 := B3.c2
    go_wp2_with fail
    refine (mulAtR R a' b ba' oa' n' ca' bb ob m cb X' Y w3 (by omega) (by omega) (hX'.keep S3) (hY.keep S3) hXl' hYl q4 f4).mono ?_
    rintro e w4 ⟨rfl, Q, q5, f5, r5, hQ, eQ, O4, z4⟩
    have hs3 := O3.size
    have O04 : Oth w.heap.size w w4 := (Oth.ofSince _ S3).up O4 (by omega)
    have S4 : w.Since w.heap.size w4 := O04.since (Nat.le_refl _)
    have B4 := B3.oth O4 (by omega)
    have q6 : w4.cell? ⟨L, 0, none⟩ = _ := (O4.cell (a := ⟨L, 0, none⟩) (show L < _ by omega) hLR).trans q3
    have r6 := row_oth r3 O4 (by omega)
    clear k2 B3 q3 f3 q4 f4 r3 O04 B2 O3 O4
    have k0 := B4.c0
    have tP := tlen_le (nz P) (n + m')
    have tQ := tlen_le (nz Q) (n' + m)
    have LP := (limbs_row r6).take tP
    have LQ := (limbs_row r5).take tQ
    have JA := compare_any R 0 (some ⟨w3.heap.size, 0, none⟩) (some ⟨w2.heap.size, 0, none⟩) w3.heap.size 0 (tlen (nz Q) (n' + m)) (n' + m) w2.heap.size 0 (tlen (nz P) (n + m')) (n + m') Q P w4 (by omega) (by omega) q5 LQ LP (fun j _ => hQ j) (fun j _ => hP j) top_row top_row
    have JB := compare_any L 0 (some ⟨w2.heap.size, 0, none⟩) (some ⟨w3.heap.size, 0, none⟩) w2.heap.size 0 (tlen (nz P) (n + m')) (n + m') w3.heap.size 0 (tlen (nz Q) (n' + m)) (n' + m) P Q w4 (by omega) (by omega) q6 LP LQ (fun j _ => hP j) (fun j _ => hQ j) top_row top_row
    rw [lv_tlen, lv_tlen, eP, eQ] at JA JB
    clear r5 r6 LP LQ hP hQ eP eQ tP tQ
    cases f
    · go_wp2_with fail
      refine JB.mono ?_
      rintro e w5 ⟨rfl, s5⟩
      go_wp2
      go_ret
      exact ⟨rfl, S4.trans (sinceMono (s5.since w4.heap.size) S4.size)⟩
    · go_wp2_with fail
      refine JA.mono ?_
      rintro e w5 ⟨rfl, s5⟩
      go_wp2
      go_ret
      exact ⟨rfl, S4.trans (sinceMono (s5.since w4.heap.size) S4.size)⟩

end Go.Proofs.YtlpabmcebpppfaaGreatDoor

namespace Go.Proofs.YtlpabmcebpppfaaGreatDoor
open Go.RowKit

set_option maxHeartbeats 1600000 in
set_option maxRecDepth 100000 in
theorem l1AllOk_any (a : Option Addr) (lo b off n cap : Nat) (R : Nat → RatD) (w : World) (hn : n ≤ 16777216) (hs : szR R n ≤ 16777216) (H : Rats w lo a b off n R) :
    Calls Tryz.prog 78 #[.slice a n cap] w fun e w' => ∃ r : Bool, e = .returned (.bool r) ∧ (r = true ↔ RatsOk R n) ∧ w.Since w.heap.size w' := by
  go_enter Tryz.func78, Tryz.ntmps78
  go_wp2
  go_loopw [3] (fun i wr => ∃ k : Nat, k ≤ n ∧ i = .int .i64 k ∧ w.Since w.heap.size wr ∧ RatsOk R k) (fun i _ => n - (intOf i).toNat)
  case atStart => exact ⟨0, Nat.zero_le _, rfl, World.Since.refl _ _, fun i hi => absurd hi (by omega)⟩
  case round =>
    obtain ⟨k, hk, rfl, s, O⟩ := hrel
    by_cases hlt : k < n
    · obtain ⟨rfl, a1, a2, k1, k2, M⟩ := H k hlt
      have M' := M.keep s
      have g0 := M'.c0
      have g1 := M'.c1
      have g2 := M'.c2
      have hz : (k : Int) < (n : Int) := by omega
      have hsz := szR_at (R := R) hlt
      obtain ⟨ba, oa, -, LX⟩ := M'.L.LX
      obtain ⟨bb, ob, -, LY⟩ := M'.L.LY
      have J1 := specRatOk_any (R k).neg a1 a2 ba oa (R k).n k1 bb ob (R k).m k2 (R k).X (R k).Y wr (by omega) (by omega) LX LY M.L.lX M.L.lY
      rw [show ratOkB (R k).neg (R k).X (R k).n (R k).Y (R k).m = (R k).ok from rfl] at J1
      cases hok : (R k).ok
      · have HK := hide hok
        rw [hok] at J1
        clear hok
        go_wp2_with fail
        refine J1.mono ?_
        rintro e w2 ⟨rfl, s2⟩
        go_wp2
        go_ret
        refine ⟨false, rfl, ⟨(fun h => by cases h), fun h => ?_⟩, s.trans (sinceMono s2 s.size)⟩
        have := h k hlt
        rw [HK.out] at this
        cases this
      · have HK := hide hok
        rw [hok] at J1
        clear hok
        go_wp2_with fail
        refine J1.mono ?_
        rintro e w2 ⟨rfl, s2⟩
        go_wp2
        go_roundw
        case rel =>
          refine ⟨k + 1, by omega, by go_num, s.trans (sinceMono s2 s.size), fun i hi => ?_⟩
          by_cases e : i = k
          · subst e; exact HK.out
          · exact O i (by omega)
        case measure => simp [intOf]; omega
    · have e : k = n := by omega
      subst e
      go_wp2
      go_ret
      exact ⟨true, rfl, ⟨fun _ => O, fun _ => rfl⟩, s⟩

end Go.Proofs.YtlpabmcebpppfaaGreatDoor

namespace Go.Proofs.YtlpabmcebpppfaaGreatDoor
open Go.RowKit

end Go.Proofs.YtlpabmcebpppfaaGreatDoor

namespace Go.Proofs.YtlpabmcebpppfaaGreatDoor
open Go.RowKit

set_option maxHeartbeats 1600000 in
set_option maxRecDepth 100000 in
theorem eqRatS_true (a a' : Option Addr) (lo b off cap lo' b' off' cap' n : Nat) (R : Nat → RatD) (w : World) (hn : n ≤ 16777216) (hs : szR R n ≤ 16777216) (H : Rats w lo a b off n R) (H' : Rats w lo' a' b' off' n R) :
    Calls Tryz.prog 32 #[.slice a n cap, .slice a' n cap'] w fun e w' => e = .returned (.bool true) ∧ w.Since w.heap.size w' := by
  go_enter Tryz.func32, Tryz.ntmps32
  go_wp2
  go_loopw [5] (fun i wr => ∃ k : Nat, k ≤ n ∧ i = .int .i64 k ∧ w.Since w.heap.size wr) (fun i _ => n - (intOf i).toNat)
  case atStart => exact ⟨0, Nat.zero_le _, rfl, World.Since.refl _ _⟩
  case round =>
    obtain ⟨k, hk, rfl, s⟩ := hrel
    by_cases hlt : k < n
    · obtain ⟨rfl, a1, a2, k1, k2, M⟩ := H k hlt
      obtain ⟨rfl, a1', a2', k1', k2', M'⟩ := H' k hlt
      have sd : w.Since w.heap.size wr.drew := ⟨s.os, s.tape, s.output, s.size, s.block⟩
      have N := M.keep s
      have N' := M'.keep s
      have g0 := N.c0
      have g1 := N.c1
      have g2 := N.c2
      have g0' := N'.c0
      have g1' := N'.c1
      have g2' := N'.c2
      have hsz := szR_at (R := R) hlt
      have hz : (k : Int) < (n : Int) := by omega
      obtain ⟨ba, oa, -, LX⟩ := (M.L.keep sd).LX
      obtain ⟨bb, ob, -, LY⟩ := (M.L.keep sd).LY
      obtain ⟨ba', oa', -, LX'⟩ := (M'.L.keep sd).LX
      obtain ⟨bb', ob', -, LY'⟩ := (M'.L.keep sd).LY
      have J1 := eqRat_true (R k).neg a1 a1' a2 a2' ba oa ba' oa' (R k).n k1 k1' bb ob bb' ob' (R k).m k2 k2' (R k).X (R k).Y wr.drew (by omega) (by omega) LX LX' LY LY'
      clear LX LY LX' LY' N N'
      go_wp2_with fail
      go_region_held3 (fun w' => w'.cell? ⟨b, off + k * 3, none⟩ = some (.bool (R k).neg) ∧ w'.cell? ⟨b, off + k * 3 + 1, none⟩ = some (.slice a1 (R k).n k1) ∧ w'.cell? ⟨b, off + k * 3 + 2, none⟩ = some (.slice a2 (R k).m k2) ∧ w'.cell? ⟨b', off' + k * 3, none⟩ = some (.bool (R k).neg) ∧ w'.cell? ⟨b', off' + k * 3 + 1, none⟩ = some (.slice a1' (R k).n k1') ∧ w'.cell? ⟨b', off' + k * 3 + 2, none⟩ = some (.slice a2' (R k).m k2')) (go_keep)
        (first
          | (go_at_call 67
             with_reducible refine J1.mono ?_
             rintro e w1 ⟨rfl, s1⟩
             have S1 : w.Since w.heap.size w1 := sd.trans (sinceMono s1 sd.size)
             have i0 := (M.keep S1).c0
             have i1 := (M.keep S1).c1
             have i2 := (M.keep S1).c2
             have i0' := (M'.keep S1).c0
             have i1' := (M'.keep S1).c1
             have i2' := (M'.keep S1).c2))
      all_goals go_wp2
      all_goals go_roundw
      case rel => exact ⟨k + 1, by omega, by go_num, S1⟩
      case measure => simp [intOf]; omega
    · go_wp2
      go_ret
      exact ⟨rfl, s⟩

end Go.Proofs.YtlpabmcebpppfaaGreatDoor

namespace Go.Proofs.YtlpabmcebpppfaaGreatDoor
open Go.RowKit

theorem Tab.keepN {w w' : World} (_h : Tab w) (_hw : 0 ≤ w.heap.size) (_s : w.Since w.heap.size w') : Tab w' := trivial

set_option maxHeartbeats 1600000 in
set_option maxRecDepth 100000 in
theorem allValid_any (a : Option Addr) (lo b off n cap : Nat) (R : Nat → RatD) (w : World) (hw : 0 ≤ w.heap.size) (hT : Tab w) (hn : n ≤ 16777216) (hs : szR R n ≤ 16777216) (H : Rats w lo a b off n R) :
    Calls Tryz.prog 75 #[.slice a n cap] w fun e w' => ∃ r : Bool, e = .returned (.bool r) ∧ (r = true ↔ RatsOk R n) ∧ w.Since w.heap.size w' := by
  go_enter Tryz.func75, Tryz.ntmps75
  go_wp2
  go_loopw [7] (fun i wr => ∃ k : Nat, k ≤ n ∧ i = .int .i64 k ∧ w.Since w.heap.size wr ∧ RatsOk R k) (fun i _ => n - (intOf i).toNat)
  case atStart => exact ⟨0, Nat.zero_le _, rfl, World.Since.refl _ _, fun i hi => absurd hi (by omega)⟩
  case round =>
    obtain ⟨k, hk, rfl, s, O⟩ := hrel
    by_cases hlt : k < n
    · obtain ⟨rfl, a1, a2, k1, k2, M⟩ := H k hlt
      have M' := M.keep s
      have g0 := M'.c0
      have g1 := M'.c1
      have g2 := M'.c2
      have hz : (k : Int) < (n : Int) := by omega
      have hsz := szR_at (R := R) hlt
      have sA : w.Since w.heap.size (wr.alloc (.cells #[.bool (R k).neg, .slice a1 (R k).n k1, .slice a2 (R k).m k2] 53)) := s.alloc s.size _
      obtain ⟨ba, oa, -, LX⟩ := (M.L.keep sA).LX
      obtain ⟨bb, ob, -, LY⟩ := (M.L.keep sA).LY
      have J1 := implRatOk_any (R k).neg a1 a2 ba oa (R k).n k1 bb ob (R k).m k2 (R k).X (R k).Y _ (Nat.zero_le _) (by omega) (by omega) M.L.nc M.L.mc M.L.ac M.L.bc LX LY M.L.lX M.L.lY (hT.keepN hw sA)
      rw [show ratOkB (R k).neg (R k).X (R k).n (R k).Y (R k).m = (R k).ok from rfl] at J1
      cases hok : (R k).ok
      · have HK := hide hok
        rw [hok] at J1
        clear hok
        go_wp2_with fail
        refine J1.mono ?_
        rintro e w2 ⟨rfl, s2⟩
        go_wp2
        go_ret
        refine ⟨false, rfl, ⟨(fun h => by cases h), fun h => ?_⟩, sA.trans (sinceMono s2 sA.size)⟩
        have := h k hlt
        rw [HK.out] at this
        cases this
      · have HK := hide hok
        rw [hok] at J1
        clear hok
        go_wp2_with fail
        refine J1.mono ?_
        rintro e w2 ⟨rfl, s2⟩
        go_wp2
        go_roundw
        case rel =>
          refine ⟨k + 1, by omega, by go_num, sA.trans (sinceMono s2 sA.size), fun i hi => ?_⟩
          by_cases e : i = k
          · subst e; exact HK.out
          · exact O i (by omega)
        case measure => simp [intOf]; omega
    · have e : k = n := by omega
      subst e
      go_wp2
      go_ret
      exact ⟨true, rfl, ⟨fun _ => O, fun _ => rfl⟩, s⟩

end Go.Proofs.YtlpabmcebpppfaaGreatDoor

namespace Go.Proofs.YtlpabmcebpppfaaGreatDoor
open Go.RowKit

end Go.Proofs.YtlpabmcebpppfaaGreatDoor

namespace Go.Proofs.YtlpabmcebpppfaaGreatDoor
open Go.RowKit

end Go.Proofs.YtlpabmcebpppfaaGreatDoor

namespace Go.Proofs.YtlpabmcebpppfaaGreatDoor
open Go.RowKit

set_option maxHeartbeats 1600000 in
set_option maxRecDepth 100000 in
theorem eqNode_true (d : NodeD) (a1 a1' : Option Addr) (lo k1 lo' k1' : Nat) (w : World) (hd : d.size ≤ 1048576) (H : NodL w lo d a1 k1) (H' : NodL w lo' d a1' k1') :
    Calls Tryz.prog 68 #[.agg #[.int .i64 d.op, .int .i64 d.a, .int .i64 d.b, .int .i64 d.k, .int .i64 d.s, .slice a1 d.nv k1], .agg #[.int .i64 d.op, .int .i64 d.a, .int .i64 d.b, .int .i64 d.k, .int .i64 d.s, .slice a1' d.nv k1']] w fun e w' => e = .returned (.bool true) ∧ w.Since w.heap.size w' := by
  have ts := hd
  unfold NodeD.size at ts
  obtain ⟨wA, eA⟩ : ∃ wA : World, wA = (w.alloc (.cells #[.int .i64 d.op, .int .i64 d.a, .int .i64 d.b, .int .i64 d.k, .int .i64 d.s, .slice a1 d.nv k1] 56)).alloc (.cells #[.int .i64 d.op, .int .i64 d.a, .int .i64 d.b, .int .i64 d.k, .int .i64 d.s, .slice a1' d.nv k1'] 56) := ⟨_, rfl⟩
  have sA : w.Since w.heap.size wA := by rw [eA]; exact ((World.Since.refl _ _).alloc (Nat.le_refl _) _).alloc (by simp) _
  obtain ⟨b1, o1, -, W1⟩ := (H.keep sA).LV
  obtain ⟨b2, o2, -, W2⟩ := (H'.keep sA).LV
  have J1 := eqRatS_true a1 a1' lo b1 o1 k1 lo' b2 o2 k1' d.nv d.V wA (by omega) (by omega) W1 W2
  have EA := hide eA
  clear eA
  go_enter Tryz.func68, Tryz.ntmps68
  go_wp2_with fail
  rw [← EA.out]
  refine J1.mono ?_
  rintro e w1 ⟨rfl, s1⟩
  clear J1 EA
  go_wp2
  go_ret
  exact ⟨rfl, sA.trans (sinceMono s1 sA.size)⟩

set_option maxHeartbeats 3200000 in
set_option maxRecDepth 100000 in
theorem eqNodeS_true (a a' : Option Addr) (lo b off cap lo' b' off' cap' n : Nat) (A : Nat → NodeD) (w : World) (hn : n ≤ 1048576) (hs : szN A n ≤ 1048576) (H : Nods w lo a b off n A) (H' : Nods w lo' a' b' off' n A) :
    Calls Tryz.prog 33 #[.slice a n cap, .slice a' n cap'] w fun e w' => e = .returned (.bool true) ∧ w.Since w.heap.size w' := by
  go_enter Tryz.func33, Tryz.ntmps33
  go_wp2
  go_loopw [5] (fun i wr => ∃ k : Nat, k ≤ n ∧ i = .int .i64 k ∧ w.Since w.heap.size wr) (fun i _ => n - (intOf i).toNat)
  case atStart => exact ⟨0, Nat.zero_le _, rfl, World.Since.refl _ _⟩
  case round =>
    obtain ⟨k, hk, rfl, s⟩ := hrel
    by_cases hlt : k < n
    · obtain ⟨rfl, a1, k1, M⟩ := H k hlt
      obtain ⟨rfl, a1', k1', M'⟩ := H' k hlt
      have sd : w.Since w.heap.size wr.drew := ⟨s.os, s.tape, s.output, s.size, s.block⟩
      have N := M.keep s
      have N' := M'.keep s
      have g0 := N.c0
      have g0' := N'.c0
      have g1 := N.c1
      have g1' := N'.c1
      have g2 := N.c2
      have g2' := N'.c2
      have g3 := N.c3
      have g3' := N'.c3
      have g4 := N.c4
      have g4' := N'.c4
      have g5 := N.c5
      have g5' := N'.c5
      have hsz := szN_at (A := A) hlt
      have hz : (k : Int) < (n : Int) := by omega
      have J1 := eqNode_true (A k) a1 a1' lo k1 lo' k1' wr.drew (by omega) (M.L.keep sd) (M'.L.keep sd)
      clear N N'
      go_wp2_with fail
      go_region_held3 (fun w' => w'.cell? ⟨b, off + k * 6, none⟩ = some (.int .i64 (A k).op) ∧ w'.cell? ⟨b, off + k * 6 + 1, none⟩ = some (.int .i64 (A k).a) ∧ w'.cell? ⟨b, off + k * 6 + 2, none⟩ = some (.int .i64 (A k).b) ∧ w'.cell? ⟨b, off + k * 6 + 3, none⟩ = some (.int .i64 (A k).k) ∧ w'.cell? ⟨b, off + k * 6 + 4, none⟩ = some (.int .i64 (A k).s) ∧ w'.cell? ⟨b, off + k * 6 + 5, none⟩ = some (.slice a1 (A k).nv k1) ∧
          w'.cell? ⟨b', off' + k * 6, none⟩ = some (.int .i64 (A k).op) ∧ w'.cell? ⟨b', off' + k * 6 + 1, none⟩ = some (.int .i64 (A k).a) ∧ w'.cell? ⟨b', off' + k * 6 + 2, none⟩ = some (.int .i64 (A k).b) ∧ w'.cell? ⟨b', off' + k * 6 + 3, none⟩ = some (.int .i64 (A k).k) ∧ w'.cell? ⟨b', off' + k * 6 + 4, none⟩ = some (.int .i64 (A k).s) ∧ w'.cell? ⟨b', off' + k * 6 + 5, none⟩ = some (.slice a1' (A k).nv k1')) (go_keep)
        (first
          | (go_at_call 68
             with_reducible refine J1.mono ?_
             rintro e w1 ⟨rfl, s1⟩
             have S1 : w.Since w.heap.size w1 := sd.trans (sinceMono s1 sd.size)
             have i0 := (M.keep S1).c0
             have i0' := (M'.keep S1).c0
             have i1 := (M.keep S1).c1
             have i1' := (M'.keep S1).c1
             have i2 := (M.keep S1).c2
             have i2' := (M'.keep S1).c2
             have i3 := (M.keep S1).c3
             have i3' := (M'.keep S1).c3
             have i4 := (M.keep S1).c4
             have i4' := (M'.keep S1).c4
             have i5 := (M.keep S1).c5
             have i5' := (M'.keep S1).c5))
      all_goals go_wp2
      all_goals go_roundw
      case rel => exact ⟨k + 1, by omega, by go_num, S1⟩
      case measure => simp [intOf]; omega
    · go_wp2
      go_ret
      exact ⟨rfl, s⟩

set_option maxHeartbeats 1600000 in
set_option maxRecDepth 100000 in
theorem eqGraph_true (g : GraphD) (aL aH aN aL' aH' aN' : Option Addr) (lo kL kH kN lo' kL' kH' kN' : Nat) (w : World) (hd : g.size ≤ 1048576) (H : GraL w lo g aL aH aN kL kH kN) (H' : GraL w lo' g aL' aH' aN' kL' kH' kN') :
    Calls Tryz.prog 9 #[.agg #[.int .i64 g.inn, .int .i64 g.rounds, .slice aL g.nl kL, .slice aH g.nh kH, .slice aN g.nn kN, .int .i64 g.out], .agg #[.int .i64 g.inn, .int .i64 g.rounds, .slice aL' g.nl kL', .slice aH' g.nh kH', .slice aN' g.nn kN', .int .i64 g.out]] w fun e w' => e = .returned (.bool true) ∧ w.Since w.heap.size w' := by
  have ts := hd
  unfold GraphD.size at ts
  obtain ⟨wA, eA⟩ : ∃ wA : World, wA = (w.alloc (.cells #[.int .i64 g.inn, .int .i64 g.rounds, .slice aL g.nl kL, .slice aH g.nh kH, .slice aN g.nn kN, .int .i64 g.out] 31)).alloc (.cells #[.int .i64 g.inn, .int .i64 g.rounds, .slice aL' g.nl kL', .slice aH' g.nh kH', .slice aN' g.nn kN', .int .i64 g.out] 31) := ⟨_, rfl⟩
  have sA : w.Since w.heap.size wA := by rw [eA]; exact ((World.Since.refl _ _).alloc (Nat.le_refl _) _).alloc (by simp) _
  have bA : Box6 wA w.heap.size (.int .i64 g.inn) (.int .i64 g.rounds) (.slice aL g.nl kL) (.slice aH g.nh kH) (.slice aN g.nn kN) (.int .i64 g.out) := by rw [eA]; exact (Box6.new w _ _ _ _ _ _ _).keep ((World.Since.refl _ _).alloc (Nat.le_refl _) _)
  have cA : Box6 wA (w.heap.size + 1) (.int .i64 g.inn) (.int .i64 g.rounds) (.slice aL' g.nl kL') (.slice aH' g.nh kH') (.slice aN' g.nn kN') (.int .i64 g.out) := by
    rw [eA]
    have := Box6.new (w.alloc (.cells #[.int .i64 g.inn, .int .i64 g.rounds, .slice aL g.nl kL, .slice aH g.nh kH, .slice aN g.nn kN, .int .i64 g.out] 31)) (.int .i64 g.inn) (.int .i64 g.rounds) (.slice aL' g.nl kL') (.slice aH' g.nh kH') (.slice aN' g.nn kN') (.int .i64 g.out) 31
    simpa using this
  obtain ⟨b1, o1, -, W1⟩ := (H.keep sA).LL
  obtain ⟨b2, o2, -, W2⟩ := (H'.keep sA).LL
  obtain ⟨b3, o3, -, B1⟩ := (H.keep sA).LH
  obtain ⟨b4, o4, -, B2⟩ := (H'.keep sA).LH
  obtain ⟨b5, o5, -, N1⟩ := (H.keep sA).LN
  obtain ⟨b6, o6, -, N2⟩ := (H'.keep sA).LN
  have J1 := eqRatS_true aL aL' lo b1 o1 kL lo' b2 o2 kL' g.nl g.Lo wA (by omega) (by omega) W1 W2
  have EA := hide eA
  clear eA
  go_enter Tryz.func9, Tryz.ntmps9
  go_wp2_with fail
  rw [← EA.out]
  refine J1.mono ?_
  rintro e w1 ⟨rfl, s1⟩
  have J2 := eqRatS_true aH aH' lo b3 o3 kH lo' b4 o4 kH' g.nh g.Hi w1 (by omega) (by omega) (B1.keep s1) (B2.keep s1)
  have X1 := bA.keep s1
  have X2 := cA.keep s1
  have q1 := X1.c3
  have q2 := X2.c3
  clear J1 EA bA cA
  go_wp2_with fail
  refine J2.mono ?_
  rintro e w2 ⟨rfl, s2⟩
  have u2 := s1.trans (sinceMono s2 s1.size)
  have J3 := eqNodeS_true aN aN' lo b5 o5 kN lo' b6 o6 kN' g.nn g.N w2 (by omega) (by omega) (N1.keep u2) (N2.keep u2)
  have Y1 := X1.keep s2
  have Y2 := X2.keep s2
  have r1 := Y1.c4
  have r2 := Y2.c4
  clear J2 q1 q2 X1 X2
  go_wp2_with fail
  refine J3.mono ?_
  rintro e w3 ⟨rfl, s3⟩
  have p1 := (Y1.keep s3).c5
  have p2 := (Y2.keep s3).c5
  clear J3 r1 r2 Y1 Y2
  go_wp2
  go_ret
  exact ⟨rfl, sA.trans (sinceMono (u2.trans (sinceMono s3 u2.size)) sA.size)⟩

end Go.Proofs.YtlpabmcebpppfaaGreatDoor

namespace Go.Proofs.YtlpabmcebpppfaaGreatDoor
open Go.RowKit

set_option maxHeartbeats 1600000 in
set_option maxRecDepth 100000 in
theorem szNode_any (d : NodeD) (a1 : Option Addr) (lo k1 L : Nat) (w : World) (hL : L ≤ 1048576) (H : NodL w lo d a1 k1) :
    Calls Tryz.prog 44 #[.agg #[.int .i64 d.op, .int .i64 d.a, .int .i64 d.b, .int .i64 d.k, .int .i64 d.s, .slice a1 d.nv k1], .int .i64 L] w fun e w' => e = .returned (.int .i64 (szl L d.size)) ∧ w.Since w.heap.size w' := by
  have sA : w.Since w.heap.size (w.alloc (.cells #[.int .i64 d.op, .int .i64 d.a, .int .i64 d.b, .int .i64 d.k, .int .i64 d.s, .slice a1 d.nv k1] 99)) := (World.Since.refl _ _).alloc (Nat.le_refl _) _
  obtain ⟨ba, oa, -, LV⟩ := (H.keep sA).LV
  have J1 := szRatS_any a1 lo ba oa d.nv k1 L d.V _ (by omega) H.n63 LV
  have E := hide (show szl L d.size = szl L (d.nv + szR d.V d.nv) from rfl)
  by_cases h : d.nv + szR d.V d.nv ≤ L
  · rw [szl_ok h] at J1
    have E2 := hide (szl_ok h)
    go_enter Tryz.func44, Tryz.ntmps44
    go_wp2_with fail
    refine J1.mono ?_
    rintro e w1 ⟨rfl, s1⟩
    go_wp2
    go_ret
    exact ⟨ret_int (by rw [E.out, E2.out]), sA.trans (sinceMono s1 sA.size)⟩
  · rw [szl_no (show L < d.nv + szR d.V d.nv by omega)] at J1
    have E2 := hide (szl_no (show L < d.nv + szR d.V d.nv by omega))
    go_enter Tryz.func44, Tryz.ntmps44
    go_wp2_with fail
    refine J1.mono ?_
    rintro e w1 ⟨rfl, s1⟩
    go_wp2
    go_ret
    exact ⟨ret_int (by rw [E.out, E2.out]), sA.trans (sinceMono s1 sA.size)⟩

set_option maxHeartbeats 1600000 in
set_option maxRecDepth 100000 in
theorem szNodeS_any (a : Option Addr) (lo b off n cap L : Nat) (A : Nat → NodeD) (w : World) (hL : L ≤ 1048576) (hn : n ≤ 9223372036854775807) (H : Nods w lo a b off n A) :
    Calls Tryz.prog 16 #[.slice a n cap, .int .i64 L] w fun e w' => e = .returned (.int .i64 (szl L (n + szN A n))) ∧ w.Since w.heap.size w' := by
  by_cases h : L < n
  · rw [szl_no (show L < n + szN A n by omega)]
    go_enter Tryz.func16, Tryz.ntmps16
    go_wp2
    go_ret
    exact ⟨rfl, World.Since.refl _ _⟩
  have h1 : (L : Int) - n = ((L - n : Nat) : Int) := by omega
  have H1 := hide h1
  clear h1
  go_enter Tryz.func16, Tryz.ntmps16
  go_wp2
  go_loopw [1, 5] (fun q i wr => ∃ k : Nat, k ≤ n ∧ i = .int .i64 k ∧ n + szN A k ≤ L ∧ q = .int .i64 ((L - n - szN A k : Nat) : Int) ∧ w.Since w.heap.size wr) (fun _ i _ => n - (intOf i).toNat)
  case atStart => exact ⟨0, Nat.zero_le _, rfl, by unfold szN; omega, by simp only [szN, Nat.sub_zero]; rw [← H1.out], World.Since.refl _ _⟩
  case round =>
    obtain ⟨k, hk, rfl, hs, rfl, s⟩ := hrel
    by_cases hlt : k < n
    · obtain ⟨rfl, a1, k1, M⟩ := H k hlt
      have M' := M.keep s
      have g0 := M'.c0
      have g1 := M'.c1
      have g2 := M'.c2
      have g3 := M'.c3
      have g4 := M'.c4
      have g5 := M'.c5
      have hz : (k : Int) < (n : Int) := by omega
      have e1 := szN_succ A k
      have J1 := szNode_any (A k) a1 lo k1 (L - n - szN A k) wr (by omega) M'.L
      by_cases hf : n + szN A (k + 1) ≤ L
      · have hf' : (A k).size ≤ L - n - szN A k := by omega
        rw [szl_ok hf'] at J1
        have H2 := hide e1
        clear e1
        go_wp2_with fail
        refine J1.mono ?_
        rintro e w1 ⟨rfl, s1⟩
        go_wp2
        go_roundw
        case rel => exact ⟨k + 1, by omega, by go_num, hf, by rw [H2.out]; congr 2; omega, s.trans (sinceMono s1 s.size)⟩
        case measure => simp [intOf]; omega
      · have hx := szN_mono (A := A) (show k + 1 ≤ n from hlt)
        have HZ := hide (szl_no (show L < n + szN A n by omega)).symm
        rw [szl_no (show L - n - szN A k < (A k).size by omega)] at J1
        clear e1
        go_wp2_with fail
        refine J1.mono ?_
        rintro e w1 ⟨rfl, s1⟩
        go_wp2
        go_ret
        exact ⟨ret_int HZ.out, s.trans (sinceMono s1 s.size)⟩
    · have e : k = n := by omega
      subst e
      go_wp2
      go_ret
      exact ⟨ret_int (by rw [szl_ok hs]; congr 1; omega), s⟩

set_option maxHeartbeats 1600000 in
set_option maxRecDepth 100000 in
theorem szGraph_any (g : GraphD) (aL aH aN : Option Addr) (lo kL kH kN L : Nat) (w : World) (hL : L ≤ 1048576) (H : GraL w lo g aL aH aN kL kH kN) :
    Calls Tryz.prog 5 #[.agg #[.int .i64 g.inn, .int .i64 g.rounds, .slice aL g.nl kL, .slice aH g.nh kH, .slice aN g.nn kN, .int .i64 g.out], .int .i64 L] w fun e w' => e = .returned (.int .i64 (szl L g.size)) ∧ w.Since w.heap.size w' := by
  have sA : w.Since w.heap.size (w.alloc (.cells #[.int .i64 g.inn, .int .i64 g.rounds, .slice aL g.nl kL, .slice aH g.nh kH, .slice aN g.nn kN, .int .i64 g.out] 25)) := (World.Since.refl _ _).alloc (Nat.le_refl _) _
  have bA := Box6.new w (.int .i64 g.inn) (.int .i64 g.rounds) (.slice aL g.nl kL) (.slice aH g.nh kH) (.slice aN g.nn kN) (.int .i64 g.out) 25
  have HA := H.keep sA
  obtain ⟨b1, o1, -, L1⟩ := HA.LL
  obtain ⟨b2, o2, -, L2⟩ := HA.LH
  obtain ⟨b3, o3, -, L3⟩ := HA.LN
  have l63 := H.l63
  have h63 := H.h63
  have n63 := H.n63
  have ES : g.size = (g.nl + szR g.Lo g.nl) + (g.nh + szR g.Hi g.nh) + (g.nn + szN g.N g.nn) := rfl
  have J1 := szRatS_any aL lo b1 o1 g.nl kL L g.Lo _ (by omega) l63 L1
  by_cases h1 : (g.nl + szR g.Lo g.nl) ≤ L
  · rw [szl_ok h1] at J1
    go_enter Tryz.func5, Tryz.ntmps5
    go_wp2_with fail
    generalize w.alloc (.cells #[.int .i64 g.inn, .int .i64 g.rounds, .slice aL g.nl kL, .slice aH g.nh kH, .slice aN g.nn kN, .int .i64 g.out] 25) = wA at *
    refine J1.mono ?_
    rintro e w1 ⟨rfl, s1⟩
    have B1 := bA.keep s1
    have q3 := B1.c3
    have J2 := szRatS_any aH lo b2 o2 g.nh kH (L - (g.nl + szR g.Lo g.nl)) g.Hi w1 (by omega) h63 (L2.keep s1)
    clear J1
    by_cases h2 : (g.nh + szR g.Hi g.nh) ≤ L - (g.nl + szR g.Lo g.nl)
    · rw [szl_ok h2] at J2
      go_wp2_with fail
      refine J2.mono ?_
      rintro e w2 ⟨rfl, s2⟩
      have B2 := B1.keep s2
      have q4 := B2.c4
      have u2 := s1.trans (sinceMono s2 s1.size)
      have J3 := szNodeS_any aN lo b3 o3 g.nn kN (L - (g.nl + szR g.Lo g.nl) - (g.nh + szR g.Hi g.nh)) g.N w2 (by omega) n63 (L3.keep u2)
      clear J2 q3
      by_cases h3 : (g.nn + szN g.N g.nn) ≤ L - (g.nl + szR g.Lo g.nl) - (g.nh + szR g.Hi g.nh)
      · rw [szl_ok h3] at J3
        have E := hide (show szl L g.size = ((L - (g.nl + szR g.Lo g.nl) - (g.nh + szR g.Hi g.nh) - (g.nn + szN g.N g.nn) : Nat) : Int) by rw [szl_ok (by omega)]; congr 1; omega)
        clear ES
        go_wp2_with fail
        refine J3.mono ?_
        rintro e w3 ⟨rfl, s3⟩
        go_wp2
        go_ret
        exact ⟨ret_int E.out.symm, sA.trans (sinceMono (u2.trans (sinceMono s3 u2.size)) sA.size)⟩
      · rw [szl_no (show L - (g.nl + szR g.Lo g.nl) - (g.nh + szR g.Hi g.nh) < (g.nn + szN g.N g.nn) by omega)] at J3
        have E := hide (show szl L g.size = -1 by rw [szl_no (by omega)])
        clear ES
        go_wp2_with fail
        refine J3.mono ?_
        rintro e w3 ⟨rfl, s3⟩
        go_wp2
        go_ret
        exact ⟨ret_int E.out.symm, sA.trans (sinceMono (u2.trans (sinceMono s3 u2.size)) sA.size)⟩
    · rw [szl_no (show L - (g.nl + szR g.Lo g.nl) < (g.nh + szR g.Hi g.nh) by omega)] at J2
      have E := hide (show szl L g.size = -1 by rw [szl_no (by omega)])
      clear ES
      go_wp2_with fail
      refine J2.mono ?_
      rintro e w2 ⟨rfl, s2⟩
      go_wp2
      go_ret
      exact ⟨ret_int E.out.symm, sA.trans (sinceMono (s1.trans (sinceMono s2 s1.size)) sA.size)⟩
  · rw [szl_no (show L < (g.nl + szR g.Lo g.nl) by omega)] at J1
    have E := hide (show szl L g.size = -1 by rw [szl_no (by omega)])
    clear ES
    go_enter Tryz.func5, Tryz.ntmps5
    go_wp2_with fail
    refine J1.mono ?_
    rintro e w1 ⟨rfl, s1⟩
    go_wp2
    go_ret
    exact ⟨ret_int E.out.symm, sA.trans (sinceMono s1 sA.size)⟩

end Go.Proofs.YtlpabmcebpppfaaGreatDoor
