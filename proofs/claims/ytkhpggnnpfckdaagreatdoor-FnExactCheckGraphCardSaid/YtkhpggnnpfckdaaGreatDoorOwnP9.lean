import Derived.Test.YtkhpggnnpfckdaaGreatDoorOwnP8
import Derived.Deep.RegionWith
namespace Go.Proofs.YtkhpggnnpfckdaaGreatDoor
open Go.RowKit

/-- Old memory but for one block stands. -/
structure Oth (c : Nat) (w w' : World) : Prop where
  os : w'.os = w.os
  tape : w'.tape = w.tape
  output : w'.output = w.output
  size : w.heap.size ≤ w'.heap.size
  block : ∀ k, k < w.heap.size → k ≠ c → w'.heap[k]? = w.heap[k]?

section
variable {c d n g N M off : Nat} {w w' w1 w2 : World} {a : Option Addr} {X : Nat → Nat} {v x y z : Value}
theorem Oth.refl (c : Nat) (w : World) : Oth c w w := ⟨rfl, rfl, rfl, Nat.le_refl _, fun _ _ _ => rfl⟩
theorem Oth.trans (h : Oth c w w1) (k : Oth c w1 w2) : Oth c w w2 := ⟨k.os.trans h.os, k.tape.trans h.tape, k.output.trans h.output, Nat.le_trans h.size k.size, fun i h1 h2 => (k.block i (Nat.lt_of_lt_of_le h1 h.size) h2).trans (h.block i h1 h2)⟩
theorem Oth.ofSince (c : Nat) (h : w.Since w.heap.size w') : Oth c w w' := ⟨h.os, h.tape, h.output, h.size, fun k hk _ => h.block k hk⟩
theorem Oth.ofMarked (h : Marked w w' c) : Oth c w w' := ⟨h.os, h.tape, h.output, by rw [h.size]; exact Nat.le_refl _, fun k _ hk => h.other k hk⟩
theorem Oth.since (h : Oth c w w') (hc : c ≤ w.heap.size) : w.Since c w' := ⟨h.os, h.tape, h.output, h.size, fun k hk => h.block k (by omega) (by omega)⟩
theorem Oth.cell (h : Oth c w w') {a : Addr} (hl : a.block < w.heap.size) (hne : a.block ≠ c) : w'.cell? a = w.cell? a := World.cell?_of_block (w := w) (h.block _ hl hne)
theorem Oth.frozen (h : Oth c w w') {a : Addr} (hl : a.block < w.heap.size) (hne : a.block ≠ c) : w'.frozen? a = w.frozen? a := World.frozen?_of_block (w := w) (h.block _ hl hne)
theorem Limbs.oth (h : Limbs w a g off n X) (s : Oth c w w') (hne : 0 < n → g ≠ c) : Limbs w' a g off n X := fun j hj => ⟨(h j hj).1, by rw [s.cell (a := ⟨g, off + j, none⟩) (h.lt (by omega)) (hne (by omega))]; exact (h j hj).2⟩
theorem NatAt.oth (h : NatAt w v g N M) (s : Oth c w w') (hne : g ≠ c) : NatAt w' v g N M := by
  obtain ⟨a, m, cap, Y, h1, h2, h3, h4, h5, h6, h7, h8, h9⟩ := h
  exact ⟨a, m, cap, Y, h1, h2, h3, h4, h5.oth s (fun _ => hne), fun h0 o => by rw [s.frozen (a := ⟨g, o, none⟩) (h5.lt h0) hne]; exact h6 h0 o, h7, h8, h9⟩
theorem Box3.oth (h : Box3 w d x y z) (s : Oth c w w') (hne : d ≠ c) : Box3 w' d x y z :=
  ⟨(s.cell (a := ⟨d, 0, none⟩) h.lt hne).trans h.c0, (s.cell (a := ⟨d, 1, none⟩) h.lt hne).trans h.c1, (s.cell (a := ⟨d, 2, none⟩) h.lt hne).trans h.c2, fun k => (s.frozen (a := ⟨d, k, none⟩) h.lt hne).trans (h.f k)⟩
end

theorem Box3.drew {w : World} {c : Nat} {x y z : Value} (h : Box3 w c x y z) : Box3 w.drew c x y z := ⟨h.c0, h.c1, h.c2, h.f⟩
theorem Oth.drew {w w' : World} {c : Nat} (h : Oth c w w') : Oth c w w'.drew := ⟨h.os, h.tape, h.output, h.size, h.block⟩
theorem Limbs.drew {w : World} {a : Option Addr} {b off n : Nat} {X : Nat → Nat} (h : Limbs w a b off n X) : Limbs w.drew a b off n X := h
theorem NatAt.drew {w : World} {v : Value} {g N M : Nat} (h : NatAt w v g N M) : NatAt w.drew v g N M := h
theorem since_drew {w w' : World} {B : Nat} (h : w.Since B w') : w.Since B w'.drew := ⟨h.os, h.tape, h.output, h.size, h.block⟩

theorem natAt_row {w2 : World} {g n : Nat} {P : Nat → Nat} (r : w2.rowIs g 119 n (fun j => .int .u32 (P j : Nat))) (hP : ∀ k, P k < 4294967296) {N : Nat} (hN : lv P n = N) : NatAt w2 (.slice (some ⟨g, 0, none⟩) (tlen (nz P) n) n) g N n :=
  ⟨_, _, _, P, rfl, tlen_le _ _, tlen_le _ _, fun h => (by cases h), (limbs_row r).take (tlen_le _ _), fun _ o => r.frozen o, fun j _ => hP j, fun h => by have := tlen_top (nz P) n h; simpa [nz] using this, by rw [lv_tlen]; exact hN⟩

/-- multiply at the second cell of a struct. -/
theorem mulAt1 (c : Nat) (x z : Value) (a a' : Option Addr) (b off n cap b' off' m cap' : Nat) (X Y : Nat → Nat) (w : World) (hn : n ≤ 67108864) (hm : m ≤ 67108864) (hX : Limbs w a b off n X) (hY : Limbs w a' b' off' m Y)
    (hXl : ∀ j, j < n → X j < 4294967296) (hYl : ∀ j, j < m → Y j < 4294967296) (B : Box3 w c x (.slice a n cap) z) :
    Calls Tryz.prog 124 #[.pointer (some ⟨c, 1, none⟩), .slice a' m cap'] w fun e w' => e = .returned (.tuple #[]) ∧ ∃ v, Box3 w' c x v z ∧ NatAt w' v w.heap.size (lv X n * lv Y m) (n + m) ∧ Oth c w w' ∧ w.heap.size < w'.heap.size := by
  refine (multiply_any c 1 a a' b off n cap b' off' m cap' X Y w hn hm hX hY hXl hYl B.c1 (B.f 1)).mono ?_
  rintro e w' ⟨rfl, w2, P, s, r, hP, hv, rfl⟩
  have M := (Marked.refl w2 c).setCell 1 (.slice (some ⟨w.heap.size, 0, none⟩) (tlen (nz P) (n + m)) (n + m))
  exact ⟨rfl, _, (B.keep s).set1 _, (natAt_row r hP hv).marked M (Nat.ne_of_gt B.lt), (Oth.ofSince c s).trans (Oth.ofMarked M), by rw [M.size]; exact r.lt⟩

/-- multiply at the third cell of a struct. -/
theorem mulAt2 (c : Nat) (x z : Value) (a a' : Option Addr) (b off n cap b' off' m cap' : Nat) (X Y : Nat → Nat) (w : World) (hn : n ≤ 67108864) (hm : m ≤ 67108864) (hX : Limbs w a b off n X) (hY : Limbs w a' b' off' m Y)
    (hXl : ∀ j, j < n → X j < 4294967296) (hYl : ∀ j, j < m → Y j < 4294967296) (B : Box3 w c x z (.slice a n cap)) :
    Calls Tryz.prog 124 #[.pointer (some ⟨c, 2, none⟩), .slice a' m cap'] w fun e w' => e = .returned (.tuple #[]) ∧ ∃ v, Box3 w' c x z v ∧ NatAt w' v w.heap.size (lv X n * lv Y m) (n + m) ∧ Oth c w w' ∧ w.heap.size < w'.heap.size := by
  refine (multiply_any c 2 a a' b off n cap b' off' m cap' X Y w hn hm hX hY hXl hYl B.c2 (B.f 2)).mono ?_
  rintro e w' ⟨rfl, w2, P, s, r, hP, hv, rfl⟩
  have M := (Marked.refl w2 c).setCell 2 (.slice (some ⟨w.heap.size, 0, none⟩) (tlen (nz P) (n + m)) (n + m))
  exact ⟨rfl, _, (B.keep s).set2 _, (natAt_row r hP hv).marked M (Nat.ne_of_gt B.lt), (Oth.ofSince c s).trans (Oth.ofMarked M), by rw [M.size]; exact r.lt⟩

set_option maxHeartbeats 1600000 in
set_option maxRecDepth 100000 in
/-- (*fraction).multiply. -/
theorem fracMul_any (c : Nat) (f f' : Bool) (a b a' b' : Option Addr) (ba oa n ca bb ob m cb ba' oa' n' ca' bb' ob' m' cb' : Nat) (X Y X' Y' : Nat → Nat) (w : World) (hn : n ≤ 16777216) (hm : m ≤ 16777216) (hn' : n' ≤ 16777216) (hm' : m' ≤ 16777216)
    (hX : Limbs w a ba oa n X) (hY : Limbs w b bb ob m Y) (hX' : Limbs w a' ba' oa' n' X') (hY' : Limbs w b' bb' ob' m' Y') (hXl : ∀ j, j < n → X j < 4294967296) (hYl : ∀ j, j < m → Y j < 4294967296) (hXl' : ∀ j, j < n' → X' j < 4294967296) (hYl' : ∀ j, j < m' → Y' j < 4294967296)
    (ea : 0 < n → ba ≠ c) (eb : 0 < m → bb ≠ c) (ea' : 0 < n' → ba' ≠ c) (eb' : 0 < m' → bb' ≠ c) (B : Box3 w c (.bool f) (.slice a n ca) (.slice b m cb)) :
    Calls Tryz.prog 142 #[.pointer (some ⟨c, 0, none⟩), .agg #[.bool f', .slice a' n' ca', .slice b' m' cb']] w fun e w' => e = .returned (.tuple #[]) ∧ ∃ v1 v2 g h, Box3 w' c (.bool (f != f')) v1 v2 ∧
      NatAt w' v1 g (lv X n * lv X' n') (n + n') ∧ NatAt w' v2 h (lv Y m * lv Y' m') (m + m') ∧ w.heap.size ≤ g ∧ g < h ∧ h < w'.heap.size ∧ Oth c w w' := by
  have sA : w.Since w.heap.size (w.alloc (.cells #[.bool f', .slice a' n' ca', .slice b' m' cb'] 129)) := (World.Since.refl _ _).alloc (Nat.le_refl _) _
  have gA := Box3.new w (.bool f') (.slice a' n' ca') (.slice b' m' cb') 129
  have k0 := B.c0
  have kf := B.f 0
  have BA := B.keep sA
  have hcl := B.lt
  go_enter Tryz.func142, Tryz.ntmps142
  go_wp2
  have g0 := gA.c0
  have kA := BA.c0
  have kB := BA.f 0
  have M0 := (Marked.refl w c).setCell 0 (.bool (!(f == f')))
  have tS : (w.setCell ⟨c, 0, none⟩ (.bool (!(f == f')))).Since (w.setCell ⟨c, 0, none⟩ (.bool (!(f == f')))).heap.size ((w.setCell ⟨c, 0, none⟩ (.bool (!(f == f')))).alloc (.cells #[.bool f', .slice a' n' ca', .slice b' m' cb'] 129)).drew := by
    have h := (World.Since.refl _ (w.setCell ⟨c, 0, none⟩ (.bool (!(f == f'))))).alloc (Nat.le_refl _) (.cells #[.bool f', .slice a' n' ca', .slice b' m' cb'] 129)
    exact ⟨h.os, h.tape, h.output, h.size, h.block⟩
  have B1 : Box3 ((w.setCell ⟨c, 0, none⟩ (.bool (!(f == f')))).alloc (.cells #[.bool f', .slice a' n' ca', .slice b' m' cb'] 129)).drew c (.bool (!(f == f'))) (.slice a n ca) (.slice b m cb) := (B.set0 _).keep tS
  have G1 : Box3 ((w.setCell ⟨c, 0, none⟩ (.bool (!(f == f')))).alloc (.cells #[.bool f', .slice a' n' ca', .slice b' m' cb'] 129)).drew w.heap.size (.bool f') (.slice a' n' ca') (.slice b' m' cb') := by
    have h := Box3.new (w.setCell ⟨c, 0, none⟩ (.bool (!(f == f')))) (.bool f') (.slice a' n' ca') (.slice b' m' cb') 129
    rw [M0.size] at h
    exact ⟨h.c0, h.c1, h.c2, h.f⟩
  have O1 : Oth c w ((w.setCell ⟨c, 0, none⟩ (.bool (!(f == f')))).alloc (.cells #[.bool f', .slice a' n' ca', .slice b' m' cb'] 129)).drew := (Oth.ofMarked M0).trans (Oth.ofSince c tS)
  have z1 : w.heap.size < ((w.setCell ⟨c, 0, none⟩ (.bool (!(f == f')))).alloc (.cells #[.bool f', .slice a' n' ca', .slice b' m' cb'] 129)).drew.heap.size := G1.lt
  clear tS M0 gA BA sA B
  go_region_with (fail)
  all_goals
    generalize ((w.setCell ⟨c, 0, none⟩ (.bool (!(f == f')))).alloc (.cells #[.bool f', .slice a' n' ca', .slice b' m' cb'] 129)).drew = w1 at *
    have k2 := G1.c1
    have JA := mulAt1 c _ _ a a' ba oa n ca ba' oa' n' ca' X X' w1.drew (by omega) (by omega) (hX.oth O1.drew ea) (hX'.oth O1.drew ea') hXl hXl' B1.drew
    go_wp2
    go_region_held3 (fun w' => w'.cell? ⟨w.heap.size, 1, none⟩ = some (.slice a' n' ca')) (go_keep)
      (first
        | (go_at_call 124
           with_reducible refine JA.mono ?_
           rintro e w2 ⟨rfl, v1, B2, N1, O2, z2⟩
           have G2 := G1.drew.oth O2 (by omega)
           have O12 := O1.drew.trans O2
           have i1 := G2.c1))
    have k3 := G2.c2
    have JB := mulAt2 c _ _ b b' bb ob m cb bb' ob' m' cb' Y Y' w2.drew (by omega) (by omega) (hY.oth O12.drew eb) (hY'.oth O12.drew eb') hYl hYl' B2.drew
    go_wp2
    go_region_held3 (fun w' => w'.cell? ⟨w.heap.size, 2, none⟩ = some (.slice b' m' cb')) (go_keep)
      (first
        | (go_at_call 124
           with_reducible refine JB.mono ?_
           rintro e w3 ⟨rfl, v2, B3, N2, O3, z3⟩
           have i2 := (G2.drew.oth O3 (by omega)).c2))
    go_wp2
    go_end0
    exact ⟨rfl, v1, v2, w1.heap.size, w2.heap.size, B3, N1.drew.oth O3 (by show w1.heap.size ≠ _; omega), N2, by omega, z2, z3, O12.drew.trans O3⟩

end Go.Proofs.YtkhpggnnpfckdaaGreatDoor

namespace Go.Proofs.YtkhpggnnpfckdaaGreatDoor
open Go.RowKit

set_option maxHeartbeats 1600000 in
set_option maxRecDepth 100000 in
theorem l1AllOk_any (a : Option Addr) (lo b off n cap : Nat) (R : Nat → RatD) (w : World) (hn : n ≤ 16777216) (hs : szR R n ≤ 16777216) (H : Rats w lo a b off n R) :
    Calls Tryz.prog 31 #[.slice a n cap] w fun e w' => ∃ r : Bool, e = .returned (.bool r) ∧ (r = true ↔ RatsOk R n) ∧ w.Since w.heap.size w' := by
  go_enter Tryz.func31, Tryz.ntmps31
  go_wp2
  go_loopw [3] (fun i wr => ∃ k : Nat, k ≤ n ∧ i = .int .i64 k ∧ w.Since w.heap.size wr ∧ RatsOk R k) (fun i _ => n - (intOf i).toNat)
  case atStart => exact ⟨0, Nat.zero_le _, rfl, World.Since.refl _ _, fun i hi => absurd hi (by omega)⟩
  case round =>
    obtain ⟨k, hk, rfl, s, O⟩ := hrel
    by_cases hlt : k < n
    · obtain ⟨rfl, a1, a2, k1, k2, M⟩ := H k hlt
      have M' := M.keep s
      have g0 := M'.c0
      have g1 := M'.c1
      have g2 := M'.c2
      have hz : (k : Int) < (n : Int) := by omega
      have hsz := szR_at (R := R) hlt
      obtain ⟨ba, oa, -, LX⟩ := M'.L.LX
      obtain ⟨bb, ob, -, LY⟩ := M'.L.LY
      have J1 := specRatOk_any (R k).neg a1 a2 ba oa (R k).n k1 bb ob (R k).m k2 (R k).X (R k).Y wr (by omega) (by omega) LX LY M.L.lX M.L.lY
      rw [show ratOkB (R k).neg (R k).X (R k).n (R k).Y (R k).m = (R k).ok from rfl] at J1
      cases hok : (R k).ok
      · have HK := hide hok
        rw [hok] at J1
        clear hok
        go_wp2_with fail
        refine J1.mono ?_
        rintro e w2 ⟨rfl, s2⟩
        go_wp2
        go_ret
        refine ⟨false, rfl, ⟨(fun h => by cases h), fun h => ?_⟩, s.trans (sinceMono s2 s.size)⟩
        have := h k hlt
        rw [HK.out] at this
        cases this
      · have HK := hide hok
        rw [hok] at J1
        clear hok
        go_wp2_with fail
        refine J1.mono ?_
        rintro e w2 ⟨rfl, s2⟩
        go_wp2
        go_roundw
        case rel =>
          refine ⟨k + 1, by omega, by go_num, s.trans (sinceMono s2 s.size), fun i hi => ?_⟩
          by_cases e : i = k
          · subst e; exact HK.out
          · exact O i (by omega)
        case measure => simp [intOf]; omega
    · have e : k = n := by omega
      subst e
      go_wp2
      go_ret
      exact ⟨true, rfl, ⟨fun _ => O, fun _ => rfl⟩, s⟩

set_option maxHeartbeats 800000 in
set_option maxRecDepth 100000 in
theorem l2In_yes (x a b : Int) (w : World) (h1 : a ≤ x) (h2 : x ≤ b) :
    Calls Tryz.prog 46 #[.int .i64 x, .int .i64 a, .int .i64 b] w fun e w' => e = .returned (.bool true) ∧ w' = w := by
  go_enter Tryz.func46, Tryz.ntmps46
  go_wp2
  go_ret
  exact ⟨rfl, rfl⟩

set_option maxHeartbeats 800000 in
set_option maxRecDepth 100000 in
theorem l2In_no (x a b : Int) (w : World) (h : ¬ (a ≤ x ∧ x ≤ b)) :
    Calls Tryz.prog 46 #[.int .i64 x, .int .i64 a, .int .i64 b] w fun e w' => e = .returned (.bool false) ∧ w' = w := by
  by_cases h1 : a ≤ x
  · have h2 : ¬ x ≤ b := fun h2 => h ⟨h1, h2⟩
    clear h
    go_enter Tryz.func46, Tryz.ntmps46
    go_wp2
    go_ret
    exact ⟨rfl, rfl⟩
  · clear h
    go_enter Tryz.func46, Tryz.ntmps46
    go_wp2
    go_ret
    exact ⟨rfl, rfl⟩

/-- The sides are in their bounds. -/
def AffD.sides (d : AffD) : Prop := 0 ≤ d.rows ∧ d.rows ≤ 20000 ∧ 0 ≤ d.cols ∧ d.cols ≤ 20000

/-- .. and the lists as long as they say. -/
def AffD.shape (d : AffD) : Prop := d.sides ∧ (d.nw : Int) = d.rows * d.cols ∧ (d.nb : Int) = d.rows

/-- The cells of a map. -/
def AffD.cells (d : AffD) : Int := d.rows * (d.cols + 1)

def AffD.vals (d : AffD) : Prop := RatsOk d.W d.nw ∧ RatsOk d.B d.nb

theorem AffD.sides.bounds {d : AffD} (h : d.sides) : 0 ≤ d.cells ∧ d.cells ≤ 400020000 ∧ 0 ≤ d.rows * d.cols ∧ d.rows * d.cols ≤ 400000000 := by
  obtain ⟨h0, h1, h2, h3⟩ := h
  have a1 : d.rows * d.cols ≤ 20000 * 20000 := Int.mul_le_mul h1 h3 h2 (by omega)
  have a2 : 0 ≤ d.rows * d.cols := Int.mul_nonneg h0 h2
  have e : d.cells = d.rows * d.cols + d.rows := by unfold AffD.cells; rw [Int.mul_add, Int.mul_one]
  omega

set_option maxHeartbeats 800000 in
set_option maxRecDepth 100000 in
theorem l3Cells_any (d : AffD) (v2 v3 : Value) (w : World) (h : d.sides) :
    Calls Tryz.prog 64 #[.agg #[.int .i64 d.rows, .int .i64 d.cols, v2, v3]] w fun e w' => e = .returned (.int .i64 d.cells) ∧ w.Since w.heap.size w' := by
  have sA : w.Since w.heap.size (w.alloc (.cells #[.int .i64 d.rows, .int .i64 d.cols, v2, v3] 66)) := (World.Since.refl _ _).alloc (Nat.le_refl _) _
  have hb := h.bounds
  unfold AffD.cells at hb ⊢
  obtain ⟨h0, h1, h2, h3⟩ := h
  go_enter Tryz.func64, Tryz.ntmps64
  go_wp2
  go_ret
  exact ⟨rfl, sA⟩

set_option maxHeartbeats 3200000 in
set_option maxRecDepth 100000 in
theorem l3MapOk_any (d : AffD) (a1 a2 : Option Addr) (lo k1 k2 : Nat) (w : World) (hd : d.size ≤ 16777216) (H : AffL w lo d a1 a2 k1 k2) :
    Calls Tryz.prog 63 #[.agg #[.int .i64 d.rows, .int .i64 d.cols, .slice a1 d.nw k1, .slice a2 d.nb k2]] w fun e w' => ∃ r : Bool, e = .returned (.bool r) ∧ (r = true ↔ d.shape ∧ d.cells ≤ 20000 ∧ d.vals) ∧ w.Since w.heap.size w' := by
  have ts := hd
  unfold AffD.size at ts
  have sA : w.Since w.heap.size (w.alloc (.cells #[.int .i64 d.rows, .int .i64 d.cols, .slice a1 d.nw k1, .slice a2 d.nb k2] 66)) := (World.Since.refl _ _).alloc (Nat.le_refl _) _
  have bA := Box4.new w (.int .i64 d.rows) (.int .i64 d.cols) (.slice a1 d.nw k1) (.slice a2 d.nb k2) 66
  by_cases hr : 0 ≤ d.rows ∧ d.rows ≤ 20000
  rotate_left
  · have HN := hide (show ¬ d.shape from fun h => hr ⟨h.1.1, h.1.2.1⟩)
    go_enter Tryz.func63, Tryz.ntmps63
    go_wp2_with fail
    refine (l2In_no d.rows 0 20000 _ hr).mono ?_
    rintro e w1 ⟨rfl, rfl⟩
    clear hr
    go_wp2
    go_ret
    exact ⟨false, rfl, ⟨(fun h => by cases h), fun h => absurd h.1 HN.out⟩, sA⟩
  by_cases hc : 0 ≤ d.cols ∧ d.cols ≤ 20000
  rotate_left
  · have HN := hide (show ¬ d.shape from fun h => hc ⟨h.1.2.2.1, h.1.2.2.2⟩)
    go_enter Tryz.func63, Tryz.ntmps63
    go_wp2_with fail
    refine (l2In_yes d.rows 0 20000 _ hr.1 hr.2).mono ?_
    rintro e w1 ⟨rfl, rfl⟩
    go_wp2_with fail
    refine (l2In_no d.cols 0 20000 _ hc).mono ?_
    rintro e w1 ⟨rfl, rfl⟩
    clear hr hc
    go_wp2
    go_ret
    exact ⟨false, rfl, ⟨(fun h => by cases h), fun h => absurd h.1 HN.out⟩, sA⟩
  have hS : d.sides := ⟨hr.1, hr.2, hc.1, hc.2⟩
  have hb := hS.bounds
  obtain ⟨hr0, hr1⟩ := hr
  obtain ⟨hc0, hc1⟩ := hc
  obtain ⟨hb0, hb1, hb2, hb3⟩ := hb
  by_cases hw : (d.nw : Int) = d.rows * d.cols
  rotate_left
  · have HN := hide (show ¬ d.shape from fun h => hw h.2.1)
    go_enter Tryz.func63, Tryz.ntmps63
    go_wp2_with fail
    refine (l2In_yes d.rows 0 20000 _ hr0 hr1).mono ?_
    rintro e w1 ⟨rfl, rfl⟩
    go_wp2_with fail
    refine (l2In_yes d.cols 0 20000 _ hc0 hc1).mono ?_
    rintro e w1 ⟨rfl, rfl⟩
    go_wp2
    go_ret
    exact ⟨false, rfl, ⟨(fun h => by cases h), fun h => absurd h.1 HN.out⟩, sA⟩
  by_cases hv : (d.nb : Int) = d.rows
  rotate_left
  · have HN := hide (show ¬ d.shape from fun h => hv h.2.2)
    go_enter Tryz.func63, Tryz.ntmps63
    go_wp2_with fail
    refine (l2In_yes d.rows 0 20000 _ hr0 hr1).mono ?_
    rintro e w1 ⟨rfl, rfl⟩
    go_wp2_with fail
    refine (l2In_yes d.cols 0 20000 _ hc0 hc1).mono ?_
    rintro e w1 ⟨rfl, rfl⟩
    go_wp2
    go_ret
    exact ⟨false, rfl, ⟨(fun h => by cases h), fun h => absurd h.1 HN.out⟩, sA⟩
  have HS := hide (show d.shape from ⟨hS, hw, hv⟩)
  have q1 : ((d.nw : Int) != d.rows * d.cols) = false := by simpa using hw
  have q2 : ((d.nb : Int) != d.rows) = false := by simpa using hv
  clear hw hv
  go_enter Tryz.func63, Tryz.ntmps63
  go_wp2_with fail
  refine (l2In_yes d.rows 0 20000 _ hr0 hr1).mono ?_
  rintro e w1 ⟨rfl, rfl⟩
  go_wp2_with fail
  refine (l2In_yes d.cols 0 20000 _ hc0 hc1).mono ?_
  rintro e w1 ⟨rfl, rfl⟩
  go_wp2_with fail
  refine (l3Cells_any d _ _ _ hS).mono ?_
  rintro e w1 ⟨rfl, s1⟩
  have B1 := bA.keep s1
  have b2 := B1.c2
  have b3 := B1.c3
  have S1 : w.Since w.heap.size w1 := sA.trans (sinceMono s1 sA.size)
  obtain ⟨ba, oa, -, LW⟩ := (H.keep S1).LW
  obtain ⟨bb, ob, -, LB⟩ := (H.keep S1).LB
  by_cases hcl : d.cells ≤ 20000
  rotate_left
  · have hg : 20000 < d.cells := by omega
    have HN := hide hcl
    clear hcl bA
    go_wp2
    go_ret
    exact ⟨false, rfl, ⟨(fun h => by cases h), fun h => absurd h.2.1 (by have := HN.out; omega)⟩, S1⟩
  have hg : ¬ 20000 < d.cells := by omega
  have HC := hide hcl
  clear hcl bA
  go_wp2_with fail
  refine (l1AllOk_any a1 lo ba oa d.nw k1 d.W w1 (by omega) (by omega) LW).mono ?_
  rintro e w2 ⟨r1, rfl, i1, s2⟩
  have I1 := hide i1
  clear i1
  cases r1
  · go_wp2
    go_ret
    exact ⟨false, rfl, ⟨(fun h => by cases h), fun h => absurd (I1.out.2 h.2.2.1) (by simp)⟩, S1.trans (sinceMono s2 S1.size)⟩
  · have b3' := (B1.keep s2).c3
    clear b2 b3
    go_wp2_with fail
    refine (l1AllOk_any a2 lo bb ob d.nb k2 d.B w2 (by omega) (by omega) (LB.keep s2)).mono ?_
    rintro e w3 ⟨r2, rfl, i2, s3⟩
    have I2 := hide i2
    clear i2
    go_wp2
    go_ret
    exact ⟨r2, rfl, ⟨fun h => ⟨HS.out, HC.out, I1.out.1 (by simp), I2.out.1 h⟩, fun h => I2.out.2 h.2.2.2⟩, (S1.trans (sinceMono s2 S1.size)).trans (sinceMono s3 (Nat.le_trans S1.size s2.size))⟩

/-- The cells of the first k maps. -/
def sumC (A : Nat → AffD) : Nat → Int
  | 0 => 0
  | k + 1 => sumC A k + (A k).cells

theorem sumC_succ (A : Nat → AffD) (k : Nat) : sumC A (k + 1) = sumC A k + (A k).cells := rfl

/-- What NetOk asks. -/
structure NetP (n : Nat) (A : Nat → AffD) : Prop where
  n0 : 1 ≤ n
  n1 : n ≤ 10000
  shape : ∀ k, k < n → (A k).shape
  chain : ∀ k, k < n → 0 < k → (A k).cols = (A (k - 1)).rows
  sum : sumC A n ≤ 20000
  vals : ∀ k, k < n → (A k).vals

theorem sumC_bound {A : Nat → AffD} {k : Nat} (h : ∀ j, j < k → (A j).shape) : 0 ≤ sumC A k ∧ sumC A k ≤ 400020000 * k := by
  induction k with
  | zero => simp [sumC]
  | succ k ih =>
    obtain ⟨h1, h2⟩ := ih (fun j hj => h j (by omega))
    obtain ⟨h3, h4, -, -⟩ := (h k (by omega)).1.bounds
    rw [sumC_succ]
    omega

theorem sumC_mono {A : Nat → AffD} {k n : Nat} (h : ∀ j, j < n → (A j).shape) (hk : k ≤ n) : sumC A k ≤ sumC A n := by
  induction n with
  | zero => simp at hk; subst hk; exact Int.le_refl _
  | succ n ih =>
    rcases Nat.lt_or_ge n k with h1 | h1
    · have : k = n + 1 := by omega
      subst this; exact Int.le_refl _
    · have := ih (fun j hj => h j (by omega)) h1
      have := (h n (by omega)).1.bounds
      rw [sumC_succ]
      omega

theorem NetP.cells {n : Nat} {A : Nat → AffD} (h : NetP n A) {k : Nat} (hk : k < n) : (A k).cells ≤ 20000 := by
  have h1 := sumC_mono h.shape (show k + 1 ≤ n from hk)
  have h2 := (sumC_bound (A := A) (k := k) (fun j hj => h.shape j (by omega))).1
  have h3 := h.sum
  rw [sumC_succ] at h1
  omega

end Go.Proofs.YtkhpggnnpfckdaaGreatDoor

namespace Go.Proofs.YtkhpggnnpfckdaaGreatDoor
open Go.RowKit

set_option maxHeartbeats 1600000 in
set_option maxRecDepth 100000 in
theorem toAffineS_any (a : Option Addr) (lo b off n cap : Nat) (A : Nat → AffD) (w : World) (hn : n ≤ 16777216) (hs : szA A n ≤ 16777216) (H : Affs w lo a b off n A) :
    Calls Tryz.prog 33 #[.slice a n cap] w fun e w' => ∃ c, e = .returned (.slice (some ⟨c, 0, none⟩) n n) ∧ w.heap.size ≤ c ∧ c < w'.heap.size ∧ Affs w' (c + 1) (some ⟨c, 0, none⟩) c 0 n A ∧ w.Since w.heap.size w' := by
  have hmk := run_make_wide (P := Tryz.prog) 31 66 _ 4 64 Tryz.underlying31 info_Affine .i64 .i64 n (by omega) (by omega)
  have sA := (World.Since.refl w.heap.size w).alloc (Nat.le_refl _) (.cells (madeCells #[.int .i64 0, .int .i64 0, .slice none 0 0, .slice none 0 0] (n * 4)) 66)
  have rA := Room.new w #[.int .i64 0, .int .i64 0, .slice none 0 0, .slice none 0 0] (n * 4) 66
  go_enter Tryz.func33, Tryz.ntmps33
  go_wp2
  go_loopw [4] (fun i wr => ∃ k : Nat, k ≤ n ∧ i = .int .i64 k ∧ w.Since w.heap.size wr ∧ Room wr w.heap.size (n * 4) ∧ Affs wr (w.heap.size + 1) (some ⟨w.heap.size, 0, none⟩) w.heap.size 0 k A) (fun i _ => n - (intOf i).toNat)
  case atStart => exact ⟨0, Nat.zero_le _, rfl, sA, rA, fun i hi => absurd hi (by omega)⟩
  case round =>
    obtain ⟨k, hk, rfl, s, r, T⟩ := hrel
    by_cases hlt : k < n
    · obtain ⟨rfl, a1, a2, k1, k2, M⟩ := H k hlt
      have M' := M.keep s
      have g0 := M'.c0
      have g1 := M'.c1
      have g2 := M'.c2
      have g3 := M'.c3
      have hz : (k : Int) < (n : Int) := by omega
      have hsz := szA_at (A := A) hlt
      go_wp2_with fail
      refine (toAffine_any (A k) a1 a2 lo k1 k2 wr (by omega) M'.L).mono ?_
      rintro e w2 ⟨b1, b2, rfl, L2, s2⟩
      have r2 := r.keep s2
      have T2 := T.keep s2
      have S2 : w.Since w.heap.size w2 := s.trans (sinceMono s2 s.size)
      obtain ⟨v0, u0⟩ := r2.cell (k * 4) (by omega)
      obtain ⟨v1, u1⟩ := r2.cell (k * 4 + 1) (by omega)
      obtain ⟨v2, u2⟩ := r2.cell (k * 4 + 2) (by omega)
      obtain ⟨v3, u3⟩ := r2.cell (k * 4 + 3) (by omega)
      have f0 := r2.f (k * 4)
      have f1 := r2.f (k * 4 + 1)
      have f2 := r2.f (k * 4 + 2)
      have f3 := r2.f (k * 4 + 3)
      have rl := r.lt
      clear g0 g1 g2 g3
      go_wp2
      go_roundw
      case rel =>
        go_light
        obtain ⟨w3, e3, M3, R3, x0, x1, x2, x3, xo⟩ := put4 (q := k * 4) r2 (by omega) (.int .i64 (A k).rows) (.int .i64 (A k).cols) (.slice b1 (A k).nw (A k).nw) (.slice b2 (A k).nb (A k).nb)
        rw [← e3]
        exact ⟨k + 1, by omega, by go_num, S2.trans (M3.since (Nat.le_refl _)), R3, T2.put M3 (fun o ho => xo o (by omega)) (L2.down (by omega)) x0 x1 x2 x3⟩
      case measure => simp [intOf]; omega
    · have e : k = n := by omega
      subst e
      have rl := r.lt
      go_wp2
      go_ret
      exact ⟨w.heap.size, rfl, Nat.le_refl _, rl, T, s⟩

theorem Affs.marked {w w' : World} {lo b off n c : Nat} {a : Option Addr} {A : Nat → AffD} (h : Affs w lo a b off n A) (s : Marked w w' c) (hc : c < lo) (hb : 0 < n → b ≠ c) : Affs w' lo a b off n A := fun i hi => by
  obtain ⟨h1, a1, a2, k1, k2, m⟩ := h i hi
  have hb := hb (by omega)
  exact ⟨h1, a1, a2, k1, k2, (s.cell (a := ⟨b, off + i * 4, none⟩) hb).trans m.c0, (s.cell (a := ⟨b, off + i * 4 + 1, none⟩) hb).trans m.c1, (s.cell (a := ⟨b, off + i * 4 + 2, none⟩) hb).trans m.c2, (s.cell (a := ⟨b, off + i * 4 + 3, none⟩) hb).trans m.c3, m.L.marked s hc⟩

set_option maxHeartbeats 1600000 in
set_option maxRecDepth 100000 in
theorem toNet_any (a : Option Addr) (lo b off n cap : Nat) (A : Nat → AffD) (w : World) (hn : n ≤ 16777216) (hs : szA A n ≤ 16777216) (H : Affs w lo a b off n A) :
    Calls Tryz.prog 9 #[.agg #[.slice a n cap]] w fun e w' => ∃ c, e = .returned (.agg #[.slice (some ⟨c, 0, none⟩) n n]) ∧ w.heap.size ≤ c ∧ c < w'.heap.size ∧ Affs w' (c + 1) (some ⟨c, 0, none⟩) c 0 n A ∧ w.Since w.heap.size w' := by
  obtain ⟨wA, eA⟩ : ∃ wA : World, wA = ((w.alloc (.cells #[.slice a n cap] 24)).alloc (.cells #[.slice none 0 0] 33)).alloc (.cells #[.slice none 0 0] 33) := ⟨_, rfl⟩
  have sA : w.Since w.heap.size wA := by rw [eA]; exact (((World.Since.refl _ _).alloc (Nat.le_refl _) _).alloc (by simp) _).alloc (by simp; omega) _
  have zA : wA.heap.size = w.heap.size + 1 + 1 + 1 := by rw [eA]; simp
  have rA : Box1 wA (w.heap.size + 1) (.slice none 0 0) := by
    rw [eA]
    have := (Box1.new (w.alloc (.cells #[.slice a n cap] 24)) (.slice none 0 0) 33).keep ((World.Since.refl _ _).alloc (Nat.le_refl _) (.cells #[.slice none 0 0] 33))
    simpa using this
  have oA : Box1 wA (w.heap.size + 1 + 1) (.slice none 0 0) := by
    rw [eA]
    have := Box1.new ((w.alloc (.cells #[.slice a n cap] 24)).alloc (.cells #[.slice none 0 0] 33)) (.slice none 0 0) 33
    simpa using this
  have EA := hide eA
  clear eA
  go_enter Tryz.func9, Tryz.ntmps9
  go_wp2_with fail
  rw [← EA.out]
  refine (toAffineS_any a lo b off n cap A wA hn hs (H.keep sA)).mono ?_
  rintro e w1 ⟨g1, rfl, l1, l1', R1, s1⟩
  have S1 : w.Since w.heap.size w1 := sA.trans (sinceMono s1 sA.size)
  have Q1 := rA.keep s1
  have O1 := oA.keep s1
  have o0 := O1.c0
  have f0 := O1.f 0
  have q0 := Q1.c0
  have qf0 := Q1.f 0
  clear rA oA EA
  have M2 : Marked w1 (w1.setCell ⟨w.heap.size + 1 + 1, 0, none⟩ (.slice (some ⟨g1, 0, none⟩) n n)) (w.heap.size + 1 + 1) := (Marked.refl w1 _).setCell _ _
  go_wp2
  have Q2 := (Q1.marked M2 (by omega)).set0 (.slice (some ⟨g1, 0, none⟩) n n)
  refine bodyPost_ret (results_box1T rfl Tryz.underlying33 rfl size_Net _ _ _ _ rfl Q2) rfl ?_
  have M5 : Marked (w1.setCell ⟨w.heap.size + 1 + 1, 0, none⟩ (.slice (some ⟨g1, 0, none⟩) n n)) _ (w.heap.size + 1) := (Marked.refl _ _).setCell 0 (.slice (some ⟨g1, 0, none⟩) n n)
  exact ⟨g1, rfl, by omega, by rw [M5.size, M2.size]; exact l1', (R1.marked M2 (by omega) (fun _ => by omega)).marked M5 (by omega) (fun _ => by omega), (S1.trans (M2.since (by omega))).trans (M5.since (by omega))⟩

end Go.Proofs.YtkhpggnnpfckdaaGreatDoor

namespace Go.Proofs.YtkhpggnnpfckdaaGreatDoor
open Go.RowKit

set_option maxHeartbeats 1600000 in
set_option maxRecDepth 100000 in
theorem eqRatS_true (a a' : Option Addr) (lo b off cap lo' b' off' cap' n : Nat) (R : Nat → RatD) (w : World) (hn : n ≤ 16777216) (hs : szR R n ≤ 16777216) (H : Rats w lo a b off n R) (H' : Rats w lo' a' b' off' n R) :
    Calls Tryz.prog 12 #[.slice a n cap, .slice a' n cap'] w fun e w' => e = .returned (.bool true) ∧ w.Since w.heap.size w' := by
  go_enter Tryz.func12, Tryz.ntmps12
  go_wp2
  go_loopw [5] (fun i wr => ∃ k : Nat, k ≤ n ∧ i = .int .i64 k ∧ w.Since w.heap.size wr) (fun i _ => n - (intOf i).toNat)
  case atStart => exact ⟨0, Nat.zero_le _, rfl, World.Since.refl _ _⟩
  case round =>
    obtain ⟨k, hk, rfl, s⟩ := hrel
    by_cases hlt : k < n
    · obtain ⟨rfl, a1, a2, k1, k2, M⟩ := H k hlt
      obtain ⟨rfl, a1', a2', k1', k2', M'⟩ := H' k hlt
      have sd : w.Since w.heap.size wr.drew := ⟨s.os, s.tape, s.output, s.size, s.block⟩
      have N := M.keep s
      have N' := M'.keep s
      have g0 := N.c0
      have g1 := N.c1
      have g2 := N.c2
      have g0' := N'.c0
      have g1' := N'.c1
      have g2' := N'.c2
      have hsz := szR_at (R := R) hlt
      have hz : (k : Int) < (n : Int) := by omega
      obtain ⟨ba, oa, -, LX⟩ := (M.L.keep sd).LX
      obtain ⟨bb, ob, -, LY⟩ := (M.L.keep sd).LY
      obtain ⟨ba', oa', -, LX'⟩ := (M'.L.keep sd).LX
      obtain ⟨bb', ob', -, LY'⟩ := (M'.L.keep sd).LY
      have J1 := eqRat_true (R k).neg a1 a1' a2 a2' ba oa ba' oa' (R k).n k1 k1' bb ob bb' ob' (R k).m k2 k2' (R k).X (R k).Y wr.drew (by omega) (by omega) LX LX' LY LY'
      clear LX LY LX' LY' N N'
      go_wp2_with fail
      go_region_held3 (fun w' => w'.cell? ⟨b, off + k * 3, none⟩ = some (.bool (R k).neg) ∧ w'.cell? ⟨b, off + k * 3 + 1, none⟩ = some (.slice a1 (R k).n k1) ∧ w'.cell? ⟨b, off + k * 3 + 2, none⟩ = some (.slice a2 (R k).m k2) ∧ w'.cell? ⟨b', off' + k * 3, none⟩ = some (.bool (R k).neg) ∧ w'.cell? ⟨b', off' + k * 3 + 1, none⟩ = some (.slice a1' (R k).n k1') ∧ w'.cell? ⟨b', off' + k * 3 + 2, none⟩ = some (.slice a2' (R k).m k2')) (go_keep)
        (first
          | (go_at_call 40
             with_reducible refine J1.mono ?_
             rintro e w1 ⟨rfl, s1⟩
             have S1 : w.Since w.heap.size w1 := sd.trans (sinceMono s1 sd.size)
             have i0 := (M.keep S1).c0
             have i1 := (M.keep S1).c1
             have i2 := (M.keep S1).c2
             have i0' := (M'.keep S1).c0
             have i1' := (M'.keep S1).c1
             have i2' := (M'.keep S1).c2))
      all_goals go_wp2
      all_goals go_roundw
      case rel => exact ⟨k + 1, by omega, by go_num, S1⟩
      case measure => simp [intOf]; omega
    · go_wp2
      go_ret
      exact ⟨rfl, s⟩

set_option maxHeartbeats 1600000 in
set_option maxRecDepth 100000 in
theorem eqAffine_true (d : AffD) (a1 a2 a1' a2' : Option Addr) (lo k1 k2 lo' k1' k2' : Nat) (w : World) (hd : d.size ≤ 16777216) (H : AffL w lo d a1 a2 k1 k2) (H' : AffL w lo' d a1' a2' k1' k2') :
    Calls Tryz.prog 78 #[.agg #[.int .i64 d.rows, .int .i64 d.cols, .slice a1 d.nw k1, .slice a2 d.nb k2], .agg #[.int .i64 d.rows, .int .i64 d.cols, .slice a1' d.nw k1', .slice a2' d.nb k2']] w fun e w' => e = .returned (.bool true) ∧ w.Since w.heap.size w' := by
  have ts := hd
  unfold AffD.size at ts
  obtain ⟨wA, eA⟩ : ∃ wA : World, wA = (w.alloc (.cells #[.int .i64 d.rows, .int .i64 d.cols, .slice a1 d.nw k1, .slice a2 d.nb k2] 66)).alloc (.cells #[.int .i64 d.rows, .int .i64 d.cols, .slice a1' d.nw k1', .slice a2' d.nb k2'] 66) := ⟨_, rfl⟩
  have sA : w.Since w.heap.size wA := by rw [eA]; exact ((World.Since.refl _ _).alloc (Nat.le_refl _) _).alloc (by simp) _
  have bA : Box4 wA w.heap.size (.int .i64 d.rows) (.int .i64 d.cols) (.slice a1 d.nw k1) (.slice a2 d.nb k2) := by rw [eA]; exact (Box4.new w _ _ _ _ _).keep ((World.Since.refl _ _).alloc (Nat.le_refl _) _)
  have cA : Box4 wA (w.heap.size + 1) (.int .i64 d.rows) (.int .i64 d.cols) (.slice a1' d.nw k1') (.slice a2' d.nb k2') := by
    rw [eA]
    have := Box4.new (w.alloc (.cells #[.int .i64 d.rows, .int .i64 d.cols, .slice a1 d.nw k1, .slice a2 d.nb k2] 66)) (.int .i64 d.rows) (.int .i64 d.cols) (.slice a1' d.nw k1') (.slice a2' d.nb k2') 66
    simpa using this
  obtain ⟨b1, o1, -, W1⟩ := (H.keep sA).LW
  obtain ⟨b2, o2, -, W2⟩ := (H'.keep sA).LW
  obtain ⟨b3, o3, -, B1⟩ := (H.keep sA).LB
  obtain ⟨b4, o4, -, B2⟩ := (H'.keep sA).LB
  have J1 := eqRatS_true a1 a1' lo b1 o1 k1 lo' b2 o2 k1' d.nw d.W wA (by omega) (by omega) W1 W2
  have EA := hide eA
  clear eA
  go_enter Tryz.func78, Tryz.ntmps78
  go_wp2_with fail
  rw [← EA.out]
  refine J1.mono ?_
  rintro e w1 ⟨rfl, s1⟩
  have J2 := eqRatS_true a2 a2' lo b3 o3 k2 lo' b4 o4 k2' d.nb d.B w1 (by omega) (by omega) (B1.keep s1) (B2.keep s1)
  have q1 := (bA.keep s1).c3
  have q2 := (cA.keep s1).c3
  clear J1 EA bA cA
  go_wp2_with fail
  refine J2.mono ?_
  rintro e w2 ⟨rfl, s2⟩
  go_wp2
  go_ret
  exact ⟨rfl, sA.trans (sinceMono (s1.trans (sinceMono s2 s1.size)) sA.size)⟩

set_option maxHeartbeats 1600000 in
set_option maxRecDepth 100000 in
theorem eqAffineS_true (a a' : Option Addr) (lo b off cap lo' b' off' cap' n : Nat) (A : Nat → AffD) (w : World) (hn : n ≤ 16777216) (hs : szA A n ≤ 16777216) (H : Affs w lo a b off n A) (H' : Affs w lo' a' b' off' n A) :
    Calls Tryz.prog 41 #[.slice a n cap, .slice a' n cap'] w fun e w' => e = .returned (.bool true) ∧ w.Since w.heap.size w' := by
  go_enter Tryz.func41, Tryz.ntmps41
  go_wp2
  go_loopw [5] (fun i wr => ∃ k : Nat, k ≤ n ∧ i = .int .i64 k ∧ w.Since w.heap.size wr) (fun i _ => n - (intOf i).toNat)
  case atStart => exact ⟨0, Nat.zero_le _, rfl, World.Since.refl _ _⟩
  case round =>
    obtain ⟨k, hk, rfl, s⟩ := hrel
    by_cases hlt : k < n
    · obtain ⟨rfl, a1, a2, k1, k2, M⟩ := H k hlt
      obtain ⟨rfl, a1', a2', k1', k2', M'⟩ := H' k hlt
      have sd : w.Since w.heap.size wr.drew := ⟨s.os, s.tape, s.output, s.size, s.block⟩
      have N := M.keep s
      have N' := M'.keep s
      have g0 := N.c0
      have g1 := N.c1
      have g2 := N.c2
      have g3 := N.c3
      have g0' := N'.c0
      have g1' := N'.c1
      have g2' := N'.c2
      have g3' := N'.c3
      have hsz := szA_at (A := A) hlt
      have hz : (k : Int) < (n : Int) := by omega
      have J1 := eqAffine_true (A k) a1 a2 a1' a2' lo k1 k2 lo' k1' k2' wr.drew (by omega) (M.L.keep sd) (M'.L.keep sd)
      clear N N'
      go_wp2_with fail
      go_region_held3 (fun w' => w'.cell? ⟨b, off + k * 4, none⟩ = some (.int .i64 (A k).rows) ∧ w'.cell? ⟨b, off + k * 4 + 1, none⟩ = some (.int .i64 (A k).cols) ∧ w'.cell? ⟨b, off + k * 4 + 2, none⟩ = some (.slice a1 (A k).nw k1) ∧ w'.cell? ⟨b, off + k * 4 + 3, none⟩ = some (.slice a2 (A k).nb k2) ∧
          w'.cell? ⟨b', off' + k * 4, none⟩ = some (.int .i64 (A k).rows) ∧ w'.cell? ⟨b', off' + k * 4 + 1, none⟩ = some (.int .i64 (A k).cols) ∧ w'.cell? ⟨b', off' + k * 4 + 2, none⟩ = some (.slice a1' (A k).nw k1') ∧ w'.cell? ⟨b', off' + k * 4 + 3, none⟩ = some (.slice a2' (A k).nb k2')) (go_keep)
        (first
          | (go_at_call 78
             with_reducible refine J1.mono ?_
             rintro e w1 ⟨rfl, s1⟩
             have S1 : w.Since w.heap.size w1 := sd.trans (sinceMono s1 sd.size)
             have i0 := (M.keep S1).c0
             have i1 := (M.keep S1).c1
             have i2 := (M.keep S1).c2
             have i3 := (M.keep S1).c3
             have i0' := (M'.keep S1).c0
             have i1' := (M'.keep S1).c1
             have i2' := (M'.keep S1).c2
             have i3' := (M'.keep S1).c3))
      all_goals go_wp2
      all_goals go_roundw
      case rel => exact ⟨k + 1, by omega, by go_num, S1⟩
      case measure => simp [intOf]; omega
    · go_wp2
      go_ret
      exact ⟨rfl, s⟩

set_option maxHeartbeats 1600000 in
set_option maxRecDepth 100000 in
theorem eqNet_true (a a' : Option Addr) (lo b off cap lo' b' off' cap' n : Nat) (A : Nat → AffD) (w : World) (hn : n ≤ 16777216) (hs : szA A n ≤ 16777216) (H : Affs w lo a b off n A) (H' : Affs w lo' a' b' off' n A) :
    Calls Tryz.prog 13 #[.agg #[.slice a n cap], .agg #[.slice a' n cap']] w fun e w' => e = .returned (.bool true) ∧ w.Since w.heap.size w' := by
  have sA : w.Since w.heap.size ((w.alloc (.cells #[.slice a n cap] 33)).alloc (.cells #[.slice a' n cap'] 33)) := ((World.Since.refl _ _).alloc (Nat.le_refl _) _).alloc (by simp) _
  have J1 := eqAffineS_true a a' lo b off cap lo' b' off' cap' n A _ hn hs (H.keep sA) (H'.keep sA)
  go_enter Tryz.func13, Tryz.ntmps13
  go_wp2_with fail
  refine J1.mono ?_
  rintro e w1 ⟨rfl, s1⟩
  go_wp2
  go_ret
  exact ⟨rfl, sA.trans (sinceMono s1 sA.size)⟩

end Go.Proofs.YtkhpggnnpfckdaaGreatDoor

namespace Go.Proofs.YtkhpggnnpfckdaaGreatDoor
open Go.RowKit

theorem Tab.keepN {w w' : World} (h : Tab w) (hw : 0 < w.heap.size) (s : w.Since w.heap.size w') : Tab w' := fun q hq => by rw [s.cell (a := ⟨0, q, none⟩) hw]; exact h q hq

set_option maxHeartbeats 1600000 in
set_option maxRecDepth 100000 in
theorem allValid_any (a : Option Addr) (lo b off n cap : Nat) (R : Nat → RatD) (w : World) (hw : 0 < w.heap.size) (hT : Tab w) (hn : n ≤ 16777216) (hs : szR R n ≤ 16777216) (H : Rats w lo a b off n R) :
    Calls Tryz.prog 36 #[.slice a n cap] w fun e w' => ∃ r : Bool, e = .returned (.bool r) ∧ (r = true ↔ RatsOk R n) ∧ w.Since w.heap.size w' := by
  go_enter Tryz.func36, Tryz.ntmps36
  go_wp2
  go_loopw [7] (fun i wr => ∃ k : Nat, k ≤ n ∧ i = .int .i64 k ∧ w.Since w.heap.size wr ∧ RatsOk R k) (fun i _ => n - (intOf i).toNat)
  case atStart => exact ⟨0, Nat.zero_le _, rfl, World.Since.refl _ _, fun i hi => absurd hi (by omega)⟩
  case round =>
    obtain ⟨k, hk, rfl, s, O⟩ := hrel
    by_cases hlt : k < n
    · obtain ⟨rfl, a1, a2, k1, k2, M⟩ := H k hlt
      have M' := M.keep s
      have g0 := M'.c0
      have g1 := M'.c1
      have g2 := M'.c2
      have hz : (k : Int) < (n : Int) := by omega
      have hsz := szR_at (R := R) hlt
      have sA : w.Since w.heap.size (wr.alloc (.cells #[.bool (R k).neg, .slice a1 (R k).n k1, .slice a2 (R k).m k2] 70)) := s.alloc s.size _
      obtain ⟨ba, oa, -, LX⟩ := (M.L.keep sA).LX
      obtain ⟨bb, ob, -, LY⟩ := (M.L.keep sA).LY
      have J1 := implRatOk_any (R k).neg a1 a2 ba oa (R k).n k1 bb ob (R k).m k2 (R k).X (R k).Y _ (Nat.lt_of_lt_of_le hw sA.size) (by omega) (by omega) M.L.nc M.L.mc M.L.ac M.L.bc LX LY M.L.lX M.L.lY (hT.keepN hw sA)
      rw [show ratOkB (R k).neg (R k).X (R k).n (R k).Y (R k).m = (R k).ok from rfl] at J1
      cases hok : (R k).ok
      · have HK := hide hok
        rw [hok] at J1
        clear hok
        go_wp2_with fail
        refine J1.mono ?_
        rintro e w2 ⟨rfl, s2⟩
        go_wp2
        go_ret
        refine ⟨false, rfl, ⟨(fun h => by cases h), fun h => ?_⟩, sA.trans (sinceMono s2 sA.size)⟩
        have := h k hlt
        rw [HK.out] at this
        cases this
      · have HK := hide hok
        rw [hok] at J1
        clear hok
        go_wp2_with fail
        refine J1.mono ?_
        rintro e w2 ⟨rfl, s2⟩
        go_wp2
        go_roundw
        case rel =>
          refine ⟨k + 1, by omega, by go_num, sA.trans (sinceMono s2 sA.size), fun i hi => ?_⟩
          by_cases e : i = k
          · subst e; exact HK.out
          · exact O i (by omega)
        case measure => simp [intOf]; omega
    · have e : k = n := by omega
      subst e
      go_wp2
      go_ret
      exact ⟨true, rfl, ⟨fun _ => O, fun _ => rfl⟩, s⟩

set_option maxHeartbeats 800000 in
set_option maxRecDepth 100000 in
theorem sideFits_yes (x : Int) (w : World) (h1 : 0 ≤ x) (h2 : x ≤ 20000) :
    Calls Tryz.prog 136 #[.int .i64 x] w fun e w' => e = .returned (.bool true) ∧ w' = w := by
  go_enter Tryz.func136, Tryz.ntmps136
  go_wp2
  go_ret
  exact ⟨rfl, rfl⟩

set_option maxHeartbeats 800000 in
set_option maxRecDepth 100000 in
theorem sideFits_no (x : Int) (w : World) (h : ¬ (0 ≤ x ∧ x ≤ 20000)) :
    Calls Tryz.prog 136 #[.int .i64 x] w fun e w' => e = .returned (.bool false) ∧ w' = w := by
  by_cases h1 : 0 ≤ x
  · have h2 : ¬ x ≤ 20000 := fun h2 => h ⟨h1, h2⟩
    clear h
    go_enter Tryz.func136, Tryz.ntmps136
    go_wp2
    go_ret
    exact ⟨rfl, rfl⟩
  · clear h
    go_enter Tryz.func136, Tryz.ntmps136
    go_wp2
    go_ret
    exact ⟨rfl, rfl⟩

set_option maxHeartbeats 800000 in
set_option maxRecDepth 100000 in
theorem cellsOf_any (d : AffD) (w : World) (h : d.sides) :
    Calls Tryz.prog 113 #[.int .i64 d.rows, .int .i64 d.cols] w fun e w' => e = .returned (.int .i64 d.cells) ∧ w' = w := by
  have hb := h.bounds
  unfold AffD.cells at hb ⊢
  obtain ⟨h0, h1, h2, h3⟩ := h
  go_enter Tryz.func113, Tryz.ntmps113
  go_wp2
  go_ret
  exact ⟨rfl, rfl⟩

set_option maxHeartbeats 3200000 in
set_option maxRecDepth 100000 in
theorem shapeFits_any (d : AffD) (a1 a2 : Option Addr) (k1 k2 : Nat) (w : World) :
    Calls Tryz.prog 112 #[.agg #[.int .i64 d.rows, .int .i64 d.cols, .slice a1 d.nw k1, .slice a2 d.nb k2]] w fun e w' => ∃ r : Bool, e = .returned (.bool r) ∧ (r = true ↔ d.shape) ∧ w.Since w.heap.size w' := by
  have sA : w.Since w.heap.size (w.alloc (.cells #[.int .i64 d.rows, .int .i64 d.cols, .slice a1 d.nw k1, .slice a2 d.nb k2] 66)) := (World.Since.refl _ _).alloc (Nat.le_refl _) _
  by_cases hr : 0 ≤ d.rows ∧ d.rows ≤ 20000
  rotate_left
  · have HN := hide (show ¬ d.shape from fun h => hr ⟨h.1.1, h.1.2.1⟩)
    go_enter Tryz.func112, Tryz.ntmps112
    go_wp2_with fail
    refine (sideFits_no d.rows _ hr).mono ?_
    rintro e w1 ⟨rfl, rfl⟩
    clear hr
    go_wp2
    go_ret
    exact ⟨false, rfl, ⟨(fun h => by cases h), fun h => absurd h HN.out⟩, sA⟩
  by_cases hc : 0 ≤ d.cols ∧ d.cols ≤ 20000
  rotate_left
  · have HN := hide (show ¬ d.shape from fun h => hc ⟨h.1.2.2.1, h.1.2.2.2⟩)
    go_enter Tryz.func112, Tryz.ntmps112
    go_wp2_with fail
    refine (sideFits_yes d.rows _ hr.1 hr.2).mono ?_
    rintro e w1 ⟨rfl, rfl⟩
    go_wp2_with fail
    refine (sideFits_no d.cols _ hc).mono ?_
    rintro e w1 ⟨rfl, rfl⟩
    clear hr hc
    go_wp2
    go_ret
    exact ⟨false, rfl, ⟨(fun h => by cases h), fun h => absurd h HN.out⟩, sA⟩
  have hS : d.sides := ⟨hr.1, hr.2, hc.1, hc.2⟩
  have hb := hS.bounds
  obtain ⟨hr0, hr1⟩ := hr
  obtain ⟨hc0, hc1⟩ := hc
  obtain ⟨hb0, hb1, hb2, hb3⟩ := hb
  by_cases hw : (d.nw : Int) = d.rows * d.cols
  rotate_left
  · have HN := hide (show ¬ d.shape from fun h => hw h.2.1)
    have q : ((d.nw : Int) == d.rows * d.cols) = false := by simpa using hw
    clear hw
    go_enter Tryz.func112, Tryz.ntmps112
    go_wp2_with fail
    refine (sideFits_yes d.rows _ hr0 hr1).mono ?_
    rintro e w1 ⟨rfl, rfl⟩
    go_wp2_with fail
    refine (sideFits_yes d.cols _ hc0 hc1).mono ?_
    rintro e w1 ⟨rfl, rfl⟩
    go_wp2
    go_ret
    exact ⟨false, rfl, ⟨(fun h => by cases h), fun h => absurd h HN.out⟩, sA⟩
  have q : ((d.nw : Int) == d.rows * d.cols) = true := by simpa using hw
  by_cases hv : (d.nb : Int) = d.rows
  rotate_left
  · have HN := hide (show ¬ d.shape from fun h => hv h.2.2)
    have q2 : ((d.nb : Int) == d.rows) = false := by simpa using hv
    clear hv hw
    go_enter Tryz.func112, Tryz.ntmps112
    go_wp2_with fail
    refine (sideFits_yes d.rows _ hr0 hr1).mono ?_
    rintro e w1 ⟨rfl, rfl⟩
    go_wp2_with fail
    refine (sideFits_yes d.cols _ hc0 hc1).mono ?_
    rintro e w1 ⟨rfl, rfl⟩
    go_wp2
    go_ret
    exact ⟨false, rfl, ⟨(fun h => by cases h), fun h => absurd h HN.out⟩, sA⟩
  have HS := hide (show d.shape from ⟨hS, hw, hv⟩)
  have q2 : ((d.nb : Int) == d.rows) = true := by simpa using hv
  clear hw hv
  go_enter Tryz.func112, Tryz.ntmps112
  go_wp2_with fail
  refine (sideFits_yes d.rows _ hr0 hr1).mono ?_
  rintro e w1 ⟨rfl, rfl⟩
  go_wp2_with fail
  refine (sideFits_yes d.cols _ hc0 hc1).mono ?_
  rintro e w1 ⟨rfl, rfl⟩
  go_wp2
  go_ret
  exact ⟨true, rfl, ⟨fun _ => HS.out, fun _ => rfl⟩, sA⟩

end Go.Proofs.YtkhpggnnpfckdaaGreatDoor

namespace Go.Proofs.YtkhpggnnpfckdaaGreatDoor
open Go.RowKit

set_option maxHeartbeats 1600000 in
set_option maxRecDepth 100000 in
theorem szNode_any (d : NodeD) (a1 : Option Addr) (lo k1 L : Nat) (w : World) (hL : L ≤ 1048576) (H : NodL w lo d a1 k1) :
    Calls Tryz.prog 79 #[.agg #[.int .i64 d.op, .int .i64 d.a, .int .i64 d.b, .int .i64 d.k, .int .i64 d.s, .slice a1 d.nv k1], .int .i64 L] w fun e w' => e = .returned (.int .i64 (szl L d.size)) ∧ w.Since w.heap.size w' := by
  have sA : w.Since w.heap.size (w.alloc (.cells #[.int .i64 d.op, .int .i64 d.a, .int .i64 d.b, .int .i64 d.k, .int .i64 d.s, .slice a1 d.nv k1] 122)) := (World.Since.refl _ _).alloc (Nat.le_refl _) _
  obtain ⟨ba, oa, -, LV⟩ := (H.keep sA).LV
  have J1 := szRatS_any a1 lo ba oa d.nv k1 L d.V _ (by omega) H.n63 LV
  have E := hide (show szl L d.size = szl L (d.nv + szR d.V d.nv) from rfl)
  by_cases h : d.nv + szR d.V d.nv ≤ L
  · rw [szl_ok h] at J1
    have E2 := hide (szl_ok h)
    go_enter Tryz.func79, Tryz.ntmps79
    go_wp2_with fail
    refine J1.mono ?_
    rintro e w1 ⟨rfl, s1⟩
    go_wp2
    go_ret
    exact ⟨ret_int (by rw [E.out, E2.out]), sA.trans (sinceMono s1 sA.size)⟩
  · rw [szl_no (show L < d.nv + szR d.V d.nv by omega)] at J1
    have E2 := hide (szl_no (show L < d.nv + szR d.V d.nv by omega))
    go_enter Tryz.func79, Tryz.ntmps79
    go_wp2_with fail
    refine J1.mono ?_
    rintro e w1 ⟨rfl, s1⟩
    go_wp2
    go_ret
    exact ⟨ret_int (by rw [E.out, E2.out]), sA.trans (sinceMono s1 sA.size)⟩

set_option maxHeartbeats 1600000 in
set_option maxRecDepth 100000 in
theorem szNodeS_any (a : Option Addr) (lo b off n cap L : Nat) (A : Nat → NodeD) (w : World) (hL : L ≤ 1048576) (hn : n ≤ 9223372036854775807) (H : Nods w lo a b off n A) :
    Calls Tryz.prog 45 #[.slice a n cap, .int .i64 L] w fun e w' => e = .returned (.int .i64 (szl L (n + szN A n))) ∧ w.Since w.heap.size w' := by
  by_cases h : L < n
  · rw [szl_no (show L < n + szN A n by omega)]
    go_enter Tryz.func45, Tryz.ntmps45
    go_wp2
    go_ret
    exact ⟨rfl, World.Since.refl _ _⟩
  have h1 : (L : Int) - n = ((L - n : Nat) : Int) := by omega
  have H1 := hide h1
  clear h1
  go_enter Tryz.func45, Tryz.ntmps45
  go_wp2
  go_loopw [1, 5] (fun q i wr => ∃ k : Nat, k ≤ n ∧ i = .int .i64 k ∧ n + szN A k ≤ L ∧ q = .int .i64 ((L - n - szN A k : Nat) : Int) ∧ w.Since w.heap.size wr) (fun _ i _ => n - (intOf i).toNat)
  case atStart => exact ⟨0, Nat.zero_le _, rfl, by unfold szN; omega, by simp only [szN, Nat.sub_zero]; rw [← H1.out], World.Since.refl _ _⟩
  case round =>
    obtain ⟨k, hk, rfl, hs, rfl, s⟩ := hrel
    by_cases hlt : k < n
    · obtain ⟨rfl, a1, k1, M⟩ := H k hlt
      have M' := M.keep s
      have g0 := M'.c0
      have g1 := M'.c1
      have g2 := M'.c2
      have g3 := M'.c3
      have g4 := M'.c4
      have g5 := M'.c5
      have hz : (k : Int) < (n : Int) := by omega
      have e1 := szN_succ A k
      have J1 := szNode_any (A k) a1 lo k1 (L - n - szN A k) wr (by omega) M'.L
      by_cases hf : n + szN A (k + 1) ≤ L
      · have hf' : (A k).size ≤ L - n - szN A k := by omega
        rw [szl_ok hf'] at J1
        have H2 := hide e1
        clear e1
        go_wp2_with fail
        refine J1.mono ?_
        rintro e w1 ⟨rfl, s1⟩
        go_wp2
        go_roundw
        case rel => exact ⟨k + 1, by omega, by go_num, hf, by rw [H2.out]; congr 2; omega, s.trans (sinceMono s1 s.size)⟩
        case measure => simp [intOf]; omega
      · have hx := szN_mono (A := A) (show k + 1 ≤ n from hlt)
        have HZ := hide (szl_no (show L < n + szN A n by omega)).symm
        rw [szl_no (show L - n - szN A k < (A k).size by omega)] at J1
        clear e1
        go_wp2_with fail
        refine J1.mono ?_
        rintro e w1 ⟨rfl, s1⟩
        go_wp2
        go_ret
        exact ⟨ret_int HZ.out, s.trans (sinceMono s1 s.size)⟩
    · have e : k = n := by omega
      subst e
      go_wp2
      go_ret
      exact ⟨ret_int (by rw [szl_ok hs]; congr 1; omega), s⟩

set_option maxHeartbeats 1600000 in
set_option maxRecDepth 100000 in
theorem szGraph_any (g : GraphD) (aL aH aN : Option Addr) (lo kL kH kN L : Nat) (w : World) (hL : L ≤ 1048576) (H : GraL w lo g aL aH aN kL kH kN) :
    Calls Tryz.prog 17 #[.agg #[.int .i64 g.inn, .int .i64 g.rounds, .slice aL g.nl kL, .slice aH g.nh kH, .slice aN g.nn kN, .int .i64 g.out], .int .i64 L] w fun e w' => e = .returned (.int .i64 (szl L g.size)) ∧ w.Since w.heap.size w' := by
  have sA : w.Since w.heap.size (w.alloc (.cells #[.int .i64 g.inn, .int .i64 g.rounds, .slice aL g.nl kL, .slice aH g.nh kH, .slice aN g.nn kN, .int .i64 g.out] 43)) := (World.Since.refl _ _).alloc (Nat.le_refl _) _
  have bA := Box6.new w (.int .i64 g.inn) (.int .i64 g.rounds) (.slice aL g.nl kL) (.slice aH g.nh kH) (.slice aN g.nn kN) (.int .i64 g.out) 43
  have HA := H.keep sA
  obtain ⟨b1, o1, -, L1⟩ := HA.LL
  obtain ⟨b2, o2, -, L2⟩ := HA.LH
  obtain ⟨b3, o3, -, L3⟩ := HA.LN
  have l63 := H.l63
  have h63 := H.h63
  have n63 := H.n63
  have ES : g.size = (g.nl + szR g.Lo g.nl) + (g.nh + szR g.Hi g.nh) + (g.nn + szN g.N g.nn) := rfl
  have J1 := szRatS_any aL lo b1 o1 g.nl kL L g.Lo _ (by omega) l63 L1
  by_cases h1 : (g.nl + szR g.Lo g.nl) ≤ L
  · rw [szl_ok h1] at J1
    go_enter Tryz.func17, Tryz.ntmps17
    go_wp2_with fail
    generalize w.alloc (.cells #[.int .i64 g.inn, .int .i64 g.rounds, .slice aL g.nl kL, .slice aH g.nh kH, .slice aN g.nn kN, .int .i64 g.out] 43) = wA at *
    refine J1.mono ?_
    rintro e w1 ⟨rfl, s1⟩
    have B1 := bA.keep s1
    have q3 := B1.c3
    have J2 := szRatS_any aH lo b2 o2 g.nh kH (L - (g.nl + szR g.Lo g.nl)) g.Hi w1 (by omega) h63 (L2.keep s1)
    clear J1
    by_cases h2 : (g.nh + szR g.Hi g.nh) ≤ L - (g.nl + szR g.Lo g.nl)
    · rw [szl_ok h2] at J2
      go_wp2_with fail
      refine J2.mono ?_
      rintro e w2 ⟨rfl, s2⟩
      have B2 := B1.keep s2
      have q4 := B2.c4
      have u2 := s1.trans (sinceMono s2 s1.size)
      have J3 := szNodeS_any aN lo b3 o3 g.nn kN (L - (g.nl + szR g.Lo g.nl) - (g.nh + szR g.Hi g.nh)) g.N w2 (by omega) n63 (L3.keep u2)
      clear J2 q3
      by_cases h3 : (g.nn + szN g.N g.nn) ≤ L - (g.nl + szR g.Lo g.nl) - (g.nh + szR g.Hi g.nh)
      · rw [szl_ok h3] at J3
        have E := hide (show szl L g.size = ((L - (g.nl + szR g.Lo g.nl) - (g.nh + szR g.Hi g.nh) - (g.nn + szN g.N g.nn) : Nat) : Int) by rw [szl_ok (by omega)]; congr 1; omega)
        clear ES
        go_wp2_with fail
        refine J3.mono ?_
        rintro e w3 ⟨rfl, s3⟩
        go_wp2
        go_ret
        exact ⟨ret_int E.out.symm, sA.trans (sinceMono (u2.trans (sinceMono s3 u2.size)) sA.size)⟩
      · rw [szl_no (show L - (g.nl + szR g.Lo g.nl) - (g.nh + szR g.Hi g.nh) < (g.nn + szN g.N g.nn) by omega)] at J3
        have E := hide (show szl L g.size = -1 by rw [szl_no (by omega)])
        clear ES
        go_wp2_with fail
        refine J3.mono ?_
        rintro e w3 ⟨rfl, s3⟩
        go_wp2
        go_ret
        exact ⟨ret_int E.out.symm, sA.trans (sinceMono (u2.trans (sinceMono s3 u2.size)) sA.size)⟩
    · rw [szl_no (show L - (g.nl + szR g.Lo g.nl) < (g.nh + szR g.Hi g.nh) by omega)] at J2
      have E := hide (show szl L g.size = -1 by rw [szl_no (by omega)])
      clear ES
      go_wp2_with fail
      refine J2.mono ?_
      rintro e w2 ⟨rfl, s2⟩
      go_wp2
      go_ret
      exact ⟨ret_int E.out.symm, sA.trans (sinceMono (s1.trans (sinceMono s2 s1.size)) sA.size)⟩
  · rw [szl_no (show L < (g.nl + szR g.Lo g.nl) by omega)] at J1
    have E := hide (show szl L g.size = -1 by rw [szl_no (by omega)])
    clear ES
    go_enter Tryz.func17, Tryz.ntmps17
    go_wp2_with fail
    refine J1.mono ?_
    rintro e w1 ⟨rfl, s1⟩
    go_wp2
    go_ret
    exact ⟨ret_int E.out.symm, sA.trans (sinceMono s1 sA.size)⟩

end Go.Proofs.YtkhpggnnpfckdaaGreatDoor

namespace Go.Proofs.YtkhpggnnpfckdaaGreatDoor
open Go.RowKit

set_option maxHeartbeats 1600000 in
set_option maxRecDepth 100000 in
theorem eqNode_true (d : NodeD) (a1 a1' : Option Addr) (lo k1 lo' k1' : Nat) (w : World) (hd : d.size ≤ 1048576) (H : NodL w lo d a1 k1) (H' : NodL w lo' d a1' k1') :
    Calls Tryz.prog 96 #[.agg #[.int .i64 d.op, .int .i64 d.a, .int .i64 d.b, .int .i64 d.k, .int .i64 d.s, .slice a1 d.nv k1], .agg #[.int .i64 d.op, .int .i64 d.a, .int .i64 d.b, .int .i64 d.k, .int .i64 d.s, .slice a1' d.nv k1']] w fun e w' => e = .returned (.bool true) ∧ w.Since w.heap.size w' := by
  have ts := hd
  unfold NodeD.size at ts
  obtain ⟨wA, eA⟩ : ∃ wA : World, wA = (w.alloc (.cells #[.int .i64 d.op, .int .i64 d.a, .int .i64 d.b, .int .i64 d.k, .int .i64 d.s, .slice a1 d.nv k1] 84)).alloc (.cells #[.int .i64 d.op, .int .i64 d.a, .int .i64 d.b, .int .i64 d.k, .int .i64 d.s, .slice a1' d.nv k1'] 84) := ⟨_, rfl⟩
  have sA : w.Since w.heap.size wA := by rw [eA]; exact ((World.Since.refl _ _).alloc (Nat.le_refl _) _).alloc (by simp) _
  obtain ⟨b1, o1, -, W1⟩ := (H.keep sA).LV
  obtain ⟨b2, o2, -, W2⟩ := (H'.keep sA).LV
  have J1 := eqRatS_true a1 a1' lo b1 o1 k1 lo' b2 o2 k1' d.nv d.V wA (by omega) (by omega) W1 W2
  have EA := hide eA
  clear eA
  go_enter Tryz.func96, Tryz.ntmps96
  go_wp2_with fail
  rw [← EA.out]
  refine J1.mono ?_
  rintro e w1 ⟨rfl, s1⟩
  clear J1 EA
  go_wp2
  go_ret
  exact ⟨rfl, sA.trans (sinceMono s1 sA.size)⟩

set_option maxHeartbeats 3200000 in
set_option maxRecDepth 100000 in
theorem eqNodeS_true (a a' : Option Addr) (lo b off cap lo' b' off' cap' n : Nat) (A : Nat → NodeD) (w : World) (hn : n ≤ 1048576) (hs : szN A n ≤ 1048576) (H : Nods w lo a b off n A) (H' : Nods w lo' a' b' off' n A) :
    Calls Tryz.prog 55 #[.slice a n cap, .slice a' n cap'] w fun e w' => e = .returned (.bool true) ∧ w.Since w.heap.size w' := by
  go_enter Tryz.func55, Tryz.ntmps55
  go_wp2
  go_loopw [5] (fun i wr => ∃ k : Nat, k ≤ n ∧ i = .int .i64 k ∧ w.Since w.heap.size wr) (fun i _ => n - (intOf i).toNat)
  case atStart => exact ⟨0, Nat.zero_le _, rfl, World.Since.refl _ _⟩
  case round =>
    obtain ⟨k, hk, rfl, s⟩ := hrel
    by_cases hlt : k < n
    · obtain ⟨rfl, a1, k1, M⟩ := H k hlt
      obtain ⟨rfl, a1', k1', M'⟩ := H' k hlt
      have sd : w.Since w.heap.size wr.drew := ⟨s.os, s.tape, s.output, s.size, s.block⟩
      have N := M.keep s
      have N' := M'.keep s
      have g0 := N.c0
      have g0' := N'.c0
      have g1 := N.c1
      have g1' := N'.c1
      have g2 := N.c2
      have g2' := N'.c2
      have g3 := N.c3
      have g3' := N'.c3
      have g4 := N.c4
      have g4' := N'.c4
      have g5 := N.c5
      have g5' := N'.c5
      have hsz := szN_at (A := A) hlt
      have hz : (k : Int) < (n : Int) := by omega
      have J1 := eqNode_true (A k) a1 a1' lo k1 lo' k1' wr.drew (by omega) (M.L.keep sd) (M'.L.keep sd)
      clear N N'
      go_wp2_with fail
      go_region_held3 (fun w' => w'.cell? ⟨b, off + k * 6, none⟩ = some (.int .i64 (A k).op) ∧ w'.cell? ⟨b, off + k * 6 + 1, none⟩ = some (.int .i64 (A k).a) ∧ w'.cell? ⟨b, off + k * 6 + 2, none⟩ = some (.int .i64 (A k).b) ∧ w'.cell? ⟨b, off + k * 6 + 3, none⟩ = some (.int .i64 (A k).k) ∧ w'.cell? ⟨b, off + k * 6 + 4, none⟩ = some (.int .i64 (A k).s) ∧ w'.cell? ⟨b, off + k * 6 + 5, none⟩ = some (.slice a1 (A k).nv k1) ∧
          w'.cell? ⟨b', off' + k * 6, none⟩ = some (.int .i64 (A k).op) ∧ w'.cell? ⟨b', off' + k * 6 + 1, none⟩ = some (.int .i64 (A k).a) ∧ w'.cell? ⟨b', off' + k * 6 + 2, none⟩ = some (.int .i64 (A k).b) ∧ w'.cell? ⟨b', off' + k * 6 + 3, none⟩ = some (.int .i64 (A k).k) ∧ w'.cell? ⟨b', off' + k * 6 + 4, none⟩ = some (.int .i64 (A k).s) ∧ w'.cell? ⟨b', off' + k * 6 + 5, none⟩ = some (.slice a1' (A k).nv k1')) (go_keep)
        (first
          | (go_at_call 96
             with_reducible refine J1.mono ?_
             rintro e w1 ⟨rfl, s1⟩
             have S1 : w.Since w.heap.size w1 := sd.trans (sinceMono s1 sd.size)
             have i0 := (M.keep S1).c0
             have i0' := (M'.keep S1).c0
             have i1 := (M.keep S1).c1
             have i1' := (M'.keep S1).c1
             have i2 := (M.keep S1).c2
             have i2' := (M'.keep S1).c2
             have i3 := (M.keep S1).c3
             have i3' := (M'.keep S1).c3
             have i4 := (M.keep S1).c4
             have i4' := (M'.keep S1).c4
             have i5 := (M.keep S1).c5
             have i5' := (M'.keep S1).c5))
      all_goals go_wp2
      all_goals go_roundw
      case rel => exact ⟨k + 1, by omega, by go_num, S1⟩
      case measure => simp [intOf]; omega
    · go_wp2
      go_ret
      exact ⟨rfl, s⟩

set_option maxHeartbeats 1600000 in
set_option maxRecDepth 100000 in
theorem eqGraph_true (g : GraphD) (aL aH aN aL' aH' aN' : Option Addr) (lo kL kH kN lo' kL' kH' kN' : Nat) (w : World) (hd : g.size ≤ 1048576) (H : GraL w lo g aL aH aN kL kH kN) (H' : GraL w lo' g aL' aH' aN' kL' kH' kN') :
    Calls Tryz.prog 22 #[.agg #[.int .i64 g.inn, .int .i64 g.rounds, .slice aL g.nl kL, .slice aH g.nh kH, .slice aN g.nn kN, .int .i64 g.out], .agg #[.int .i64 g.inn, .int .i64 g.rounds, .slice aL' g.nl kL', .slice aH' g.nh kH', .slice aN' g.nn kN', .int .i64 g.out]] w fun e w' => e = .returned (.bool true) ∧ w.Since w.heap.size w' := by
  have ts := hd
  unfold GraphD.size at ts
  obtain ⟨wA, eA⟩ : ∃ wA : World, wA = (w.alloc (.cells #[.int .i64 g.inn, .int .i64 g.rounds, .slice aL g.nl kL, .slice aH g.nh kH, .slice aN g.nn kN, .int .i64 g.out] 50)).alloc (.cells #[.int .i64 g.inn, .int .i64 g.rounds, .slice aL' g.nl kL', .slice aH' g.nh kH', .slice aN' g.nn kN', .int .i64 g.out] 50) := ⟨_, rfl⟩
  have sA : w.Since w.heap.size wA := by rw [eA]; exact ((World.Since.refl _ _).alloc (Nat.le_refl _) _).alloc (by simp) _
  have bA : Box6 wA w.heap.size (.int .i64 g.inn) (.int .i64 g.rounds) (.slice aL g.nl kL) (.slice aH g.nh kH) (.slice aN g.nn kN) (.int .i64 g.out) := by rw [eA]; exact (Box6.new w _ _ _ _ _ _ _).keep ((World.Since.refl _ _).alloc (Nat.le_refl _) _)
  have cA : Box6 wA (w.heap.size + 1) (.int .i64 g.inn) (.int .i64 g.rounds) (.slice aL' g.nl kL') (.slice aH' g.nh kH') (.slice aN' g.nn kN') (.int .i64 g.out) := by
    rw [eA]
    have := Box6.new (w.alloc (.cells #[.int .i64 g.inn, .int .i64 g.rounds, .slice aL g.nl kL, .slice aH g.nh kH, .slice aN g.nn kN, .int .i64 g.out] 50)) (.int .i64 g.inn) (.int .i64 g.rounds) (.slice aL' g.nl kL') (.slice aH' g.nh kH') (.slice aN' g.nn kN') (.int .i64 g.out) 50
    simpa using this
  obtain ⟨b1, o1, -, W1⟩ := (H.keep sA).LL
  obtain ⟨b2, o2, -, W2⟩ := (H'.keep sA).LL
  obtain ⟨b3, o3, -, B1⟩ := (H.keep sA).LH
  obtain ⟨b4, o4, -, B2⟩ := (H'.keep sA).LH
  obtain ⟨b5, o5, -, N1⟩ := (H.keep sA).LN
  obtain ⟨b6, o6, -, N2⟩ := (H'.keep sA).LN
  have J1 := eqRatS_true aL aL' lo b1 o1 kL lo' b2 o2 kL' g.nl g.Lo wA (by omega) (by omega) W1 W2
  have EA := hide eA
  clear eA
  go_enter Tryz.func22, Tryz.ntmps22
  go_wp2_with fail
  rw [← EA.out]
  refine J1.mono ?_
  rintro e w1 ⟨rfl, s1⟩
  have J2 := eqRatS_true aH aH' lo b3 o3 kH lo' b4 o4 kH' g.nh g.Hi w1 (by omega) (by omega) (B1.keep s1) (B2.keep s1)
  have X1 := bA.keep s1
  have X2 := cA.keep s1
  have q1 := X1.c3
  have q2 := X2.c3
  clear J1 EA bA cA
  go_wp2_with fail
  refine J2.mono ?_
  rintro e w2 ⟨rfl, s2⟩
  have u2 := s1.trans (sinceMono s2 s1.size)
  have J3 := eqNodeS_true aN aN' lo b5 o5 kN lo' b6 o6 kN' g.nn g.N w2 (by omega) (by omega) (N1.keep u2) (N2.keep u2)
  have Y1 := X1.keep s2
  have Y2 := X2.keep s2
  have r1 := Y1.c4
  have r2 := Y2.c4
  clear J2 q1 q2 X1 X2
  go_wp2_with fail
  refine J3.mono ?_
  rintro e w3 ⟨rfl, s3⟩
  have p1 := (Y1.keep s3).c5
  have p2 := (Y2.keep s3).c5
  clear J3 r1 r2 Y1 Y2
  go_wp2
  go_ret
  exact ⟨rfl, sA.trans (sinceMono (u2.trans (sinceMono s3 u2.size)) sA.size)⟩

end Go.Proofs.YtkhpggnnpfckdaaGreatDoor
