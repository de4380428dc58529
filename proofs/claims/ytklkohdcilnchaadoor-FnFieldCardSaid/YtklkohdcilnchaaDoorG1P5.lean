import Derived.Test.YtklkohdcilnchaaDoorG1P1
import Derived.Deep.RegionHeld3
import Derived.Test.YtklkohdcilnchaaDoorG1P3
import Derived.Test.YtklkohdcilnchaaDoorG1P4
import Derived.Deep.RegionWith
import Derived.Deep.RegionHeld
namespace Go.Proofs.YtklkohdcilnchaaDoor
open Go.RowKit

/-- A struct of three cells in a block of its own. -/
structure Box3 (w : World) (c : Nat) (x y z : Value) : Prop where
  c0 : w.cell? ⟨c, 0, none⟩ = some x
  c1 : w.cell? ⟨c, 1, none⟩ = some y
  c2 : w.cell? ⟨c, 2, none⟩ = some z
  f : ∀ k, w.frozen? ⟨c, k, none⟩ = false

theorem Box3.lt {w : World} {c : Nat} {x y z : Value} (h : Box3 w c x y z) : c < w.heap.size := World.block_lt_of_cell? _ _ h.c0
theorem Box3.new (w : World) (x y z : Value) (t : TypeId) : Box3 (w.alloc (.cells #[x, y, z] t)) w.heap.size x y z := ⟨by simp [go_sem], by simp [go_sem], by simp [go_sem], fun k => by simp [go_sem]⟩
theorem Box3.since {w w' : World} {c B : Nat} {x y z : Value} (h : Box3 w c x y z) (s : w.Since B w') (hc : c < B) : Box3 w' c x y z :=
  ⟨(s.cell (a := ⟨c, 0, none⟩) hc).trans h.c0, (s.cell (a := ⟨c, 1, none⟩) hc).trans h.c1, (s.cell (a := ⟨c, 2, none⟩) hc).trans h.c2, fun k => (s.frozen (a := ⟨c, k, none⟩) hc).trans (h.f k)⟩
theorem Box3.keep {w w' : World} {c : Nat} {x y z : Value} (h : Box3 w c x y z) (s : w.Since w.heap.size w') : Box3 w' c x y z := h.since s h.lt
theorem Box3.marked {w w' : World} {c d : Nat} {x y z : Value} (h : Box3 w c x y z) (s : Marked w w' d) (hc : c ≠ d) : Box3 w' c x y z :=
  ⟨(s.cell (a := ⟨c, 0, none⟩) hc).trans h.c0, (s.cell (a := ⟨c, 1, none⟩) hc).trans h.c1, (s.cell (a := ⟨c, 2, none⟩) hc).trans h.c2, fun k => (s.frozenO (a := ⟨c, k, none⟩) hc).trans (h.f k)⟩
theorem Box3.set0 {w : World} {c : Nat} {x y z : Value} (h : Box3 w c x y z) (v : Value) : Box3 (w.setCell ⟨c, 0, none⟩ v) c v y z :=
  ⟨World.cell?_setCell_same _ _ _ h.c0, (World.cell?_setCell_other _ _ _ _ (by simp)).trans h.c1, (World.cell?_setCell_other _ _ _ _ (by simp)).trans h.c2, fun k => by rw [((Marked.refl w c).setCell 0 v).frozen]; exact h.f k⟩
theorem Box3.set1 {w : World} {c : Nat} {x y z : Value} (h : Box3 w c x y z) (v : Value) : Box3 (w.setCell ⟨c, 1, none⟩ v) c x v z :=
  ⟨(World.cell?_setCell_other _ _ _ _ (by simp)).trans h.c0, World.cell?_setCell_same _ _ _ h.c1, (World.cell?_setCell_other _ _ _ _ (by simp)).trans h.c2, fun k => by rw [((Marked.refl w c).setCell 1 v).frozen]; exact h.f k⟩
theorem Box3.set2 {w : World} {c : Nat} {x y z : Value} (h : Box3 w c x y z) (v : Value) : Box3 (w.setCell ⟨c, 2, none⟩ v) c x y v :=
  ⟨(World.cell?_setCell_other _ _ _ _ (by simp)).trans h.c0, (World.cell?_setCell_other _ _ _ _ (by simp)).trans h.c1, World.cell?_setCell_same _ _ _ h.c2, fun k => by rw [((Marked.refl w c).setCell 2 v).frozen]; exact h.f k⟩

theorem ratInfo : (Tryd.prog.info? 25).map (·.size) = some 3 := by kernel_rfl

/-- A struct answer that lies in a box. -/
theorem results_box3 {fn : Func} {p : Tmp} (h : fn.results = #[.cell p 25]) (tmps : Array Value) (w : World) (c : Nat) (x y z : Value) (hp : tmps.getD p undef = .pointer (some ⟨c, 0, none⟩)) (B : Box3 w c x y z) :
    (results fn tmps).run Tryd.prog w = .ok (.agg #[x, y, z]) w := by
  have hp' : tmps[p]?.getD undef = .pointer (some ⟨c, 0, none⟩) := by simpa using hp
  have hl := run_loadVar_mid (P := Tryd.prog) w c 0 25 [x, y, z] _ (fun j v hv => by
    rcases j with _ | _ | _ | j
    · simp at hv; subst hv; exact B.c0
    · simp at hv; subst hv; exact B.c1
    · simp at hv; subst hv; exact B.c2
    · simp at hv) Tryd.underlying25 rfl ratInfo
  simp [results, h, hp', asAddr, hl]

/-- A struct answer that lies in a box, of whatever struct type of three cells. -/
theorem results_box3T {fn : Func} {p : Tmp} {T : TypeId} {d : TypeDesc} (h : fn.results = #[.cell p T]) (hu : Tryd.prog.underlying T = some d) (hd : d.isRow = true) (hi : (Tryd.prog.info? T).map (·.size) = some 3) (tmps : Array Value) (w : World) (c : Nat) (x y z : Value)
    (hp : tmps.getD p undef = .pointer (some ⟨c, 0, none⟩)) (B : Box3 w c x y z) : (results fn tmps).run Tryd.prog w = .ok (.agg #[x, y, z]) w := by
  have hp' : tmps[p]?.getD undef = .pointer (some ⟨c, 0, none⟩) := by simpa using hp
  have hl := run_loadVar_mid (P := Tryd.prog) w c 0 T [x, y, z] d (fun j v hv => by
    rcases j with _ | _ | _ | j
    · simp at hv; subst hv; exact B.c0
    · simp at hv; subst hv; exact B.c1
    · simp at hv; subst hv; exact B.c2
    · simp at hv) hu hd hi
  simp [results, h, hp', asAddr, hl]

theorem fracInfo : (Tryd.prog.info? 74).map (·.size) = some 3 := by kernel_rfl

end Go.Proofs.YtklkohdcilnchaaDoor

namespace Go.Proofs.YtklkohdcilnchaaDoor
open Go.RowKit

theorem add_close {w wr : World} {O0 O A : Nat → Bool} {n L j i : Nat} {x y cb : Bool} (s c' : Bool) (hs : w.Since w.heap.size wr) (hr : wr.rowIs w.heap.size 4 L (fun k => .bool (O k))) (HR : AddRel O0 O A n j i cb)
    (hx : O (j + i) = x) (hy : ext A n i = y) (es : s = ((x != y) != cb)) (ec : c' = ((x && y) || (x && cb) || (y && cb))) :
    ∃ O', w.Since w.heap.size (wr.setCell ⟨w.heap.size, j + i, none⟩ (.bool s)) ∧ (wr.setCell ⟨w.heap.size, j + i, none⟩ (.bool s)).rowIs w.heap.size 4 L (fun k => .bool (O' k)) ∧ AddRel O0 O' A n j (i + 1) c' := by
  subst es ec
  refine ⟨_, hs.setCell (Nat.le_refl _) _, (hr.set (j + i) _).congr (fun k _ => ?_), addRel_step HR hx hy⟩
  by_cases e : k = j + i
  · simp [e]
  · simp [e]

set_option maxHeartbeats 3200000 in
set_option maxRecDepth 100000 in
theorem l1MulBits_any (a a' : Option Addr) (b off n cap b' off' m cap' : Nat) (A B : Nat → Bool) (w : World) (hn : n ≤ 134217728) (hm : m ≤ 134217728) (hA : Bits w a b off n A) (hB : Bits w a' b' off' m B) :
    Calls Tryd.prog 46 #[.slice a n cap, .slice a' m cap'] w fun e w' => ∃ g t cap'' O, e = .returned (.slice (some ⟨g, 0, none⟩) t cap'') ∧ t ≤ cap'' ∧ t ≤ n + m ∧ Bits w' (some ⟨g, 0, none⟩) g 0 t O ∧ w.heap.size ≤ g ∧
      (0 < t → O (t - 1) = true) ∧ bv O t = bv A n * bv B m ∧ w.Since w.heap.size w' := by
  have hmk := run_make_row' (P := Tryd.prog) 54 4 (.bool false) 1 Tryd.underlying54 Tryd.info4 rfl .i64 .i64 (n + m) (by omega) (by omega)
  rw [Int.natCast_add] at hmk
  go_enter Tryd.func46, Tryd.ntmps46
  go_wp2
  clear hmk
  go_loopw [6] (fun q wr => ∃ j : Nat, j ≤ m ∧ q = .int .i64 j ∧ w.Since w.heap.size wr ∧ ∃ O, wr.rowIs w.heap.size 4 (n + m) (fun k => .bool (O k)) ∧ bv O (n + m) = bv A n * bv B j) (fun q _ => m - (intOf q).toNat)
  case atStart =>
    exact ⟨0, Nat.zero_le _, rfl, (World.Since.refl _ _).alloc (Nat.le_refl _) _, fun _ => false, World.rowIs_made w _ _ _, by rw [bv_more (fun _ => false) 0 (n + m) (by omega) (fun _ _ _ => rfl)]; simp [bv]⟩
  case round =>
    obtain ⟨j, hj, rfl, hs, O0, hr0, h0⟩ := hrel
    have H0 : Hid (bv O0 (n + m) = bv A n * bv B j) := h0
    clear h0
    by_cases hlt : j < m
    · obtain ⟨rfl, hc⟩ := hB j hlt
      have g0 : wr.cell? ⟨b', off' + j, none⟩ = some (.bool (B j)) := by rw [hs.cell (a := ⟨b', off' + j, none⟩) (hB.lt (by omega))]; exact hc
      clear hc
      cases hbj : B j
      · rw [hbj] at g0
        have HB : Hid (B j = false) := hbj
        clear hbj
        go_wp2
        go_roundw
        case rel => exact ⟨j + 1, by omega, by go_num, hs, O0, hr0, mul_skip H0.out HB.out⟩
        case measure => simp [intOf]; omega
      · rw [hbj] at g0
        have HB : Hid (B j = true) := hbj
        clear hbj
        go_wp2
        clear g0
        go_loopw [7, 8] (fun c t wr' => ∃ (i : Nat) (cb : Bool) (O : Nat → Bool), j + i ≤ n + m ∧ t = .int .i64 i ∧ c = .bool cb ∧ w.Since w.heap.size wr' ∧ wr'.rowIs w.heap.size 4 (n + m) (fun k => .bool (O k)) ∧ AddRel O0 O A n j i cb) (fun _ t _ => n + m - (intOf t).toNat)
        case atStart => exact ⟨0, false, O0, by omega, rfl, rfl, hs, hr0, addRel_start O0 A n j⟩
        case round =>
          clear hr0 hs
          obtain ⟨i, cb, O, hi, rfl, rfl, hs, hr, hR⟩ := hrel
          have HR : Hid (AddRel O0 O A n j i cb) := hR
          clear hR
          by_cases hlt2 : j + i < n + m
          · have g1 := hr.cell hlt2
            have g2 := hr.frozen (j + i)
            obtain ⟨x, hx⟩ : ∃ x, x = O (j + i) := ⟨_, rfl⟩
            rw [← hx] at g1
            have HX : Hid (O (j + i) = x) := hx.symm
            clear hx
            by_cases hin : i < n
            · obtain ⟨rfl, hc⟩ := hA i hin
              have g3 : wr.cell? ⟨b, off + i, none⟩ = some (.bool (A i)) := by rw [hs.cell (a := ⟨b, off + i, none⟩) (hA.lt (by omega))]; exact hc
              obtain ⟨y, hy⟩ : ∃ y, y = A i := ⟨_, rfl⟩
              rw [← hy] at g3
              have HY : Hid (ext A n i = y) := by simp [Hid, ext, hin, hy]
              clear hy hc
              cases x <;> cases y <;> cases cb
              all_goals
                go_wp2
                go_roundw
                case rel =>
                  go_light
                  obtain ⟨O', k1, k2, k3⟩ := add_close _ _ hs hr HR.out HX.out HY.out rfl rfl
                  exact ⟨i + 1, _, O', by omega, by go_num, rfl, k1, k2, k3⟩
                case measure => go_light; simp [intOf]; omega
            · have HY : Hid (ext A n i = false) := by simp [Hid, ext, hin]
              cases x <;> cases cb
              all_goals
                go_wp2
                go_roundw
                case rel =>
                  go_light
                  obtain ⟨O', k1, k2, k3⟩ := add_close _ _ hs hr HR.out HX.out HY.out rfl rfl
                  exact ⟨i + 1, _, O', by omega, by go_num, rfl, k1, k2, k3⟩
                case measure => go_light; simp [intOf]; omega
          · have e : j + i = n + m := by omega
            go_wp2
            go_roundw
            case rel => exact ⟨j + 1, by omega, by go_num, hs, O, hr, addRel_end HR.out e hlt H0.out HB.out⟩
            case measure => simp [intOf]; omega
    · have e : j = m := by omega
      subst e
      go_wp2_with fail
      refine (l1Trim_any _ w.heap.size 0 (n + j) _ O0 _ (by omega) (Nat.le_refl _) (bits_row hr0)).mono ?_
      rintro e w1 ⟨rfl, rfl⟩
      go_wp2
      go_ret
      have htl := tlen_le O0 (n + j)
      exact ⟨w.heap.size, _, _, O0, rfl, htl, htl, (bits_row hr0).take htl, Nat.le_refl _, fun h => tlen_top _ _ h, (bv_tlen _ _).trans H0.out, hs⟩

end Go.Proofs.YtklkohdcilnchaaDoor

namespace Go.Proofs.YtklkohdcilnchaaDoor
open Go.RowKit

/-- What a function that hands back a new natural leaves: a plain list of limbs of the value N, on memory that is new since w. -/
def NatOut (w w' : World) (v : Value) (N M : Nat) : Prop :=
  ∃ a g m cap Y, v = .slice a m cap ∧ m ≤ cap ∧ m ≤ M ∧ Limbs w' a g 0 m Y ∧ w.heap.size ≤ g ∧ (0 < m → ∀ o, w'.frozen? ⟨g, o, none⟩ = false) ∧
      (∀ j, j < m → Y j < 4294967296) ∧ (0 < m → Y (m - 1) ≠ 0) ∧ lv Y m = N

theorem natOut_mk {w w' : World} {a : Option Addr} {g m cap N M : Nat} {Y : Nat → Nat} (hs : w.heap.size ≤ w'.heap.size) (h1 : m ≤ cap) (h2 : m ≤ M) (h3 : Limbs w' a g 0 m Y) (h4 : 0 < m → w.heap.size ≤ g)
    (h5 : 0 < m → ∀ o, w'.frozen? ⟨g, o, none⟩ = false) (h6 : ∀ j, j < m → Y j < 4294967296) (h7 : 0 < m → Y (m - 1) ≠ 0) (h8 : lv Y m = N) : NatOut w w' (.slice a m cap) N M := by
  by_cases h0 : 0 < m
  · exact ⟨a, g, m, cap, Y, rfl, h1, h2, h3, h4 h0, h5, h6, h7, h8⟩
  · exact ⟨a, w'.heap.size, m, cap, Y, rfl, h1, h2, fun j hj => absurd hj (by omega), hs, fun h => absurd h h0, h6, h7, h8⟩

end Go.Proofs.YtklkohdcilnchaaDoor

namespace Go.Proofs.YtklkohdcilnchaaDoor
open Go.RowKit

theorem carry_cast (x y p c : Nat) : ((x : Int) * y + p + c) / 4294967296 = (((x * y + p + c) / 4294967296 : Nat) : Int) := by
  have h : (((x * y + p + c : Nat) : Int)) = (x : Int) * y + p + c := by simp
  rw [← h]; omega

set_option maxHeartbeats 3200000 in
set_option maxRecDepth 100000 in
theorem multiply_any (c o : Nat) (a a' : Option Addr) (b off n cap b' off' m cap' : Nat) (X Y : Nat → Nat) (w : World) (hn : n ≤ 4194304) (hm : m ≤ 4194304) (hX : Limbs w a b off n X) (hY : Limbs w a' b' off' m Y)
    (hXl : ∀ j, j < n → X j < 4294967296) (hYl : ∀ j, j < m → Y j < 4294967296) (hc0 : w.cell? ⟨c, o, none⟩ = some (.slice a n cap)) (hf0 : w.frozen? ⟨c, o, none⟩ = false) :
    Calls Tryd.prog 56 #[.pointer (some ⟨c, o, none⟩), .slice a' m cap'] w fun e w' => e = .returned (.tuple #[]) ∧ ∃ w2 P, w.Since w.heap.size w2 ∧ w2.rowIs w.heap.size 43 (n + m) (fun j => .int .u32 (P j : Nat)) ∧
      (∀ k, P k < 4294967296) ∧ lv P (n + m) = lv X n * lv Y m ∧ w' = w2.setCell ⟨c, o, none⟩ (.slice (some ⟨w.heap.size, 0, none⟩) (tlen (nz P) (n + m)) (n + m)) := by
  have hmk := run_make_row' (P := Tryd.prog) 58 43 (.int .u32 0) 4 Tryd.underlying58 Tryd.info43 rfl .i64 .i64 (n + m) (by omega) (by omega)
  rw [Int.natCast_add] at hmk
  have hcl : c < w.heap.size := World.block_lt_of_cell? _ _ hc0
  go_enter Tryd.func56, Tryd.ntmps56
  go_wp2
  clear hmk
  go_loopw [23] (fun q wr => ∃ (i : Nat) (P : Nat → Nat), i ≤ n ∧ q = .int .i64 i ∧ w.Since w.heap.size wr ∧ wr.rowIs w.heap.size 43 (n + m) (fun k => .int .u32 (P k)) ∧ wr.rowIs (w.heap.size + 1) 58 1 (fun _ => .slice (some ⟨w.heap.size, 0, none⟩) (n + m) (n + m)) ∧
     (∀ k, P k < 4294967296) ∧ lv P (i + m) = lv X i * lv Y m) (fun q _ => n - (intOf q).toNat)
  case atStart =>
    refine ⟨0, fun _ => 0, Nat.zero_le _, rfl, ((World.Since.refl _ _).alloc (Nat.le_refl _) _).alloc (by simp) _, ((World.rowIs_made w _ _ _).alloc _), ?_, fun _ => Nat.zero_lt_succ _, ?_⟩
    · have := World.rowIs_alloc (w.alloc (Obj.cells (madeCells #[Value.int IntKind.u32 0] (n + m)) 43)) #[Value.slice (some ⟨w.heap.size, 0, none⟩) (n + m) (n + m)] 58 (fun _ => .slice (some ⟨w.heap.size, 0, none⟩) (n + m) (n + m)) (fun i hi => by simp at hi; subst hi; rfl)
      simpa using this
    · rw [lv_more (fun _ => 0) 0 (0 + m) (by omega) (fun _ _ _ => rfl)]; simp [lv]
  case round =>
    obtain ⟨i, P0, hin, rfl, hs, hr0, hbox, hPl, h0⟩ := hrel
    have H0 : Hid (lv P0 (i + m) = lv X i * lv Y m) := h0
    have HPl : Hid (∀ k, P0 k < 4294967296) := hPl
    clear h0 hPl
    by_cases hlt : i < n
    · obtain ⟨rfl, hc⟩ := hX i hlt
      have g0 : wr.cell? ⟨b, off + i, none⟩ = some (.int .u32 (X i)) := by rw [hs.cell (a := ⟨b, off + i, none⟩) (hX.lt (by omega))]; exact hc
      clear hc
      have hxi := hXl i hlt
      obtain ⟨x, hx⟩ : ∃ x, x = X i := ⟨_, rfl⟩
      rw [← hx] at g0 hxi
      have HX : Hid (x = X i) := hx
      clear hx
      go_wp2
      clear g0
      go_loopw [7, 30] (fun c t wr' => ∃ (j cr : Nat) (P : Nat → Nat), j ≤ m ∧ t = .int .i64 j ∧ c = .int .u64 cr ∧ w.Since w.heap.size wr' ∧ wr'.rowIs w.heap.size 43 (n + m) (fun k => .int .u32 (P k)) ∧
        wr'.rowIs (w.heap.size + 1) 58 1 (fun _ => .slice (some ⟨w.heap.size, 0, none⟩) (n + m) (n + m)) ∧ MulRel P0 P x Y i j cr) (fun _ t _ => m - (intOf t).toNat)
      case atStart => exact ⟨0, 0, P0, by omega, rfl, rfl, hs, hr0, hbox, mulRel_start HPl.out x Y i⟩
      case round =>
        clear hr0 hs hbox
        obtain ⟨j, cr, P, hj, rfl, rfl, hs, hr, hbox, hR⟩ := hrel
        have HR : Hid (MulRel P0 P x Y i j cr) := hR
        clear hR
        have b0 := hbox.cell (i := 0) (by omega)
        by_cases hlt2 : j < m
        · obtain ⟨rfl, hc⟩ := hY j hlt2
          have g0 : wr.cell? ⟨b', off' + j, none⟩ = some (.int .u32 (Y j)) := by rw [hs.cell (a := ⟨b', off' + j, none⟩) (hY.lt (by omega))]; exact hc
          clear hc
          have hyj := hYl j hlt2
          have g1 := hr.cell (i := i + j) (by omega)
          have g2 := hr.frozen (i + j)
          have hsum := mulRel_sum HR.out hxi hyj
          have HST := hide (mulRel_step HR.out hxi hyj rfl)
          obtain ⟨y, hy⟩ : ∃ y, y = Y j := ⟨_, rfl⟩
          obtain ⟨p, hp⟩ : ∃ p, p = P (i + j) := ⟨_, rfl⟩
          have hcr : cr < 4294967296 := HR.out.2.2.1
          have hpl : p < 4294967296 := by rw [hp]; exact HR.out.2.1 _
          rw [← hy] at g0 hyj hsum HST
          rw [← hp] at g1 hsum HST
          clear hy hp
          have hm0 : (0 : Int) ≤ (x : Int) * (y : Int) := by rw [← Int.natCast_mul]; omega
          have hm1 : (x : Int) * (y : Int) + (p : Int) + (cr : Int) ≤ 18446744073709551615 := by rw [← Int.natCast_mul]; omega
          clear hsum
          go_wp2
          go_roundw
          case rel =>
            go_light
            refine ⟨j + 1, (x * y + p + cr) / 4294967296, _, by omega, by go_num, congrArg (Value.int .u64) (carry_cast x y p cr), hs.setCell (Nat.le_refl _) _, (hr.set (i + j) _).congr (fun k _ => ?_), hbox.setOther (by simp) _, HST.out⟩
            by_cases e : k = i + j
            · simp [e]
            · simp [e]
          case measure => simp [intOf]; omega
        · have e : j = m := by omega
          subst e
          have g1 := hr.cell (i := i + j) (by omega)
          have g2 := hr.frozen (i + j)
          have hcr : cr < 4294967296 := HR.out.2.2.1
          go_wp2
          go_roundw
          case rel =>
            go_light
            rw [HX.out] at HR
            refine ⟨i + 1, _, by omega, by go_num, hs.setCell (Nat.le_refl _) _, (hr.set (i + j) _).congr (fun k _ => ?_), hbox.setOther (by simp) _, fun k => ?_, mulRel_end HR.out H0.out⟩
            · by_cases e : k = i + j
              · simp [e]
              · simp [e]
            · show (if k = i + j then cr else P k) < _
              split
              · exact hcr
              · exact HR.out.2.1 k
          case measure => simp [intOf]; omega
    · have e : i = n := by omega
      subst e
      have b0 := hbox.cell (i := 0) (by omega)
      have b1 := hbox.frozen 0
      go_wp2_with fail
      refine (trim_any (w.heap.size + 1) _ w.heap.size 0 (i + m) (i + m) P0 _ (by omega) (Nat.le_refl _) b0 b1 (limbs_row hr0)).mono ?_
      rintro e w1 ⟨rfl, rfl⟩
      have q0 : wr.frozen? ⟨c, o, none⟩ = false := by rw [hs.frozen (a := ⟨c, o, none⟩) hcl]; exact hf0
      have q1 : wr.cell? ⟨c, o, none⟩ = some (.slice a i cap) := by rw [hs.cell (a := ⟨c, o, none⟩) hcl]; exact hc0
      have q2 : c ≠ w.heap.size + 1 := by omega
      go_wp2
      go_end0
      exact ⟨rfl, _, P0, hs.setCell (Nat.le_succ _) _, hr0.setOther (by simp) _, HPl.out, H0.out, rfl⟩


end Go.Proofs.YtklkohdcilnchaaDoor

namespace Go.Proofs.YtklkohdcilnchaaDoor
open Go.RowKit

/-- A natural in an answer: a slice in a block of its own, plain. -/
def NatV (w : World) (v : Value) (g N M : Nat) : Prop :=
  ∃ a m cap Y, v = .slice a m cap ∧ m ≤ cap ∧ m ≤ M ∧ (a = none → cap = 0) ∧ Limbs w a g 0 m Y ∧ (0 < m → ∀ o, w.frozen? ⟨g, o, none⟩ = false) ∧ (∀ j, j < m → Y j < 4294967296) ∧ (0 < m → Y (m - 1) ≠ 0) ∧ lv Y m = N

theorem natV_natAt {w : World} {v : Value} {g N M : Nat} : NatV w v g N M = NatAt w v g N M := rfl

/-- A Rat in an answer: its two lists lie in blocks of their own. -/
def RatV (w : World) (v : Value) (neg : Bool) (N D B M : Nat) : Prop :=
  ∃ v1 v2 g h, v = .agg #[.bool neg, v1, v2] ∧ NatAt w v1 g N M ∧ NatAt w v2 h D M ∧ B ≤ g ∧ B ≤ h ∧ g ≠ h

theorem natAt_nil (w : World) (g M : Nat) : NatAt w (.slice none 0 0) g 0 M :=
  ⟨none, 0, 0, fun _ => 0, rfl, Nat.le_refl _, Nat.zero_le _, fun _ => rfl, fun j hj => absurd hj (by omega), fun h => absurd h (by omega), fun j hj => absurd hj (by omega), fun h => absurd h (by omega), rfl⟩

theorem natAt_empty (w : World) (a : Addr) (cap g M : Nat) : NatAt w (.slice (some a) 0 cap) g 0 M :=
  ⟨some a, 0, cap, fun _ => 0, rfl, Nat.zero_le _, Nat.zero_le _, fun h => (by cases h), fun j hj => absurd hj (by omega), fun h => absurd h (by omega), fun j hj => absurd hj (by omega), fun h => absurd h (by omega), rfl⟩

theorem NatAt.keep {w w' : World} {v : Value} {g N M : Nat} (h : NatAt w v g N M) (s : w.Since w.heap.size w') : NatAt w' v g N M := by
  obtain ⟨a, m, cap, Y, h1, h2, h3, h4, h5, h6, h7, h8, h9⟩ := h
  exact ⟨a, m, cap, Y, h1, h2, h3, h4, h5.keep s, fun h0 o => by rw [s.frozen (a := ⟨g, o, none⟩) (h5.lt h0)]; exact h6 h0 o, h7, h8, h9⟩

theorem NatAt.marked {w w' : World} {v : Value} {g N M c : Nat} (h : NatAt w v g N M) (s : Marked w w' c) (hne : g ≠ c) : NatAt w' v g N M := by
  obtain ⟨a, m, cap, Y, h1, h2, h3, h4, h5, h6, h7, h8, h9⟩ := h
  exact ⟨a, m, cap, Y, h1, h2, h3, h4, h5.marked s (fun _ => hne), fun h0 o => by rw [s.frozenO (a := ⟨g, o, none⟩) hne]; exact h6 h0 o, h7, h8, h9⟩

theorem NatAt.more {w : World} {v : Value} {g N M M' : Nat} (h : NatAt w v g N M) (hM : M ≤ M') : NatAt w v g N M' := by
  obtain ⟨a, m, cap, Y, h1, h2, h3, h4⟩ := h
  exact ⟨a, m, cap, Y, h1, h2, Nat.le_trans h3 hM, h4⟩

theorem RatV.keep {w w' : World} {v : Value} {neg : Bool} {N D B M : Nat} (h : RatV w v neg N D B M) (s : w.Since w.heap.size w') : RatV w' v neg N D B M := by
  obtain ⟨v1, v2, g, k, h1, h2, h3, h4⟩ := h
  exact ⟨v1, v2, g, k, h1, h2.keep s, h3.keep s, h4⟩

theorem RatV.down {w : World} {v : Value} {neg : Bool} {N D B B' M : Nat} (h : RatV w v neg N D B M) (hB : B' ≤ B) : RatV w v neg N D B' M := by
  obtain ⟨v1, v2, g, k, h1, h2, h3, h4, h5, h6⟩ := h
  exact ⟨v1, v2, g, k, h1, h2, h3, by omega, by omega, h6⟩

theorem RatV.more {w : World} {v : Value} {neg : Bool} {N D B M M' : Nat} (h : RatV w v neg N D B M) (hM : M ≤ M') : RatV w v neg N D B M' := by
  obtain ⟨v1, v2, g, k, h1, h2, h3, h4⟩ := h
  exact ⟨v1, v2, g, k, h1, h2.more hM, h3.more hM, h4⟩

set_option maxHeartbeats 800000 in
set_option maxRecDepth 100000 in
theorem zeroRat_any (w : World) : Calls Tryd.prog 33 #[] w fun e w' => ∃ v, e = .returned v ∧ RatV w' v false 0 1 w.heap.size 4194304 ∧ w.Since w.heap.size w' := by
  have sA : w.Since w.heap.size ((w.alloc (.cells #[.bool false, .slice none 0 0, .slice (some ⟨w.heap.size + 1, 0, none⟩) 1 1] 25)).alloc (.cells #[.int .u32 1] 43)) := ((World.Since.refl _ _).alloc (Nat.le_refl _) _).alloc (by simp) _
  have bA : Box3 ((w.alloc (.cells #[.bool false, .slice none 0 0, .slice (some ⟨w.heap.size + 1, 0, none⟩) 1 1] 25)).alloc (.cells #[.int .u32 1] 43)) w.heap.size (.bool false) (.slice none 0 0) (.slice (some ⟨w.heap.size + 1, 0, none⟩) 1 1) :=
    (Box3.new w _ _ _ _).keep ((World.Since.refl _ _).alloc (Nat.le_refl _) _)
  have n1 := natAt_one (w.alloc (.cells #[.bool false, .slice none 0 0, .slice (some ⟨w.heap.size + 1, 0, none⟩) 1 1] 25))
  rw [show (w.alloc (.cells #[.bool false, .slice none 0 0, .slice (some ⟨w.heap.size + 1, 0, none⟩) 1 1] 25)).heap.size = w.heap.size + 1 by simp] at n1
  go_enter Tryd.func33, Tryd.ntmps33
  go_wp2
  refine bodyPost_ret (results_box3 rfl _ _ _ _ _ _ rfl bA) rfl ?_
  exact ⟨_, rfl, ⟨_, _, w.heap.size + 2, w.heap.size + 1, rfl, natAt_nil _ _ _, n1, by omega, by omega, by omega⟩, sA⟩

set_option maxHeartbeats 800000 in
set_option maxRecDepth 100000 in
theorem l1Zero_any (w : World) : Calls Tryd.prog 54 #[] w fun e w' => ∃ v, e = .returned v ∧ RatV w' v false 0 1 w.heap.size 4194304 ∧ w.Since w.heap.size w' := by
  have sA : w.Since w.heap.size (((w.alloc (.cells #[.bool false, .slice (some ⟨w.heap.size + 1, 0, none⟩) 0 0, .slice (some ⟨w.heap.size + 1 + 1, 0, none⟩) 1 1] 25)).alloc (.cells #[] 43)).alloc (.cells #[.int .u32 1] 43)) :=
    (((World.Since.refl _ _).alloc (Nat.le_refl _) _).alloc (by simp) _).alloc (by simp; omega) _
  have bA : Box3 (((w.alloc (.cells #[.bool false, .slice (some ⟨w.heap.size + 1, 0, none⟩) 0 0, .slice (some ⟨w.heap.size + 1 + 1, 0, none⟩) 1 1] 25)).alloc (.cells #[] 43)).alloc (.cells #[.int .u32 1] 43)) w.heap.size (.bool false) (.slice (some ⟨w.heap.size + 1, 0, none⟩) 0 0) (.slice (some ⟨w.heap.size + 1 + 1, 0, none⟩) 1 1) :=
    ((Box3.new w _ _ _ _).keep ((World.Since.refl _ _).alloc (Nat.le_refl _) _)).keep ((World.Since.refl _ _).alloc (Nat.le_refl _) _)
  have n1 := natAt_one ((w.alloc (.cells #[.bool false, .slice (some ⟨w.heap.size + 1, 0, none⟩) 0 0, .slice (some ⟨w.heap.size + 1 + 1, 0, none⟩) 1 1] 25)).alloc (.cells #[] 43))
  rw [show ((w.alloc (.cells #[.bool false, .slice (some ⟨w.heap.size + 1, 0, none⟩) 0 0, .slice (some ⟨w.heap.size + 1 + 1, 0, none⟩) 1 1] 25)).alloc (.cells #[] 43)).heap.size = w.heap.size + 1 + 1 by simp] at n1
  go_enter Tryd.func54, Tryd.ntmps54
  go_wp2
  refine bodyPost_ret (results_box3 rfl _ _ _ _ _ _ rfl bA) rfl ?_
  exact ⟨_, rfl, ⟨_, _, w.heap.size + 1, w.heap.size + 1 + 1, rfl, natAt_empty _ _ _ _ _, n1, by omega, by omega, by omega⟩, sA⟩

theorem tlen_plain {X : Nat → Nat} {n : Nat} (p : 0 < n → X (n - 1) ≠ 0) : tlen (nz X) n = n := by
  cases n with
  | zero => rfl
  | succ n => simp [tlen, nz]; exact fun h => absurd h (p (by omega))

set_option maxHeartbeats 1600000 in
set_option maxRecDepth 100000 in
/-- fractionOf of a Rat with plain lists shares them. -/
theorem fractionOf_any (neg : Bool) (a b : Option Addr) (ba oa n ca bb ob m cb : Nat) (X Y : Nat → Nat) (w : World) (hn : n ≤ 1048576) (hm : m ≤ 1048576) (hnc : n ≤ ca) (hmc : m ≤ cb)
    (hX : Limbs w a ba oa n X) (hY : Limbs w b bb ob m Y) (pX : 0 < n → X (n - 1) ≠ 0) (pY : 0 < m → Y (m - 1) ≠ 0) :
    Calls Tryd.prog 65 #[.agg #[.bool neg, .slice a n ca, .slice b m cb]] w fun e w' => e = .returned (.agg #[.bool neg, .slice a n ca, .slice b m cb]) ∧ w.Since w.heap.size w' := by
  have eX := tlen_plain pX
  have eY := tlen_plain pY
  clear pX pY
  have sA : w.Since w.heap.size ((w.alloc (.cells #[.bool neg, .slice a n ca, .slice b m cb] 25)).alloc (.cells #[.bool false, .slice none 0 0, .slice none 0 0] 74)) := ((World.Since.refl _ _).alloc (Nat.le_refl _) _).alloc (by simp) _
  have bA : Box3 ((w.alloc (.cells #[.bool neg, .slice a n ca, .slice b m cb] 25)).alloc (.cells #[.bool false, .slice none 0 0, .slice none 0 0] 74)) w.heap.size (.bool neg) (.slice a n ca) (.slice b m cb) := (Box3.new w _ _ _ _).keep ((World.Since.refl _ _).alloc (Nat.le_refl _) _)
  have qA : Box3 ((w.alloc (.cells #[.bool neg, .slice a n ca, .slice b m cb] 25)).alloc (.cells #[.bool false, .slice none 0 0, .slice none 0 0] 74)) (w.heap.size + 1) (.bool false) (.slice none 0 0) (.slice none 0 0) := by
    have := Box3.new (w.alloc (.cells #[.bool neg, .slice a n ca, .slice b m cb] 25)) (.bool false) (.slice none 0 0) (.slice none 0 0) 74
    simpa using this
  go_enter Tryd.func65, Tryd.ntmps65
  go_wp2
  generalize ((w.alloc (.cells #[.bool neg, .slice a n ca, .slice b m cb] 25)).alloc (.cells #[.bool false, .slice none 0 0, .slice none 0 0] 74)) = wA at *
  have SD : w.Since w.heap.size wA.drew := ⟨sA.os, sA.tape, sA.output, sA.size, sA.block⟩
  have bD : Box3 wA.drew w.heap.size (.bool neg) (.slice a n ca) (.slice b m cb) := ⟨bA.c0, bA.c1, bA.c2, bA.f⟩
  have qD : Box3 wA.drew (w.heap.size + 1) (.bool false) (.slice none 0 0) (.slice none 0 0) := ⟨qA.c0, qA.c1, qA.c2, qA.f⟩
  have k0 := bA.c0
  have k1 := bA.c1
  have k2 := bA.c2
  have J1 := readOnly_any a ba oa n ca X wA.drew (by omega) hnc (hX.keep SD)
  rw [eX] at J1
  clear sA bA qA
  go_region_held3 (fun w' => w'.cell? ⟨w.heap.size, 0, none⟩ = some (.bool neg) ∧ w'.cell? ⟨w.heap.size, 1, none⟩ = some (.slice a n ca) ∧ w'.cell? ⟨w.heap.size, 2, none⟩ = some (.slice b m cb)) (go_keep)
    (first
      | (go_at_call 50
         first
          | (with_reducible refine J1.mono ?_
             rintro e w1 ⟨rfl, s1⟩
             have S1 : w.Since w.heap.size w1 := SD.trans (sinceMono s1 SD.size)
             have b1 := bD.keep s1
             have q1 := qD.keep s1
             have i0 := b1.c0
             have i1 := b1.c1
             have i2 := b1.c2
             have J2 := readOnly_any b bb ob m cb Y w1 (by omega) hmc (hY.keep S1)
             rw [eY] at J2)
          | (with_reducible refine J2.mono ?_
             rintro e w2 ⟨rfl, s2⟩
             have S2 : w.Since w.heap.size w2 := S1.trans (sinceMono s2 S1.size)
             have b2 := b1.keep s2
             have q2 := q1.keep s2
             have i0 := b2.c0
             have i1 := b2.c1
             have i2 := b2.c2
             have j0 := q2.c0
             have j1 := q2.c1
             have j2 := q2.c2
             have f0 := q2.f 0
             have f1 := q2.f 1
             have f2 := q2.f 2)))
  all_goals go_wp2
  all_goals
    have q3 := ((q2.set0 (.bool neg)).set1 (.slice a n ca)).set2 (.slice b m cb)
    refine bodyPost_ret (results_box3T rfl Tryd.underlying74 rfl fracInfo _ _ _ _ _ _ rfl q3) rfl ?_
    have M : Marked w2 _ (w.heap.size + 1) := (((Marked.refl w2 _).setCell 0 (.bool neg)).setCell 1 (.slice a n ca)).setCell 2 (.slice b m cb)
    exact ⟨rfl, S2.trans (M.since (by omega))⟩

end Go.Proofs.YtklkohdcilnchaaDoor

namespace Go.Proofs.YtklkohdcilnchaaDoor
open Go.RowKit

/-- Old memory but for one block stands. -/
structure Oth (c : Nat) (w w' : World) : Prop where
  os : w'.os = w.os
  tape : w'.tape = w.tape
  output : w'.output = w.output
  size : w.heap.size ≤ w'.heap.size
  block : ∀ k, k < w.heap.size → k ≠ c → w'.heap[k]? = w.heap[k]?

section
variable {c d n g N M off : Nat} {w w' w1 w2 : World} {a : Option Addr} {X : Nat → Nat} {v x y z : Value}
theorem Oth.refl (c : Nat) (w : World) : Oth c w w := ⟨rfl, rfl, rfl, Nat.le_refl _, fun _ _ _ => rfl⟩
theorem Oth.trans (h : Oth c w w1) (k : Oth c w1 w2) : Oth c w w2 := ⟨k.os.trans h.os, k.tape.trans h.tape, k.output.trans h.output, Nat.le_trans h.size k.size, fun i h1 h2 => (k.block i (Nat.lt_of_lt_of_le h1 h.size) h2).trans (h.block i h1 h2)⟩
theorem Oth.ofSince (c : Nat) (h : w.Since w.heap.size w') : Oth c w w' := ⟨h.os, h.tape, h.output, h.size, fun k hk _ => h.block k hk⟩
theorem Oth.ofMarked (h : Marked w w' c) : Oth c w w' := ⟨h.os, h.tape, h.output, by rw [h.size]; exact Nat.le_refl _, fun k _ hk => h.other k hk⟩
theorem Oth.since (h : Oth c w w') (hc : c ≤ w.heap.size) : w.Since c w' := ⟨h.os, h.tape, h.output, h.size, fun k hk => h.block k (by omega) (by omega)⟩
theorem Oth.cell (h : Oth c w w') {a : Addr} (hl : a.block < w.heap.size) (hne : a.block ≠ c) : w'.cell? a = w.cell? a := World.cell?_of_block (w := w) (h.block _ hl hne)
theorem Oth.frozen (h : Oth c w w') {a : Addr} (hl : a.block < w.heap.size) (hne : a.block ≠ c) : w'.frozen? a = w.frozen? a := World.frozen?_of_block (w := w) (h.block _ hl hne)
theorem Limbs.oth (h : Limbs w a g off n X) (s : Oth c w w') (hne : 0 < n → g ≠ c) : Limbs w' a g off n X := fun j hj => ⟨(h j hj).1, by rw [s.cell (a := ⟨g, off + j, none⟩) (h.lt (by omega)) (hne (by omega))]; exact (h j hj).2⟩
theorem NatAt.oth (h : NatAt w v g N M) (s : Oth c w w') (hne : g ≠ c) : NatAt w' v g N M := by
  obtain ⟨a, m, cap, Y, h1, h2, h3, h4, h5, h6, h7, h8, h9⟩ := h
  exact ⟨a, m, cap, Y, h1, h2, h3, h4, h5.oth s (fun _ => hne), fun h0 o => by rw [s.frozen (a := ⟨g, o, none⟩) (h5.lt h0) hne]; exact h6 h0 o, h7, h8, h9⟩
theorem Box3.oth (h : Box3 w d x y z) (s : Oth c w w') (hne : d ≠ c) : Box3 w' d x y z :=
  ⟨(s.cell (a := ⟨d, 0, none⟩) h.lt hne).trans h.c0, (s.cell (a := ⟨d, 1, none⟩) h.lt hne).trans h.c1, (s.cell (a := ⟨d, 2, none⟩) h.lt hne).trans h.c2, fun k => (s.frozen (a := ⟨d, k, none⟩) h.lt hne).trans (h.f k)⟩
end

theorem Box3.drew {w : World} {c : Nat} {x y z : Value} (h : Box3 w c x y z) : Box3 w.drew c x y z := ⟨h.c0, h.c1, h.c2, h.f⟩
theorem Oth.drew {w w' : World} {c : Nat} (h : Oth c w w') : Oth c w w'.drew := ⟨h.os, h.tape, h.output, h.size, h.block⟩
theorem Limbs.drew {w : World} {a : Option Addr} {b off n : Nat} {X : Nat → Nat} (h : Limbs w a b off n X) : Limbs w.drew a b off n X := h
theorem NatAt.drew {w : World} {v : Value} {g N M : Nat} (h : NatAt w v g N M) : NatAt w.drew v g N M := h
theorem since_drew {w w' : World} {B : Nat} (h : w.Since B w') : w.Since B w'.drew := ⟨h.os, h.tape, h.output, h.size, h.block⟩

theorem natAt_row {w2 : World} {g n : Nat} {P : Nat → Nat} (r : w2.rowIs g 43 n (fun j => .int .u32 (P j : Nat))) (hP : ∀ k, P k < 4294967296) {N : Nat} (hN : lv P n = N) : NatAt w2 (.slice (some ⟨g, 0, none⟩) (tlen (nz P) n) n) g N n :=
  ⟨_, _, _, P, rfl, tlen_le _ _, tlen_le _ _, fun h => (by cases h), (limbs_row r).take (tlen_le _ _), fun _ o => r.frozen o, fun j _ => hP j, fun h => by have := tlen_top (nz P) n h; simpa [nz] using this, by rw [lv_tlen]; exact hN⟩

/-- multiply at the second cell of a struct. -/
theorem mulAt1 (c : Nat) (x z : Value) (a a' : Option Addr) (b off n cap b' off' m cap' : Nat) (X Y : Nat → Nat) (w : World) (hn : n ≤ 4194304) (hm : m ≤ 4194304) (hX : Limbs w a b off n X) (hY : Limbs w a' b' off' m Y)
    (hXl : ∀ j, j < n → X j < 4294967296) (hYl : ∀ j, j < m → Y j < 4294967296) (B : Box3 w c x (.slice a n cap) z) :
    Calls Tryd.prog 56 #[.pointer (some ⟨c, 1, none⟩), .slice a' m cap'] w fun e w' => e = .returned (.tuple #[]) ∧ ∃ v, Box3 w' c x v z ∧ NatAt w' v w.heap.size (lv X n * lv Y m) (n + m) ∧ Oth c w w' ∧ w.heap.size < w'.heap.size := by
  refine (multiply_any c 1 a a' b off n cap b' off' m cap' X Y w hn hm hX hY hXl hYl B.c1 (B.f 1)).mono ?_
  rintro e w' ⟨rfl, w2, P, s, r, hP, hv, rfl⟩
  have M := (Marked.refl w2 c).setCell 1 (.slice (some ⟨w.heap.size, 0, none⟩) (tlen (nz P) (n + m)) (n + m))
  exact ⟨rfl, _, (B.keep s).set1 _, (natAt_row r hP hv).marked M (Nat.ne_of_gt B.lt), (Oth.ofSince c s).trans (Oth.ofMarked M), by rw [M.size]; exact r.lt⟩

/-- multiply at the third cell of a struct. -/
theorem mulAt2 (c : Nat) (x z : Value) (a a' : Option Addr) (b off n cap b' off' m cap' : Nat) (X Y : Nat → Nat) (w : World) (hn : n ≤ 4194304) (hm : m ≤ 4194304) (hX : Limbs w a b off n X) (hY : Limbs w a' b' off' m Y)
    (hXl : ∀ j, j < n → X j < 4294967296) (hYl : ∀ j, j < m → Y j < 4294967296) (B : Box3 w c x z (.slice a n cap)) :
    Calls Tryd.prog 56 #[.pointer (some ⟨c, 2, none⟩), .slice a' m cap'] w fun e w' => e = .returned (.tuple #[]) ∧ ∃ v, Box3 w' c x z v ∧ NatAt w' v w.heap.size (lv X n * lv Y m) (n + m) ∧ Oth c w w' ∧ w.heap.size < w'.heap.size := by
  refine (multiply_any c 2 a a' b off n cap b' off' m cap' X Y w hn hm hX hY hXl hYl B.c2 (B.f 2)).mono ?_
  rintro e w' ⟨rfl, w2, P, s, r, hP, hv, rfl⟩
  have M := (Marked.refl w2 c).setCell 2 (.slice (some ⟨w.heap.size, 0, none⟩) (tlen (nz P) (n + m)) (n + m))
  exact ⟨rfl, _, (B.keep s).set2 _, (natAt_row r hP hv).marked M (Nat.ne_of_gt B.lt), (Oth.ofSince c s).trans (Oth.ofMarked M), by rw [M.size]; exact r.lt⟩

set_option maxHeartbeats 1600000 in
set_option maxRecDepth 100000 in
/-- (*fraction).multiply. -/
theorem fracMul_any (c : Nat) (f f' : Bool) (a b a' b' : Option Addr) (ba oa n ca bb ob m cb ba' oa' n' ca' bb' ob' m' cb' : Nat) (X Y X' Y' : Nat → Nat) (w : World) (hn : n ≤ 1048576) (hm : m ≤ 1048576) (hn' : n' ≤ 1048576) (hm' : m' ≤ 1048576)
    (hX : Limbs w a ba oa n X) (hY : Limbs w b bb ob m Y) (hX' : Limbs w a' ba' oa' n' X') (hY' : Limbs w b' bb' ob' m' Y') (hXl : ∀ j, j < n → X j < 4294967296) (hYl : ∀ j, j < m → Y j < 4294967296) (hXl' : ∀ j, j < n' → X' j < 4294967296) (hYl' : ∀ j, j < m' → Y' j < 4294967296)
    (ea : 0 < n → ba ≠ c) (eb : 0 < m → bb ≠ c) (ea' : 0 < n' → ba' ≠ c) (eb' : 0 < m' → bb' ≠ c) (B : Box3 w c (.bool f) (.slice a n ca) (.slice b m cb)) :
    Calls Tryd.prog 68 #[.pointer (some ⟨c, 0, none⟩), .agg #[.bool f', .slice a' n' ca', .slice b' m' cb']] w fun e w' => e = .returned (.tuple #[]) ∧ ∃ v1 v2 g h, Box3 w' c (.bool (f != f')) v1 v2 ∧
      NatAt w' v1 g (lv X n * lv X' n') (n + n') ∧ NatAt w' v2 h (lv Y m * lv Y' m') (m + m') ∧ w.heap.size ≤ g ∧ g < h ∧ h < w'.heap.size ∧ Oth c w w' := by
  have sA : w.Since w.heap.size (w.alloc (.cells #[.bool f', .slice a' n' ca', .slice b' m' cb'] 74)) := (World.Since.refl _ _).alloc (Nat.le_refl _) _
  have gA := Box3.new w (.bool f') (.slice a' n' ca') (.slice b' m' cb') 74
  have k0 := B.c0
  have kf := B.f 0
  have BA := B.keep sA
  have hcl := B.lt
  go_enter Tryd.func68, Tryd.ntmps68
  go_wp2
  have g0 := gA.c0
  have kA := BA.c0
  have kB := BA.f 0
  have M0 := (Marked.refl w c).setCell 0 (.bool (!(f == f')))
  have tS : (w.setCell ⟨c, 0, none⟩ (.bool (!(f == f')))).Since (w.setCell ⟨c, 0, none⟩ (.bool (!(f == f')))).heap.size ((w.setCell ⟨c, 0, none⟩ (.bool (!(f == f')))).alloc (.cells #[.bool f', .slice a' n' ca', .slice b' m' cb'] 74)).drew := by
    have h := (World.Since.refl _ (w.setCell ⟨c, 0, none⟩ (.bool (!(f == f'))))).alloc (Nat.le_refl _) (.cells #[.bool f', .slice a' n' ca', .slice b' m' cb'] 74)
    exact ⟨h.os, h.tape, h.output, h.size, h.block⟩
  have B1 : Box3 ((w.setCell ⟨c, 0, none⟩ (.bool (!(f == f')))).alloc (.cells #[.bool f', .slice a' n' ca', .slice b' m' cb'] 74)).drew c (.bool (!(f == f'))) (.slice a n ca) (.slice b m cb) := (B.set0 _).keep tS
  have G1 : Box3 ((w.setCell ⟨c, 0, none⟩ (.bool (!(f == f')))).alloc (.cells #[.bool f', .slice a' n' ca', .slice b' m' cb'] 74)).drew w.heap.size (.bool f') (.slice a' n' ca') (.slice b' m' cb') := by
    have h := Box3.new (w.setCell ⟨c, 0, none⟩ (.bool (!(f == f')))) (.bool f') (.slice a' n' ca') (.slice b' m' cb') 74
    rw [M0.size] at h
    exact ⟨h.c0, h.c1, h.c2, h.f⟩
  have O1 : Oth c w ((w.setCell ⟨c, 0, none⟩ (.bool (!(f == f')))).alloc (.cells #[.bool f', .slice a' n' ca', .slice b' m' cb'] 74)).drew := (Oth.ofMarked M0).trans (Oth.ofSince c tS)
  have z1 : w.heap.size < ((w.setCell ⟨c, 0, none⟩ (.bool (!(f == f')))).alloc (.cells #[.bool f', .slice a' n' ca', .slice b' m' cb'] 74)).drew.heap.size := G1.lt
  clear tS M0 gA BA sA B
  go_region_with (fail)
  all_goals
    generalize ((w.setCell ⟨c, 0, none⟩ (.bool (!(f == f')))).alloc (.cells #[.bool f', .slice a' n' ca', .slice b' m' cb'] 74)).drew = w1 at *
    have k2 := G1.c1
    have JA := mulAt1 c _ _ a a' ba oa n ca ba' oa' n' ca' X X' w1.drew (by omega) (by omega) (hX.oth O1.drew ea) (hX'.oth O1.drew ea') hXl hXl' B1.drew
    go_wp2
    go_region_held3 (fun w' => w'.cell? ⟨w.heap.size, 1, none⟩ = some (.slice a' n' ca')) (go_keep)
      (first
        | (go_at_call 56
           with_reducible refine JA.mono ?_
           rintro e w2 ⟨rfl, v1, B2, N1, O2, z2⟩
           have G2 := G1.drew.oth O2 (by omega)
           have O12 := O1.drew.trans O2
           have i1 := G2.c1))
    have k3 := G2.c2
    have JB := mulAt2 c _ _ b b' bb ob m cb bb' ob' m' cb' Y Y' w2.drew (by omega) (by omega) (hY.oth O12.drew eb) (hY'.oth O12.drew eb') hYl hYl' B2.drew
    go_wp2
    go_region_held3 (fun w' => w'.cell? ⟨w.heap.size, 2, none⟩ = some (.slice b' m' cb')) (go_keep)
      (first
        | (go_at_call 56
           with_reducible refine JB.mono ?_
           rintro e w3 ⟨rfl, v2, B3, N2, O3, z3⟩
           have i2 := (G2.drew.oth O3 (by omega)).c2))
    go_wp2
    go_end0
    exact ⟨rfl, v1, v2, w1.heap.size, w2.heap.size, B3, N1.drew.oth O3 (by show w1.heap.size ≠ _; omega), N2, by omega, z2, z3, O12.drew.trans O3⟩

end Go.Proofs.YtklkohdcilnchaaDoor

namespace Go.Proofs.YtklkohdcilnchaaDoor
open Go.RowKit

theorem Tab.oth {w w' : World} {c : Nat} (h : Tab w) (hw : 0 < w.heap.size) (hc : 0 ≠ c) (s : Oth c w w') : Tab w' := fun q hq => by rw [s.cell (a := ⟨0, q, none⟩) hw hc]; exact h q hq
theorem Tab.stay {w w' : World} (h : Tab w) (hw : 0 < w.heap.size) (s : w.Since w.heap.size w') : Tab w' := h.oth (c := w.heap.size) hw (by omega) (Oth.ofSince _ s)

theorem box1_keep {w1 w2 : World} {v : Value} {t : TypeId} (s : (w1.alloc (.cells #[v] t)).drew.Since (w1.alloc (.cells #[v] t)).drew.heap.size w2) : w2.cell? ⟨w1.heap.size, 0, none⟩ = some v ∧ w2.frozen? ⟨w1.heap.size, 0, none⟩ = false ∧ w1.heap.size < w2.heap.size := by
  have z : w1.heap.size < (w1.alloc (.cells #[v] t)).drew.heap.size := by show w1.heap.size < (w1.alloc (.cells #[v] t)).heap.size; simp
  exact ⟨(s.cell (a := ⟨w1.heap.size, 0, none⟩) z).trans (by show (w1.alloc (.cells #[v] t)).cell? _ = _; simp [go_sem]), (s.frozen (a := ⟨w1.heap.size, 0, none⟩) z).trans (by show (w1.alloc (.cells #[v] t)).frozen? _ = _; simp [go_sem]), Nat.lt_of_lt_of_le z s.size⟩

set_option maxHeartbeats 3200000 in
set_option maxRecDepth 100000 in
/-- normalise where the two parts have no common divisor. -/
theorem normalise_one (c : Nat) (f : Bool) (v1 v2 : Value) (g h N D B : Nat) (w : World) (hw : 0 < w.heap.size) (hT : Tab w) (Bx : Box3 w c (.bool f) v1 v2) (H1 : NatAt w v1 g N 1048576) (H2 : NatAt w v2 h D 1048576)
    (hgh : g ≠ h) (hgl : g < w.heap.size) (hhl : h < w.heap.size) (hg : B ≤ g) (hh : B ≤ h) (hB : B ≤ w.heap.size) (_hc : B ≤ c) (h1 : Nat.gcd N D = 1) :
    Calls Tryd.prog 67 #[.pointer (some ⟨c, 0, none⟩)] w fun e w' => ∃ v, e = .returned v ∧ RatV w' v (f && N != 0) N D B 1048578 ∧ w.Since B w' := by
  have H1s := H1
  have H2s := H2
  obtain ⟨a, n, ca, X, rfl, n1, n2, n3, LX, FX, lX, pX, eX⟩ := H1
  obtain ⟨b, m, cb, Y, rfl, m1, m2, m3, LY, FY, lY, pY, eY⟩ := H2
  have hcl := Bx.lt
  have sA : w.Since w.heap.size (w.alloc (.cells #[.bool false, .slice none 0 0, .slice none 0 0] 25)) := (World.Since.refl _ _).alloc (Nat.le_refl _) _
  have rA := Box3.new w (.bool false) (.slice none 0 0) (.slice none 0 0) 25
  have bA := Bx.keep sA
  have tA := hT.stay hw sA
  have wA : 0 < (w.alloc (.cells #[.bool false, .slice none 0 0, .slice none 0 0] 25)).heap.size := Nat.lt_of_lt_of_le hw sA.size
  have XA := LX.keep sA
  have YA := LY.keep sA
  go_enter Tryd.func67, Tryd.ntmps67
  go_wp2
  generalize w.alloc (.cells #[.bool false, .slice none 0 0, .slice none 0 0] 25) = w1 at *
  have J1 : ∀ w', w1.Since w1.heap.size w' → Calls Tryd.prog 37 #[.slice a n ca, .slice b m cb] w' fun e w2 => ∃ v g, e = .returned v ∧ NatAt w2 v g 1 4194304 ∧ w'.heap.size ≤ g ∧ w'.Since w'.heap.size w2 ∧ w1.Since w1.heap.size w2 := fun w' s => by
    have J := gcdOf_any a b g 0 n ca h 0 m cb X Y w' (Nat.lt_of_lt_of_le wA s.size) n2 m2 n1 m1 n3 m3 (XA.keep s) (YA.keep s) lX lY pX pY (tA.stay wA s)
    rw [eX, eY, h1] at J
    exact J.mono fun e w2 ⟨v, g, q1, q2, q3, q4⟩ => ⟨v, g, q1, q2, q3, q4, s.trans (sinceMono q4 s.size)⟩
  have k0 := bA.c1
  have k1 := bA.c2
  have z1 := rA.lt
  have E := hide (And.intro lX (And.intro pX (And.intro lY pY)))
  clear lX pX lY pY
  have ne0 := World.new_ne w1 _ k0
  have JA := J1 (w1.alloc (.cells #[.slice none 0 0] 58)).drew (since_drew ((World.Since.refl _ _).alloc (Nat.le_refl _) _))
  have JB := J1 w1.drew (since_drew (World.Since.refl _ _))
  clear J1
  go_region_held3 (fun w' => w'.cell? ⟨c, 1, none⟩ = some (.slice a n ca) ∧ w'.cell? ⟨c, 2, none⟩ = some (.slice b m cb)) (go_keep)
    (first
      | (go_at_call 37
         with_reducible refine JA.mono ?_
         rintro e w2 ⟨v3, g3, rfl, ⟨a3, k3, c3, Z, rfl, y1, y2, y3, L3, F3, l3, p3, e3⟩, hg3, s2, S2⟩
         have b2 := bA.keep S2
         have r2 := rA.keep S2
         have i1 := b2.c1
         have i2 := b2.c2
         have ne1 := World.new_ne w2 _ i1
         obtain ⟨x0, x1, x2⟩ := box1_keep s2)
      | (go_at_call 37
         with_reducible refine JB.mono ?_
         rintro e w2 ⟨v3, g3, rfl, ⟨a3, k3, c3, Z, rfl, y1, y2, y3, L3, F3, l3, p3, e3⟩, hg3, s2, S2⟩
         have b2 := bA.keep S2
         have r2 := rA.keep S2
         have i1 := b2.c1
         have i2 := b2.c2
         have ne1 := World.new_ne w2 _ i1))
  · go_wp2_with fail
    have t3 : w2.Since w2.heap.size (w2.alloc (.cells #[.slice a3 k3 c3] 58)) := (World.Since.refl _ _).alloc (Nat.le_refl _) _
    have b3 := b2.keep t3
    have r3 := r2.keep t3
    have L4 := L3.keep t3
    have S3 := S2.trans (sinceMono t3 S2.size)
    have Q0 : (w2.alloc (.cells #[.slice a3 k3 c3] 58)).cell? ⟨w2.heap.size, 0, none⟩ = some (.slice a3 k3 c3) := by simp [go_sem]
    generalize w2.alloc (.cells #[.slice a3 k3 c3] 58) = w3 at *
    generalize w2.heap.size = q at *
    have SW : w.Since w.heap.size w3 := sA.trans (sinceMono S3 (by have := sA.size; omega))
    have N4 := (H1s.keep SW).more (show 1048576 ≤ 1048578 by omega)
    have D4 := (H2s.keep SW).more (show 1048576 ≤ 1048578 by omega)
    have S4 : w.Since B w3.drew := since_drew (sinceMono SW hB)
    have hg4 : g ≠ w.heap.size := by omega
    have hh4 : h ≠ w.heap.size := by omega
    have hnz : ((n : Int) == 0) = !(N != 0) := by
      have hN : n = 0 ↔ N = 0 := by
        rw [← eX]
        constructor
        · intro h; rw [h]; rfl
        · intro h
          rcases Nat.eq_zero_or_pos n with e | e
          · exact e
          · have := lv_ge X n e (E.out.2.1 e); have := Nat.pow_pos (n := 32 * (n - 1)) (show 0 < 2 by omega); omega
      rw [Bool.eq_iff_iff]; simp; omega
    have HZ := hide hnz
    clear hnz
    have e4 : decide (lv Z k3 = 1) = true := by simp [e3]
    have I1 := isOne_any q 0 a3 g3 0 k3 c3 Z w3 Q0 L4 l3 p3
    rw [e4] at I1
    clear e4 e3 l3 p3
    refine I1.mono ?_
    rintro e w4 ⟨rfl, rfl⟩
    clear I1
    have j0 := b3.c0
    have j1 := b3.c1
    have j2 := b3.c2
    have u0 := r3.c0
    have u1 := r3.c1
    have u2 := r3.c2
    have uf0 := r3.f 0
    have uf1 := r3.f 1
    have uf2 := r3.f 2
    have I2 := isZero_any c 1 a n ca w4.drew b3.drew.c1
    have hne : w.heap.size ≠ c := Nat.ne_of_gt hcl
    cases f
    · go_wp2
      first | go_region_held (fun w' => w'.cell? ⟨c, 0, none⟩ = some (.bool false) ∧ w'.cell? ⟨c, 1, none⟩ = some (.slice a n ca) ∧ w'.cell? ⟨c, 2, none⟩ = some (.slice b m cb)) (go_keep) (fail) | fail
      all_goals go_wp2
      all_goals
        have r4 := ((r3.drew.set0 (.bool false)).set1 (.slice a n ca)).set2 (.slice b m cb)
        refine bodyPost_ret (results_box3 rfl _ _ _ _ _ _ rfl r4) rfl ?_
        have M : Marked w4.drew _ w.heap.size := (((Marked.refl w4.drew _).setCell 0 (.bool false)).setCell 1 (.slice a n ca)).setCell 2 (.slice b m cb)
        exact ⟨_, rfl, ⟨_, _, g, h, rfl, N4.drew.marked M hg4, D4.drew.marked M hh4, hg, hh, hgh⟩, S4.trans (M.since hB)⟩
    · go_wp2
      go_region_held3 (fun w' => w'.cell? ⟨c, 0, none⟩ = some (.bool true) ∧ w'.cell? ⟨c, 1, none⟩ = some (.slice a n ca) ∧ w'.cell? ⟨c, 2, none⟩ = some (.slice b m cb)) (go_keep)
        (first | (go_at_call 51; with_reducible refine I2.mono ?_; rintro e w5 ⟨rfl, rfl⟩))
      all_goals go_wp2
      all_goals
        have r4 := ((r3.drew.set0 (.bool (!((n : Int) == 0)))).set1 (.slice a n ca)).set2 (.slice b m cb)
        refine bodyPost_ret (results_box3 rfl _ _ _ _ _ _ rfl r4) rfl ?_
        have M : Marked w4.drew _ w.heap.size := (((Marked.refl w4.drew _).setCell 0 (.bool (!((n : Int) == 0)))).setCell 1 (.slice a n ca)).setCell 2 (.slice b m cb)
        rw [HZ.out] at M ⊢
        exact ⟨_, rfl, ⟨_, _, g, h, by simp, N4.drew.marked M hg4, D4.drew.marked M hh4, hg, hh, hgh⟩, S4.trans (M.since hB)⟩
  · go_wp2_with fail
    have M3 : Marked w2 (w2.setCell ⟨w1.heap.size, 0, none⟩ (.slice a3 k3 c3)) w1.heap.size := (Marked.refl w2 _).setCell _ _
    have zc : c < w1.heap.size := bA.lt
    have b3 := b2.marked M3 (by omega)
    have r3 := r2.marked M3 (by omega)
    have hg3' : w1.heap.size + 1 ≤ g3 := by
      have : (w1.alloc (.cells #[.slice none 0 0] 58)).drew.heap.size = w1.heap.size + 1 := by show (w1.alloc _).heap.size = _; simp
      omega
    have L4 := L3.marked M3 (fun _ => by omega)
    have S3 := S2.trans (M3.since (Nat.le_refl _))
    have Q0 : (w2.setCell ⟨w1.heap.size, 0, none⟩ (.slice a3 k3 c3)).cell? ⟨w1.heap.size, 0, none⟩ = some (.slice a3 k3 c3) := World.cell?_setCell_same _ _ _ x0
    generalize w2.setCell ⟨w1.heap.size, 0, none⟩ (.slice a3 k3 c3) = w3 at *
    generalize hq : w1.heap.size = q at *
    have SW : w.Since w.heap.size w3 := sA.trans (sinceMono S3 (by have := sA.size; omega))
    have N4 := (H1s.keep SW).more (show 1048576 ≤ 1048578 by omega)
    have D4 := (H2s.keep SW).more (show 1048576 ≤ 1048578 by omega)
    have S4 : w.Since B w3.drew := since_drew (sinceMono SW hB)
    have hg4 : g ≠ w.heap.size := by omega
    have hh4 : h ≠ w.heap.size := by omega
    have hnz : ((n : Int) == 0) = !(N != 0) := by
      have hN : n = 0 ↔ N = 0 := by
        rw [← eX]
        constructor
        · intro h; rw [h]; rfl
        · intro h
          rcases Nat.eq_zero_or_pos n with e | e
          · exact e
          · have := lv_ge X n e (E.out.2.1 e); have := Nat.pow_pos (n := 32 * (n - 1)) (show 0 < 2 by omega); omega
      rw [Bool.eq_iff_iff]; simp; omega
    have HZ := hide hnz
    clear hnz
    have e4 : decide (lv Z k3 = 1) = true := by simp [e3]
    have I1 := isOne_any q 0 a3 g3 0 k3 c3 Z w3 Q0 L4 l3 p3
    rw [e4] at I1
    clear e4 e3 l3 p3
    refine I1.mono ?_
    rintro e w4 ⟨rfl, rfl⟩
    clear I1
    have j0 := b3.c0
    have j1 := b3.c1
    have j2 := b3.c2
    have u0 := r3.c0
    have u1 := r3.c1
    have u2 := r3.c2
    have uf0 := r3.f 0
    have uf1 := r3.f 1
    have uf2 := r3.f 2
    have I2 := isZero_any c 1 a n ca w4.drew b3.drew.c1
    have hne : w.heap.size ≠ c := Nat.ne_of_gt hcl
    cases f
    · go_wp2
      first | go_region_held (fun w' => w'.cell? ⟨c, 0, none⟩ = some (.bool false) ∧ w'.cell? ⟨c, 1, none⟩ = some (.slice a n ca) ∧ w'.cell? ⟨c, 2, none⟩ = some (.slice b m cb)) (go_keep) (fail) | fail
      all_goals go_wp2
      all_goals
        have r4 := ((r3.drew.set0 (.bool false)).set1 (.slice a n ca)).set2 (.slice b m cb)
        refine bodyPost_ret (results_box3 rfl _ _ _ _ _ _ rfl r4) rfl ?_
        have M : Marked w4.drew _ w.heap.size := (((Marked.refl w4.drew _).setCell 0 (.bool false)).setCell 1 (.slice a n ca)).setCell 2 (.slice b m cb)
        exact ⟨_, rfl, ⟨_, _, g, h, rfl, N4.drew.marked M hg4, D4.drew.marked M hh4, hg, hh, hgh⟩, S4.trans (M.since hB)⟩
    · go_wp2
      go_region_held3 (fun w' => w'.cell? ⟨c, 0, none⟩ = some (.bool true) ∧ w'.cell? ⟨c, 1, none⟩ = some (.slice a n ca) ∧ w'.cell? ⟨c, 2, none⟩ = some (.slice b m cb)) (go_keep)
        (first | (go_at_call 51; with_reducible refine I2.mono ?_; rintro e w5 ⟨rfl, rfl⟩))
      all_goals go_wp2
      all_goals
        have r4 := ((r3.drew.set0 (.bool (!((n : Int) == 0)))).set1 (.slice a n ca)).set2 (.slice b m cb)
        refine bodyPost_ret (results_box3 rfl _ _ _ _ _ _ rfl r4) rfl ?_
        have M : Marked w4.drew _ w.heap.size := (((Marked.refl w4.drew _).setCell 0 (.bool (!((n : Int) == 0)))).setCell 1 (.slice a n ca)).setCell 2 (.slice b m cb)
        rw [HZ.out] at M ⊢
        exact ⟨_, rfl, ⟨_, _, g, h, by simp, N4.drew.marked M hg4, D4.drew.marked M hh4, hg, hh, hgh⟩, S4.trans (M.since hB)⟩

end Go.Proofs.YtklkohdcilnchaaDoor

namespace Go.Proofs.YtklkohdcilnchaaDoor
open Go.RowKit

section
variable {w w' : World} {a : Option Addr} {d g off n N M : Nat} {X : Nat → Nat} {v x y z : Value}
theorem Box3.ofBlock (h : Box3 w d x y z) (e : w'.heap[d]? = w.heap[d]?) : Box3 w' d x y z :=
  ⟨(World.cell?_of_block (w := w) (a := ⟨d, 0, none⟩) e).trans h.c0, (World.cell?_of_block (w := w) (a := ⟨d, 1, none⟩) e).trans h.c1, (World.cell?_of_block (w := w) (a := ⟨d, 2, none⟩) e).trans h.c2, fun k => (World.frozen?_of_block (w := w) (a := ⟨d, k, none⟩) e).trans (h.f k)⟩
theorem Limbs.ofBlock (h : Limbs w a g off n X) (e : 0 < n → w'.heap[g]? = w.heap[g]?) : Limbs w' a g off n X :=
  fun j hj => ⟨(h j hj).1, (World.cell?_of_block (w := w) (a := ⟨g, off + j, none⟩) (e (by omega))).trans (h j hj).2⟩
theorem NatAt.ofBlock (h : NatAt w v g N M) (e : g < w.heap.size → w'.heap[g]? = w.heap[g]?) : NatAt w' v g N M := by
  obtain ⟨a, m, cap, Y, h1, h2, h3, h4, h5, h6, h7, h8, h9⟩ := h
  exact ⟨a, m, cap, Y, h1, h2, h3, h4, h5.ofBlock (fun h0 => e (h5.lt h0)), fun h0 o => (World.frozen?_of_block (w := w) (a := ⟨g, o, none⟩) (e (h5.lt h0))).trans (h6 h0 o), h7, h8, h9⟩
/-- A natural of no limb lies wherever we say. -/
theorem NatAt.place (h : NatAt w v g N M) (g' : Nat) : g < w.heap.size ∨ NatAt w v g' N M := by
  obtain ⟨a, m, cap, Y, h1, h2, h3, h4, h5, h6, h7, h8, h9⟩ := h
  rcases Nat.eq_zero_or_pos m with e | e
  · subst e
    exact Or.inr ⟨a, 0, cap, Y, h1, h2, h3, h4, fun j hj => absurd hj (by omega), fun h => absurd h (by omega), h7, h8, h9⟩
  · exact Or.inl (h5.lt e)
end

theorem lv_zero {X : Nat → Nat} {n : Nat} (p : 0 < n → X (n - 1) ≠ 0) : n = 0 ↔ lv X n = 0 := by
  constructor
  · intro h; rw [h]; rfl
  · intro h
    rcases Nat.eq_zero_or_pos n with e | e
    · exact e
    · have := lv_ge X n e (p e); have := Nat.pow_pos (n := 32 * (n - 1)) (show 0 < 2 by omega); omega

theorem div_gcd_zero {N D : Nat} (hD : 0 < D) : N / Nat.gcd N D = 0 ↔ N = 0 := by
  have hG : 0 < Nat.gcd N D := Nat.gcd_pos_of_pos_right N hD
  constructor
  · intro h
    rcases Nat.eq_zero_or_pos N with e | e
    · exact e
    · have := Nat.div_pos (Nat.gcd_le_left D e) hG; omega
  · intro h; rw [h]; exact Nat.zero_div _

set_option maxHeartbeats 6400000 in
set_option maxRecDepth 100000 in
/-- normalise where a common divisor is taken out. -/
theorem normalise_big (c : Nat) (f : Bool) (v1 v2 : Value) (g h N D B : Nat) (w : World) (hw : 0 < w.heap.size) (hT : Tab w) (Bx : Box3 w c (.bool f) v1 v2) (H1 : NatAt w v1 g N 1048576) (H2 : NatAt w v2 h D 1048576)
    (hgh : g ≠ h) (hgl : g < w.heap.size) (hhl : h < w.heap.size) (hcg : c ≠ g) (hch : c ≠ h) (hg : B ≤ g) (hh : B ≤ h) (hB : B ≤ w.heap.size) (hc : B ≤ c) (hD : 0 < D) (h1 : Nat.gcd N D ≠ 1) :
    Calls Tryd.prog 67 #[.pointer (some ⟨c, 0, none⟩)] w fun e w' => ∃ v, e = .returned v ∧ RatV w' v (f && N != 0) (N / Nat.gcd N D) (D / Nat.gcd N D) B 1048578 ∧ w.Since B w' := by
  have H1s := H1
  have H2s := H2
  obtain ⟨a, n, ca, X, rfl, n1, n2, n3, LX, FX, lX, pX, eX⟩ := H1
  obtain ⟨b, m, cb, Y, rfl, m1, m2, m3, LY, FY, lY, pY, eY⟩ := H2
  have hcl := Bx.lt
  have sA : w.Since w.heap.size (w.alloc (.cells #[.bool false, .slice none 0 0, .slice none 0 0] 25)) := (World.Since.refl _ _).alloc (Nat.le_refl _) _
  have rA := Box3.new w (.bool false) (.slice none 0 0) (.slice none 0 0) 25
  have bA := Bx.keep sA
  have tA := hT.stay hw sA
  have wA : 0 < (w.alloc (.cells #[.bool false, .slice none 0 0, .slice none 0 0] 25)).heap.size := Nat.lt_of_lt_of_le hw sA.size
  have XA := LX.keep sA
  have YA := LY.keep sA
  obtain ⟨G, hG⟩ : ∃ G, G = Nat.gcd N D := ⟨_, rfl⟩
  have hG0 : 0 < G := by rw [hG]; exact Nat.gcd_pos_of_pos_right N hD
  have hGD : G ≤ D := by rw [hG]; exact Nat.gcd_le_right N hD
  have hGz := hide (div_gcd_zero (N := N) hD)
  rw [← hG] at hGz h1 ⊢
  go_enter Tryd.func67, Tryd.ntmps67
  go_wp2
  generalize w.alloc (.cells #[.bool false, .slice none 0 0, .slice none 0 0] 25) = w1 at *
  have J1 : ∀ w', w1.Since w1.heap.size w' → Calls Tryd.prog 37 #[.slice a n ca, .slice b m cb] w' fun e w2 => ∃ v g, e = .returned v ∧ NatAt w2 v g G 4194304 ∧ w'.heap.size ≤ g ∧ w'.Since w'.heap.size w2 ∧ w1.Since w1.heap.size w2 := fun w' s => by
    have J := gcdOf_any a b g 0 n ca h 0 m cb X Y w' (Nat.lt_of_lt_of_le wA s.size) n2 m2 n1 m1 n3 m3 (XA.keep s) (YA.keep s) lX lY pX pY (tA.stay wA s)
    rw [eX, eY, ← hG] at J
    exact J.mono fun e w2 ⟨v, g, q1, q2, q3, q4⟩ => ⟨v, g, q1, q2, q3, q4, s.trans (sinceMono q4 s.size)⟩
  have k0 := bA.c1
  have k1 := bA.c2
  have z1 := rA.lt
  have E := hide (And.intro lX (And.intro pX (And.intro lY pY)))
  clear lX pX lY pY hG
  have ne0 := World.new_ne w1 _ k0
  have JA := J1 (w1.alloc (.cells #[.slice none 0 0] 58)).drew (since_drew ((World.Since.refl _ _).alloc (Nat.le_refl _) _))
  have JB := J1 w1.drew (since_drew (World.Since.refl _ _))
  clear J1
  go_region_held3 (fun w' => w'.cell? ⟨c, 1, none⟩ = some (.slice a n ca) ∧ w'.cell? ⟨c, 2, none⟩ = some (.slice b m cb)) (go_keep)
    (first
      | (go_at_call 37
         with_reducible refine JA.mono ?_
         rintro e w2 ⟨v3, g3, rfl, ⟨a3, k3, c3, Z, rfl, y1, y2, y3, L3, F3, l3, p3, e3⟩, hg3, s2, S2⟩
         have b2 := bA.keep S2
         have r2 := rA.keep S2
         have i1 := b2.c1
         have i2 := b2.c2
         have ne1 := World.new_ne w2 _ i1
         obtain ⟨x0, x1, x2⟩ := box1_keep s2)
      | (go_at_call 37
         with_reducible refine JB.mono ?_
         rintro e w2 ⟨v3, g3, rfl, ⟨a3, k3, c3, Z, rfl, y1, y2, y3, L3, F3, l3, p3, e3⟩, hg3, s2, S2⟩
         have b2 := bA.keep S2
         have r2 := rA.keep S2
         have i1 := b2.c1
         have i2 := b2.c2
         have ne1 := World.new_ne w2 _ i1))
  · go_wp2_with fail
    have t3 : w2.Since w2.heap.size (w2.alloc (.cells #[.slice a3 k3 c3] 58)) := (World.Since.refl _ _).alloc (Nat.le_refl _) _
    have b3 := b2.keep t3
    have r3 := r2.keep t3
    have L4 := L3.keep t3
    have S3 := S2.trans (sinceMono t3 S2.size)
    have Q0 : (w2.alloc (.cells #[.slice a3 k3 c3] 58)).cell? ⟨w2.heap.size, 0, none⟩ = some (.slice a3 k3 c3) := by simp [go_sem]
    have hg1 : w1.heap.size ≤ g3 := hg3
    have hq1 : w1.heap.size ≤ w2.heap.size := S2.size
    generalize w2.alloc (.cells #[.slice a3 k3 c3] 58) = w3 at *
    generalize w2.heap.size = q at *
    have z0 : w.heap.size < w1.heap.size := rA.lt
    have SW : w.Since w.heap.size w3 := sA.trans (sinceMono S3 (by have := sA.size; omega))
    have hq2 : q < w3.heap.size := World.block_lt_of_cell? _ _ Q0
    have hk3 : 0 < k3 := by
      rcases Nat.eq_zero_or_pos k3 with e | e
      · subst e; rw [show lv Z 0 = 0 from rfl] at e3; omega
      · exact e
    have hkm : k3 ≤ m := by
      rcases Nat.lt_or_ge m k3 with hlt | hge
      · have := lv_short (A := Y) (B := Z) E.out.2.2.1 hlt p3; omega
      · exact hge
    have hg3l : g3 < w3.heap.size := L4.lt hk3
    have e4 : decide (lv Z k3 = 1) = false := by rw [e3]; simp [h1]
    have I1 := isOne_any q 0 a3 g3 0 k3 c3 Z w3 Q0 L4 l3 p3
    rw [e4] at I1
    clear e4
    have EZ := hide (And.intro l3 (And.intro p3 e3))
    clear l3 p3 e3
    refine I1.mono ?_
    rintro e w4 ⟨rfl, rfl⟩
    clear I1
    have N4 := (H1s.keep SW).drew
    have D4 := (H2s.keep SW).drew
    have X4 : Limbs w4.drew a g 0 n X := LX.keep (since_drew SW)
    have F4 : 0 < n → ∀ x, w4.drew.frozen? ⟨g, x, none⟩ = false := fun h0 x => ((since_drew SW).frozen (a := ⟨g, x, none⟩) hgl).trans (FX h0 x)
    have JD := divideBy_any c 1 a a3 g n ca g3 k3 c3 X Z w4.drew (by omega) n1 n3 hk3 (by omega) b3.drew.c1 (b3.drew.f 1) X4 L4.drew E.out.1 EZ.out.1 F4 hcg (fun _ => by show g < w4.heap.size; omega) E.out.2.1 (EZ.out.2.1 hk3)
    rw [eX, EZ.out.2.2] at JD
    have Q1 : w4.drew.cell? ⟨q, 0, none⟩ = some (.slice a3 k3 c3) := Q0
    have hqc : q ≠ c := by omega
    have hqg : q ≠ g := by omega
    have Q2 := Q0
    have zd : w4.drew.heap.size = w4.heap.size := rfl
    go_wp2
    go_region_held3 (fun w' => w'.cell? ⟨q, 0, none⟩ = some (.slice a3 k3 c3)) (go_keep)
      (first
        | (go_at_call 53
           with_reducible refine JD.mono ?_
           rintro e w5 ⟨vq, vr, gq, gr, rfl, cr, ⟨aq, nq, cq, U, rfl, u1, u2, u3, LU, FU, lU, pU, eU⟩, Nr, hq3, hr3, d1, d2, d3, Fq⟩
           have i1 : w5.cell? ⟨q, 0, none⟩ = some (.slice a3 k3 c3) := (World.cell?_of_block (w := w4.drew) (a := ⟨q, 0, none⟩) (Fq.block q hq2 hqc hqg)).trans Q1
           have fz : w5.frozen? ⟨c, 1, none⟩ = false := (Fq.frozen 1).trans (b3.f 1)
           have hcq : c ≠ q := by omega))
    have z5 := Fq.size
    have Nq : NatAt w5 (.slice aq nq cq) gq (N / G) 1048578 := ⟨aq, nq, cq, U, rfl, u1, by omega, u3, LU, FU, lU, pU, eU⟩
    have b5 : Box3 w5 c (.bool f) vr (.slice b m cb) := ⟨(Fq.cell 0 (by decide)).trans b3.c0, cr, (Fq.cell 2 (by decide)).trans b3.c2, fun k => (Fq.frozen k).trans (b3.f k)⟩
    have b6 := b5.set1 (.slice aq nq cq)
    have M6 : Marked w5 (w5.setCell ⟨c, 1, none⟩ (.slice aq nq cq)) c := (Marked.refl w5 _).setCell _ _
    have r6 := (r3.drew.ofBlock (Fq.block w.heap.size (by show w.heap.size < w4.heap.size; omega) (by omega) (by omega))).marked M6 (by omega)
    have N6 := Nq.marked M6 d2
    have D6 := (D4.ofBlock (fun _ => Fq.block h (by show h < w4.heap.size; omega) (by omega) (by omega))).marked M6 (by omega)
    have L6 := (L4.drew.ofBlock (fun _ => Fq.block g3 hg3l (by omega) (by omega))).marked M6 (fun _ => by omega)
    have Q6 : (w5.setCell ⟨c, 1, none⟩ (.slice aq nq cq)).cell? ⟨q, 0, none⟩ = some (.slice a3 k3 c3) := (M6.cell (a := ⟨q, 0, none⟩) hqc).trans i1
    have z6 := M6.size
    have S6 : w.Since B (w5.setCell ⟨c, 1, none⟩ (.slice aq nq cq)) := by
      have s4 : w.Since B w4.drew := since_drew (sinceMono SW hB)
      have s5 : w4.drew.Since B w5 := ⟨Fq.os, Fq.tape, Fq.output, Fq.size, fun k hk => Fq.block k (by show k < w4.heap.size; omega) (by omega) (by omega)⟩
      exact (s4.trans s5).trans (M6.since hc)
    clear LU FU lU pU u1 u2 u3 b5 cr Nr N4 D4 L4 Q0 Q1 Q2 i1 fz
    go_wp2_with fail
    generalize w5.setCell ⟨c, 1, none⟩ (.slice aq nq cq) = w6 at *
    obtain ⟨b', m', cb', Y', ev, m1', m2', m3', LY6, FY6, lY6, pY6, eY6⟩ := D6
    obtain ⟨rfl, rfl, rfl⟩ : b' = b ∧ m' = m ∧ cb' = cb := by simp at ev; exact ⟨ev.1.symm, ev.2.1.symm, ev.2.2.symm⟩
    have JE := divideBy_any c 2 b' a3 h m' cb' g3 k3 c3 Y' Z w6.drew (by omega) m1' m3' hk3 (by omega) b6.drew.c2 (b6.drew.f 2) LY6.drew L6.drew lY6 EZ.out.1 FY6 hch (fun _ => by show h < w6.heap.size; omega) pY6 (EZ.out.2.1 hk3)
    rw [eY6, EZ.out.2.2] at JE
    clear lY6 pY6 eY6 ev LY6 FY6
    have hqh : q ≠ h := by omega
    have Q7 : w6.drew.cell? ⟨q, 0, none⟩ = some (.slice a3 k3 c3) := Q6
    have hq6 : q < w6.drew.heap.size := by show q < w6.heap.size; omega
    go_wp2
    go_region_held3 (fun w' => w'.cell? ⟨q, 0, none⟩ = some (.slice a3 k3 c3)) (go_keep)
      (first
        | (go_at_call 53
           with_reducible refine JE.mono ?_
           rintro e w7 ⟨vq, vr, gp, gs, rfl, cr, ⟨ap, np, cp, V, rfl, u1, u2, u3, LU, FU, lU, pU, eV⟩, Nr, hp3, hs3, d4, d5, d6, Fp⟩
           have i1 : w7.cell? ⟨q, 0, none⟩ = some (.slice a3 k3 c3) := (World.cell?_of_block (w := w6.drew) (a := ⟨q, 0, none⟩) (Fp.block q hq6 hqc hqh)).trans Q7
           have fz : w7.frozen? ⟨c, 2, none⟩ = false := (Fp.frozen 2).trans (b6.f 2)
           have hcq : c ≠ q := by omega))
    have z7 := Fp.size
    have zd6 : w6.drew.heap.size = w6.heap.size := rfl
    have Np : NatAt w7 (.slice ap np cp) gp (D / G) 1048578 := ⟨ap, np, cp, V, rfl, u1, by omega, u3, LU, FU, lU, pU, eV⟩
    have b7 : Box3 w7 c (.bool f) (.slice aq nq cq) vr := ⟨(Fp.cell 0 (by decide)).trans b6.c0, (Fp.cell 1 (by decide)).trans b6.c1, cr, fun k => (Fp.frozen k).trans (b6.f k)⟩
    have b8 := b7.set2 (.slice ap np cp)
    have M8 : Marked w7 (w7.setCell ⟨c, 2, none⟩ (.slice ap np cp)) c := (Marked.refl w7 _).setCell _ _
    have r8 := (r6.drew.ofBlock (Fp.block w.heap.size (by show w.heap.size < w6.heap.size; omega) (by omega) (by omega))).marked M8 (by omega)
    have hqh2 : gq ≠ h := by omega
    have N8 := (N6.drew.ofBlock (fun hl => Fp.block gq hl d2 hqh2)).marked M8 d2
    have P8 := Np.marked M8 d5
    have z8 := M8.size
    have S8 : w.Since B (w7.setCell ⟨c, 2, none⟩ (.slice ap np cp)) := by
      have s7 : w6.drew.Since B w7 := ⟨Fp.os, Fp.tape, Fp.output, Fp.size, fun k hk => Fp.block k (by show k < w6.heap.size; omega) (by omega) (by omega)⟩
      exact ((since_drew S6).trans s7).trans (M8.since hc)
    have hnz : ((nq : Int) == 0) = !(N != 0) := by
      obtain ⟨a9, m9, c9, Y9, e9, -, -, -, -, -, -, p9, v9⟩ := N8
      have : m9 = nq := by simp at e9; exact e9.2.1.symm
      subst this
      have hN := (lv_zero p9)
      rw [v9, hGz.out] at hN
      rw [Bool.eq_iff_iff]; simp; omega
    have HZ := hide hnz
    clear hnz LU FU lU pU u1 u2 u3 b7 cr Nr Q6 Q7 i1 fz
    have hpl : gp = h ∨ w6.heap.size ≤ gp := hp3
    have gq1 : gq = g ∨ w4.heap.size ≤ gq := hq3
    obtain ⟨g', hg', hBg', hg'1, N9⟩ : ∃ g', g' ≠ gp ∧ B ≤ g' ∧ g' ≠ w.heap.size ∧ NatAt (w7.setCell ⟨c, 2, none⟩ (.slice ap np cp)) (.slice aq nq cq) g' (N / G) 1048578 := by
      rcases N6.place (gp + 1 + w.heap.size) with hl | hp
      · exact ⟨gq, by omega, by omega, by omega, N8⟩
      · refine ⟨gp + 1 + w.heap.size, by omega, by omega, by omega, ?_⟩
        rcases N8.place (gp + 1 + w.heap.size) with hl8 | hp8
        · obtain ⟨a9, m9, c9, Y9, e9, q1, q2, q3, L9, -, q5, q6, q7⟩ := hp
          obtain ⟨a8, m8, c8, Y8, e8, r1, r2, r3, L8, F8, r5, r6, r7⟩ := N8
          rcases Nat.eq_zero_or_pos m8 with e0 | e0
          · exact ⟨a8, m8, c8, Y8, e8, r1, r2, r3, fun j hj => absurd hj (by omega), fun hj => absurd hj (by omega), r5, r6, r7⟩
          · have e89 : m8 = m9 ∧ a8 = a9 := by rw [e8] at e9; simp at e9; exact ⟨e9.2.1, e9.1⟩
            have x8 := (L8 0 e0).1
            have x9 := (L9 0 (by omega)).1
            rw [e89.2, x9] at x8
            simp at x8
            rw [x8]
            exact ⟨a8, m8, c8, Y8, e8, r1, r2, r3, L8, F8, r5, r6, r7⟩
        · exact hp8
    clear N6 N8 hq3 hp3
    have hBp : B ≤ gp := by omega
    have hgp1 : gp ≠ w.heap.size := by omega
    go_wp2_with fail
    generalize w7.setCell ⟨c, 2, none⟩ (.slice ap np cp) = w8 at *
    have j0 := b8.c0
    have j1 := b8.c1
    have j2 := b8.c2
    have u0 := r8.c0
    have u1 := r8.c1
    have u2 := r8.c2
    have uf0 := r8.f 0
    have uf1 := r8.f 1
    have uf2 := r8.f 2
    have I2 := isZero_any c 1 aq nq cq w8.drew b8.drew.c1
    have hne : w.heap.size ≠ c := Nat.ne_of_gt hcl
    cases f
    · go_wp2
      first | go_region_held (fun w' => w'.cell? ⟨c, 0, none⟩ = some (.bool false) ∧ w'.cell? ⟨c, 1, none⟩ = some (.slice aq nq cq) ∧ w'.cell? ⟨c, 2, none⟩ = some (.slice ap np cp)) (go_keep) (fail) | fail
      all_goals go_wp2
      all_goals
        have r4 := ((r8.drew.set0 (.bool false)).set1 (.slice aq nq cq)).set2 (.slice ap np cp)
        refine bodyPost_ret (results_box3 rfl _ _ _ _ _ _ rfl r4) rfl ?_
        have M : Marked w8.drew _ w.heap.size := (((Marked.refl w8.drew _).setCell 0 (.bool false)).setCell 1 (.slice aq nq cq)).setCell 2 (.slice ap np cp)
        exact ⟨_, rfl, ⟨_, _, g', gp, rfl, N9.drew.marked M hg'1, P8.drew.marked M hgp1, hBg', hBp, hg'⟩, (since_drew S8).trans (M.since hB)⟩
    · go_wp2
      go_region_held3 (fun w' => w'.cell? ⟨c, 0, none⟩ = some (.bool true) ∧ w'.cell? ⟨c, 1, none⟩ = some (.slice aq nq cq) ∧ w'.cell? ⟨c, 2, none⟩ = some (.slice ap np cp)) (go_keep)
        (first | (go_at_call 51; with_reducible refine I2.mono ?_; rintro e w9 ⟨rfl, rfl⟩))
      all_goals go_wp2
      all_goals
        have r4 := ((r8.drew.set0 (.bool (!((nq : Int) == 0)))).set1 (.slice aq nq cq)).set2 (.slice ap np cp)
        refine bodyPost_ret (results_box3 rfl _ _ _ _ _ _ rfl r4) rfl ?_
        have M : Marked w8.drew _ w.heap.size := (((Marked.refl w8.drew _).setCell 0 (.bool (!((nq : Int) == 0)))).setCell 1 (.slice aq nq cq)).setCell 2 (.slice ap np cp)
        rw [HZ.out] at M ⊢
        exact ⟨_, rfl, ⟨_, _, g', gp, by simp, N9.drew.marked M hg'1, P8.drew.marked M hgp1, hBg', hBp, hg'⟩, (since_drew S8).trans (M.since hB)⟩
  · go_wp2_with fail
    have M3 : Marked w2 (w2.setCell ⟨w1.heap.size, 0, none⟩ (.slice a3 k3 c3)) w1.heap.size := (Marked.refl w2 _).setCell _ _
    have zc : c < w1.heap.size := bA.lt
    have b3 := b2.marked M3 (by omega)
    have r3 := r2.marked M3 (by omega)
    have hg1 : w1.heap.size + 1 ≤ g3 := by
      have : (w1.alloc (.cells #[.slice none 0 0] 58)).drew.heap.size = w1.heap.size + 1 := by show (w1.alloc _).heap.size = _; simp
      omega
    have L4 := L3.marked M3 (fun _ => by omega)
    have S3 := S2.trans (M3.since (Nat.le_refl _))
    have Q0 : (w2.setCell ⟨w1.heap.size, 0, none⟩ (.slice a3 k3 c3)).cell? ⟨w1.heap.size, 0, none⟩ = some (.slice a3 k3 c3) := World.cell?_setCell_same _ _ _ x0
    have hq1 : w1.heap.size ≤ w1.heap.size := Nat.le_refl _
    generalize w2.setCell ⟨w1.heap.size, 0, none⟩ (.slice a3 k3 c3) = w3 at *
    generalize hq : w1.heap.size = q at *
    have z0 : w.heap.size < w1.heap.size := rA.lt
    have SW : w.Since w.heap.size w3 := sA.trans (sinceMono S3 (by have := sA.size; omega))
    have hq2 : q < w3.heap.size := World.block_lt_of_cell? _ _ Q0
    have hk3 : 0 < k3 := by
      rcases Nat.eq_zero_or_pos k3 with e | e
      · subst e; rw [show lv Z 0 = 0 from rfl] at e3; omega
      · exact e
    have hkm : k3 ≤ m := by
      rcases Nat.lt_or_ge m k3 with hlt | hge
      · have := lv_short (A := Y) (B := Z) E.out.2.2.1 hlt p3; omega
      · exact hge
    have hg3l : g3 < w3.heap.size := L4.lt hk3
    have e4 : decide (lv Z k3 = 1) = false := by rw [e3]; simp [h1]
    have I1 := isOne_any q 0 a3 g3 0 k3 c3 Z w3 Q0 L4 l3 p3
    rw [e4] at I1
    clear e4
    have EZ := hide (And.intro l3 (And.intro p3 e3))
    clear l3 p3 e3
    refine I1.mono ?_
    rintro e w4 ⟨rfl, rfl⟩
    clear I1
    have N4 := (H1s.keep SW).drew
    have D4 := (H2s.keep SW).drew
    have X4 : Limbs w4.drew a g 0 n X := LX.keep (since_drew SW)
    have F4 : 0 < n → ∀ x, w4.drew.frozen? ⟨g, x, none⟩ = false := fun h0 x => ((since_drew SW).frozen (a := ⟨g, x, none⟩) hgl).trans (FX h0 x)
    have JD := divideBy_any c 1 a a3 g n ca g3 k3 c3 X Z w4.drew (by omega) n1 n3 hk3 (by omega) b3.drew.c1 (b3.drew.f 1) X4 L4.drew E.out.1 EZ.out.1 F4 hcg (fun _ => by show g < w4.heap.size; omega) E.out.2.1 (EZ.out.2.1 hk3)
    rw [eX, EZ.out.2.2] at JD
    have Q1 : w4.drew.cell? ⟨q, 0, none⟩ = some (.slice a3 k3 c3) := Q0
    have hqc : q ≠ c := by omega
    have hqg : q ≠ g := by omega
    have Q2 := Q0
    have zd : w4.drew.heap.size = w4.heap.size := rfl
    go_wp2
    go_region_held3 (fun w' => w'.cell? ⟨q, 0, none⟩ = some (.slice a3 k3 c3)) (go_keep)
      (first
        | (go_at_call 53
           with_reducible refine JD.mono ?_
           rintro e w5 ⟨vq, vr, gq, gr, rfl, cr, ⟨aq, nq, cq, U, rfl, u1, u2, u3, LU, FU, lU, pU, eU⟩, Nr, hq3, hr3, d1, d2, d3, Fq⟩
           have i1 : w5.cell? ⟨q, 0, none⟩ = some (.slice a3 k3 c3) := (World.cell?_of_block (w := w4.drew) (a := ⟨q, 0, none⟩) (Fq.block q hq2 hqc hqg)).trans Q1
           have fz : w5.frozen? ⟨c, 1, none⟩ = false := (Fq.frozen 1).trans (b3.f 1)
           have hcq : c ≠ q := by omega))
    have z5 := Fq.size
    have Nq : NatAt w5 (.slice aq nq cq) gq (N / G) 1048578 := ⟨aq, nq, cq, U, rfl, u1, by omega, u3, LU, FU, lU, pU, eU⟩
    have b5 : Box3 w5 c (.bool f) vr (.slice b m cb) := ⟨(Fq.cell 0 (by decide)).trans b3.c0, cr, (Fq.cell 2 (by decide)).trans b3.c2, fun k => (Fq.frozen k).trans (b3.f k)⟩
    have b6 := b5.set1 (.slice aq nq cq)
    have M6 : Marked w5 (w5.setCell ⟨c, 1, none⟩ (.slice aq nq cq)) c := (Marked.refl w5 _).setCell _ _
    have r6 := (r3.drew.ofBlock (Fq.block w.heap.size (by show w.heap.size < w4.heap.size; omega) (by omega) (by omega))).marked M6 (by omega)
    have N6 := Nq.marked M6 d2
    have D6 := (D4.ofBlock (fun _ => Fq.block h (by show h < w4.heap.size; omega) (by omega) (by omega))).marked M6 (by omega)
    have L6 := (L4.drew.ofBlock (fun _ => Fq.block g3 hg3l (by omega) (by omega))).marked M6 (fun _ => by omega)
    have Q6 : (w5.setCell ⟨c, 1, none⟩ (.slice aq nq cq)).cell? ⟨q, 0, none⟩ = some (.slice a3 k3 c3) := (M6.cell (a := ⟨q, 0, none⟩) hqc).trans i1
    have z6 := M6.size
    have S6 : w.Since B (w5.setCell ⟨c, 1, none⟩ (.slice aq nq cq)) := by
      have s4 : w.Since B w4.drew := since_drew (sinceMono SW hB)
      have s5 : w4.drew.Since B w5 := ⟨Fq.os, Fq.tape, Fq.output, Fq.size, fun k hk => Fq.block k (by show k < w4.heap.size; omega) (by omega) (by omega)⟩
      exact (s4.trans s5).trans (M6.since hc)
    clear LU FU lU pU u1 u2 u3 b5 cr Nr N4 D4 L4 Q0 Q1 Q2 i1 fz
    go_wp2_with fail
    generalize w5.setCell ⟨c, 1, none⟩ (.slice aq nq cq) = w6 at *
    obtain ⟨b', m', cb', Y', ev, m1', m2', m3', LY6, FY6, lY6, pY6, eY6⟩ := D6
    obtain ⟨rfl, rfl, rfl⟩ : b' = b ∧ m' = m ∧ cb' = cb := by simp at ev; exact ⟨ev.1.symm, ev.2.1.symm, ev.2.2.symm⟩
    have JE := divideBy_any c 2 b' a3 h m' cb' g3 k3 c3 Y' Z w6.drew (by omega) m1' m3' hk3 (by omega) b6.drew.c2 (b6.drew.f 2) LY6.drew L6.drew lY6 EZ.out.1 FY6 hch (fun _ => by show h < w6.heap.size; omega) pY6 (EZ.out.2.1 hk3)
    rw [eY6, EZ.out.2.2] at JE
    clear lY6 pY6 eY6 ev LY6 FY6
    have hqh : q ≠ h := by omega
    have Q7 : w6.drew.cell? ⟨q, 0, none⟩ = some (.slice a3 k3 c3) := Q6
    have hq6 : q < w6.drew.heap.size := by show q < w6.heap.size; omega
    go_wp2
    go_region_held3 (fun w' => w'.cell? ⟨q, 0, none⟩ = some (.slice a3 k3 c3)) (go_keep)
      (first
        | (go_at_call 53
           with_reducible refine JE.mono ?_
           rintro e w7 ⟨vq, vr, gp, gs, rfl, cr, ⟨ap, np, cp, V, rfl, u1, u2, u3, LU, FU, lU, pU, eV⟩, Nr, hp3, hs3, d4, d5, d6, Fp⟩
           have i1 : w7.cell? ⟨q, 0, none⟩ = some (.slice a3 k3 c3) := (World.cell?_of_block (w := w6.drew) (a := ⟨q, 0, none⟩) (Fp.block q hq6 hqc hqh)).trans Q7
           have fz : w7.frozen? ⟨c, 2, none⟩ = false := (Fp.frozen 2).trans (b6.f 2)
           have hcq : c ≠ q := by omega))
    have z7 := Fp.size
    have zd6 : w6.drew.heap.size = w6.heap.size := rfl
    have Np : NatAt w7 (.slice ap np cp) gp (D / G) 1048578 := ⟨ap, np, cp, V, rfl, u1, by omega, u3, LU, FU, lU, pU, eV⟩
    have b7 : Box3 w7 c (.bool f) (.slice aq nq cq) vr := ⟨(Fp.cell 0 (by decide)).trans b6.c0, (Fp.cell 1 (by decide)).trans b6.c1, cr, fun k => (Fp.frozen k).trans (b6.f k)⟩
    have b8 := b7.set2 (.slice ap np cp)
    have M8 : Marked w7 (w7.setCell ⟨c, 2, none⟩ (.slice ap np cp)) c := (Marked.refl w7 _).setCell _ _
    have r8 := (r6.drew.ofBlock (Fp.block w.heap.size (by show w.heap.size < w6.heap.size; omega) (by omega) (by omega))).marked M8 (by omega)
    have hqh2 : gq ≠ h := by omega
    have N8 := (N6.drew.ofBlock (fun hl => Fp.block gq hl d2 hqh2)).marked M8 d2
    have P8 := Np.marked M8 d5
    have z8 := M8.size
    have S8 : w.Since B (w7.setCell ⟨c, 2, none⟩ (.slice ap np cp)) := by
      have s7 : w6.drew.Since B w7 := ⟨Fp.os, Fp.tape, Fp.output, Fp.size, fun k hk => Fp.block k (by show k < w6.heap.size; omega) (by omega) (by omega)⟩
      exact ((since_drew S6).trans s7).trans (M8.since hc)
    have hnz : ((nq : Int) == 0) = !(N != 0) := by
      obtain ⟨a9, m9, c9, Y9, e9, -, -, -, -, -, -, p9, v9⟩ := N8
      have : m9 = nq := by simp at e9; exact e9.2.1.symm
      subst this
      have hN := (lv_zero p9)
      rw [v9, hGz.out] at hN
      rw [Bool.eq_iff_iff]; simp; omega
    have HZ := hide hnz
    clear hnz LU FU lU pU u1 u2 u3 b7 cr Nr Q6 Q7 i1 fz
    have hpl : gp = h ∨ w6.heap.size ≤ gp := hp3
    have gq1 : gq = g ∨ w4.heap.size ≤ gq := hq3
    obtain ⟨g', hg', hBg', hg'1, N9⟩ : ∃ g', g' ≠ gp ∧ B ≤ g' ∧ g' ≠ w.heap.size ∧ NatAt (w7.setCell ⟨c, 2, none⟩ (.slice ap np cp)) (.slice aq nq cq) g' (N / G) 1048578 := by
      rcases N6.place (gp + 1 + w.heap.size) with hl | hp
      · exact ⟨gq, by omega, by omega, by omega, N8⟩
      · refine ⟨gp + 1 + w.heap.size, by omega, by omega, by omega, ?_⟩
        rcases N8.place (gp + 1 + w.heap.size) with hl8 | hp8
        · obtain ⟨a9, m9, c9, Y9, e9, q1, q2, q3, L9, -, q5, q6, q7⟩ := hp
          obtain ⟨a8, m8, c8, Y8, e8, r1, r2, r3, L8, F8, r5, r6, r7⟩ := N8
          rcases Nat.eq_zero_or_pos m8 with e0 | e0
          · exact ⟨a8, m8, c8, Y8, e8, r1, r2, r3, fun j hj => absurd hj (by omega), fun hj => absurd hj (by omega), r5, r6, r7⟩
          · have e89 : m8 = m9 ∧ a8 = a9 := by rw [e8] at e9; simp at e9; exact ⟨e9.2.1, e9.1⟩
            have x8 := (L8 0 e0).1
            have x9 := (L9 0 (by omega)).1
            rw [e89.2, x9] at x8
            simp at x8
            rw [x8]
            exact ⟨a8, m8, c8, Y8, e8, r1, r2, r3, L8, F8, r5, r6, r7⟩
        · exact hp8
    clear N6 N8 hq3 hp3
    have hBp : B ≤ gp := by omega
    have hgp1 : gp ≠ w.heap.size := by omega
    go_wp2_with fail
    generalize w7.setCell ⟨c, 2, none⟩ (.slice ap np cp) = w8 at *
    have j0 := b8.c0
    have j1 := b8.c1
    have j2 := b8.c2
    have u0 := r8.c0
    have u1 := r8.c1
    have u2 := r8.c2
    have uf0 := r8.f 0
    have uf1 := r8.f 1
    have uf2 := r8.f 2
    have I2 := isZero_any c 1 aq nq cq w8.drew b8.drew.c1
    have hne : w.heap.size ≠ c := Nat.ne_of_gt hcl
    cases f
    · go_wp2
      first | go_region_held (fun w' => w'.cell? ⟨c, 0, none⟩ = some (.bool false) ∧ w'.cell? ⟨c, 1, none⟩ = some (.slice aq nq cq) ∧ w'.cell? ⟨c, 2, none⟩ = some (.slice ap np cp)) (go_keep) (fail) | fail
      all_goals go_wp2
      all_goals
        have r4 := ((r8.drew.set0 (.bool false)).set1 (.slice aq nq cq)).set2 (.slice ap np cp)
        refine bodyPost_ret (results_box3 rfl _ _ _ _ _ _ rfl r4) rfl ?_
        have M : Marked w8.drew _ w.heap.size := (((Marked.refl w8.drew _).setCell 0 (.bool false)).setCell 1 (.slice aq nq cq)).setCell 2 (.slice ap np cp)
        exact ⟨_, rfl, ⟨_, _, g', gp, rfl, N9.drew.marked M hg'1, P8.drew.marked M hgp1, hBg', hBp, hg'⟩, (since_drew S8).trans (M.since hB)⟩
    · go_wp2
      go_region_held3 (fun w' => w'.cell? ⟨c, 0, none⟩ = some (.bool true) ∧ w'.cell? ⟨c, 1, none⟩ = some (.slice aq nq cq) ∧ w'.cell? ⟨c, 2, none⟩ = some (.slice ap np cp)) (go_keep)
        (first | (go_at_call 51; with_reducible refine I2.mono ?_; rintro e w9 ⟨rfl, rfl⟩))
      all_goals go_wp2
      all_goals
        have r4 := ((r8.drew.set0 (.bool (!((nq : Int) == 0)))).set1 (.slice aq nq cq)).set2 (.slice ap np cp)
        refine bodyPost_ret (results_box3 rfl _ _ _ _ _ _ rfl r4) rfl ?_
        have M : Marked w8.drew _ w.heap.size := (((Marked.refl w8.drew _).setCell 0 (.bool (!((nq : Int) == 0)))).setCell 1 (.slice aq nq cq)).setCell 2 (.slice ap np cp)
        rw [HZ.out] at M ⊢
        exact ⟨_, rfl, ⟨_, _, g', gp, by simp, N9.drew.marked M hg'1, P8.drew.marked M hgp1, hBg', hBp, hg'⟩, (since_drew S8).trans (M.since hB)⟩

end Go.Proofs.YtklkohdcilnchaaDoor

namespace Go.Proofs.YtklkohdcilnchaaDoor
open Go.RowKit

theorem normalise_any (c : Nat) (f : Bool) (v1 v2 : Value) (g h N D B : Nat) (w : World) (hw : 0 < w.heap.size) (hT : Tab w) (Bx : Box3 w c (.bool f) v1 v2) (H1 : NatAt w v1 g N 1048576) (H2 : NatAt w v2 h D 1048576)
    (hgh : g ≠ h) (hgl : g < w.heap.size) (hhl : h < w.heap.size) (hcg : c ≠ g) (hch : c ≠ h) (hg : B ≤ g) (hh : B ≤ h) (hB : B ≤ w.heap.size) (hc : B ≤ c) (hD : 0 < D) :
    Calls Tryd.prog 67 #[.pointer (some ⟨c, 0, none⟩)] w fun e w' => ∃ v, e = .returned v ∧ RatV w' v (f && N != 0) (N / Nat.gcd N D) (D / Nat.gcd N D) B 1048578 ∧ w.Since B w' := by
  by_cases h1 : Nat.gcd N D = 1
  · rw [h1, Nat.div_one, Nat.div_one]
    exact normalise_one c f v1 v2 g h N D B w hw hT Bx H1 H2 hgh hgl hhl hg hh hB hc h1
  · exact normalise_big c f v1 v2 g h N D B w hw hT Bx H1 H2 hgh hgl hhl hcg hch hg hh hB hc hD h1

/-- A valid Rat, as an argument: plain lists, a divisor that is not zero. -/
structure RIn (w : World) (a b : Option Addr) (ba oa n ca bb ob m cb : Nat) (X Y : Nat → Nat) : Prop where
  nc : n ≤ ca
  mc : m ≤ cb
  ac : a = none → ca = 0
  bc : b = none → cb = 0
  LX : Limbs w a ba oa n X
  LY : Limbs w b bb ob m Y
  lX : ∀ j, j < n → X j < 4294967296
  lY : ∀ j, j < m → Y j < 4294967296
  pX : 0 < n → X (n - 1) ≠ 0
  pY : 0 < m → Y (m - 1) ≠ 0
  m0 : 0 < m

theorem RIn.keep {w w' : World} {a b : Option Addr} {ba oa n ca bb ob m cb : Nat} {X Y : Nat → Nat} (h : RIn w a b ba oa n ca bb ob m cb X Y) (s : w.Since w.heap.size w') : RIn w' a b ba oa n ca bb ob m cb X Y :=
  ⟨h.nc, h.mc, h.ac, h.bc, h.LX.keep s, h.LY.keep s, h.lX, h.lY, h.pX, h.pY, h.m0⟩

theorem RIn.den {w : World} {a b : Option Addr} {ba oa n ca bb ob m cb : Nat} {X Y : Nat → Nat} (h : RIn w a b ba oa n ca bb ob m cb X Y) : 0 < lv Y m := by
  rcases Nat.eq_zero_or_pos (lv Y m) with e | e
  · have := (lv_zero h.pY).2 e; have := h.m0; omega
  · exact e

set_option maxHeartbeats 1600000 in
set_option maxRecDepth 100000 in
theorem productOf_any (f f' : Bool) (a b a' b' : Option Addr) (ba oa n ca bb ob m cb ba' oa' n' ca' bb' ob' m' cb' : Nat) (X Y X' Y' : Nat → Nat) (w : World) (hw : 0 < w.heap.size) (hT : Tab w) (hn : n + n' ≤ 1048576) (hm : m + m' ≤ 1048576)
    (R : RIn w a b ba oa n ca bb ob m cb X Y) (R' : RIn w a' b' ba' oa' n' ca' bb' ob' m' cb' X' Y') :
    Calls Tryd.prog 35 #[.agg #[.bool f, .slice a n ca, .slice b m cb], .agg #[.bool f', .slice a' n' ca', .slice b' m' cb']] w fun e w' => ∃ v, e = .returned v ∧
      RatV w' v ((f != f') && lv X n * lv X' n' != 0) (lv X n * lv X' n' / Nat.gcd (lv X n * lv X' n') (lv Y m * lv Y' m')) (lv Y m * lv Y' m' / Nat.gcd (lv X n * lv X' n') (lv Y m * lv Y' m')) w.heap.size 1048578 ∧ w.Since w.heap.size w' := by
  have sA : w.Since w.heap.size (((w.alloc (.cells #[.bool f, .slice a n ca, .slice b m cb] 25)).alloc (.cells #[.bool f', .slice a' n' ca', .slice b' m' cb'] 25)).alloc (.cells #[.bool false, .slice none 0 0, .slice none 0 0] 25)) := (((World.Since.refl _ _).alloc (Nat.le_refl _) _).alloc (by simp) _).alloc (by simp; omega) _
  have zA : (((w.alloc (.cells #[.bool f, .slice a n ca, .slice b m cb] 25)).alloc (.cells #[.bool f', .slice a' n' ca', .slice b' m' cb'] 25)).alloc (.cells #[.bool false, .slice none 0 0, .slice none 0 0] 25)).heap.size = w.heap.size + 1 + 1 + 1 := by simp
  have pA : Box3 (((w.alloc (.cells #[.bool f, .slice a n ca, .slice b m cb] 25)).alloc (.cells #[.bool f', .slice a' n' ca', .slice b' m' cb'] 25)).alloc (.cells #[.bool false, .slice none 0 0, .slice none 0 0] 25)) (w.heap.size + 1) (.bool f') (.slice a' n' ca') (.slice b' m' cb') := by
    have := (Box3.new (w.alloc (.cells #[.bool f, .slice a n ca, .slice b m cb] 25)) (.bool f') (.slice a' n' ca') (.slice b' m' cb') 25).keep ((World.Since.refl _ _).alloc (Nat.le_refl _) (.cells #[.bool false, .slice none 0 0, .slice none 0 0] 25))
    simpa using this
  have rA : Box3 (((w.alloc (.cells #[.bool f, .slice a n ca, .slice b m cb] 25)).alloc (.cells #[.bool f', .slice a' n' ca', .slice b' m' cb'] 25)).alloc (.cells #[.bool false, .slice none 0 0, .slice none 0 0] 25)) (w.heap.size + 1 + 1) (.bool false) (.slice none 0 0) (.slice none 0 0) := by
    have := Box3.new ((w.alloc (.cells #[.bool f, .slice a n ca, .slice b m cb] 25)).alloc (.cells #[.bool f', .slice a' n' ca', .slice b' m' cb'] 25)) (.bool false) (.slice none 0 0) (.slice none 0 0) 25
    simpa using this
  have m1 := R.m0
  have m1' := R'.m0
  go_enter Tryd.func35, Tryd.ntmps35
  go_wp2_with fail
  generalize (((w.alloc (.cells #[.bool f, .slice a n ca, .slice b m cb] 25)).alloc (.cells #[.bool f', .slice a' n' ca', .slice b' m' cb'] 25)).alloc (.cells #[.bool false, .slice none 0 0, .slice none 0 0] 25)) = w1 at *
  refine (fractionOf_any f a b ba oa n ca bb ob m cb X Y w1 (by omega) (by omega) R.nc R.mc (R.keep sA).LX (R.keep sA).LY R.pX R.pY).mono ?_
  rintro e w2 ⟨rfl, s2⟩
  have S2 : w.Since w.heap.size w2 := sA.trans (sinceMono s2 sA.size)
  have z2 := s2.size
  have p2 := pA.keep s2
  have r2 := rA.keep s2
  clear pA rA s2
  have t3 : w2.Since w2.heap.size (w2.alloc (.cells #[.bool f, .slice a n ca, .slice b m cb] 74)) := (World.Since.refl _ _).alloc (Nat.le_refl _) _
  have c3 := Box3.new w2 (.bool f) (.slice a n ca) (.slice b m cb) 74
  have p3 := p2.keep t3
  have r3 := r2.keep t3
  have S3 : w.Since w.heap.size (w2.alloc (.cells #[.bool f, .slice a n ca, .slice b m cb] 74)) := S2.trans (sinceMono t3 S2.size)
  have k0 := p3.c0
  have k1 := p3.c1
  have k2 := p3.c2
  go_wp2_with fail
  generalize w2.alloc (.cells #[.bool f, .slice a n ca, .slice b m cb] 74) = w3 at *
  refine (fractionOf_any f' a' b' ba' oa' n' ca' bb' ob' m' cb' X' Y' w3 (by omega) (by omega) R'.nc R'.mc (R'.keep S3).LX (R'.keep S3).LY R'.pX R'.pY).mono ?_
  rintro e w4 ⟨rfl, s4⟩
  have S4 : w.Since w.heap.size w4 := S3.trans (sinceMono s4 S3.size)
  have c4 := c3.keep s4
  have r4 := r3.keep s4
  have R4 := R.keep S4
  have R4' := R'.keep S4
  have zc : w.heap.size ≤ w2.heap.size := by omega
  have lX : 0 < n → ba < w.heap.size := R.LX.lt
  have lY : 0 < m → bb < w.heap.size := R.LY.lt
  have lX' : 0 < n' → ba' < w.heap.size := R'.LX.lt
  have lY' : 0 < m' → bb' < w.heap.size := R'.LY.lt
  have hDD : 0 < lv Y m * lv Y' m' := Nat.mul_pos R.den R'.den
  clear k0 k1 k2 p3 p2 r2 c3 r3 s4
  go_wp2_with fail
  refine (fracMul_any w2.heap.size f f' a b a' b' ba oa n ca bb ob m cb ba' oa' n' ca' bb' ob' m' cb' X Y X' Y' w4 (by omega) (by omega) (by omega) (by omega) R4.LX R4.LY R4'.LX R4'.LY R.lX R.lY R'.lX R'.lY
    (fun h => by have := lX h; omega) (fun h => by have := lY h; omega) (fun h => by have := lX' h; omega) (fun h => by have := lY' h; omega) c4).mono ?_
  rintro e w5 ⟨rfl, v1, v2, g, h, c5, N5, D5, b5, b6, b7, O5⟩
  have hcl := c4.lt
  have r5 := r4.oth O5 (by omega)
  have S5 : w.Since w.heap.size w5 := S4.trans (sinceMono (O5.since (by omega)) zc)
  have T5 := hT.stay hw S5
  clear R4 R4' R R' lX lY lX' lY'
  go_wp2_with fail
  refine (normalise_any w2.heap.size (f != f') v1 v2 g h (lv X n * lv X' n') (lv Y m * lv Y' m') (w.heap.size + 1 + 1 + 1) w5 (Nat.lt_of_lt_of_le hw S5.size) T5 c5 (N5.more hn) (D5.more hm) (by omega) (by omega) b7 (by omega) (by omega) (by omega) (by omega) (by omega) (by omega) hDD).mono ?_
  rintro e w6 ⟨v, rfl, ⟨x1, x2, g6, h6, rfl, N6, D6, y1, y2, y3⟩, s6⟩
  have rB := r5.since s6 (by omega)
  have N6' := N6
  have D6' := D6
  obtain ⟨a1, q1, c1, Y1, rfl, -⟩ := N6
  obtain ⟨a2, q2, c2, Y2, rfl, -⟩ := D6
  have S6 : w.Since w.heap.size w6 := S5.trans (sinceMono s6 (by omega))
  have u0 := rB.c0
  have u1 := rB.c1
  have u2 := rB.c2
  have uf0 := rB.f 0
  have uf1 := rB.f 1
  have uf2 := rB.f 2
  obtain ⟨neg, hneg⟩ : ∃ neg, (f != f' && lv X n * lv X' n' != 0) = neg := ⟨_, rfl⟩
  rw [hneg]
  have hneg := hide hneg
  go_wp2
  have rC := ((rB.set0 (.bool neg)).set1 (.slice a1 q1 c1)).set2 (.slice a2 q2 c2)
  refine bodyPost_ret (results_box3 rfl _ _ _ _ _ _ rfl rC) rfl ?_
  have M : Marked w6 _ (w.heap.size + 1 + 1) := (((Marked.refl w6 _).setCell 0 (.bool neg)).setCell 1 (.slice a1 q1 c1)).setCell 2 (.slice a2 q2 c2)
  exact ⟨_, rfl, ⟨_, _, g6, h6, by rw [hneg.out], N6'.marked M (by omega), D6'.marked M (by omega), by omega, by omega, y3⟩, S6.trans (M.since (by omega))⟩

/-- The product's parts. -/
def mulN (X : Nat → Nat) (n : Nat) (X' : Nat → Nat) (n' : Nat) : Nat := lv X n * lv X' n'

set_option maxHeartbeats 1600000 in
set_option maxRecDepth 100000 in
/-- impl.RatMul where both are valid. -/
theorem implRatMul_ok (f f' : Bool) (a b a' b' : Option Addr) (ba oa n ca bb ob m cb ba' oa' n' ca' bb' ob' m' cb' : Nat) (X Y X' Y' : Nat → Nat) (w : World) (hw : 0 < w.heap.size) (hT : Tab w) (hn : n + n' ≤ 1048576) (hm : m + m' ≤ 1048576)
    (R : RIn w a b ba oa n ca bb ob m cb X Y) (R' : RIn w a' b' ba' oa' n' ca' bb' ob' m' cb' X' Y') (ok : ratOkB f X n Y m = true) (ok' : ratOkB f' X' n' Y' m' = true) :
    Calls Tryd.prog 9 #[.agg #[.bool f, .slice a n ca, .slice b m cb], .agg #[.bool f', .slice a' n' ca', .slice b' m' cb']] w fun e w' => ∃ v, e = .returned v ∧
      RatV w' v ((f != f') && lv X n * lv X' n' != 0) (lv X n * lv X' n' / Nat.gcd (lv X n * lv X' n') (lv Y m * lv Y' m')) (lv Y m * lv Y' m' / Nat.gcd (lv X n * lv X' n') (lv Y m * lv Y' m')) w.heap.size 1048578 ∧ w.Since w.heap.size w' := by
  have sA : w.Since w.heap.size (((w.alloc (.cells #[.bool f, .slice a n ca, .slice b m cb] 25)).alloc (.cells #[.bool f', .slice a' n' ca', .slice b' m' cb'] 25)).alloc (.cells #[.bool false, .slice none 0 0, .slice none 0 0] 25)) := (((World.Since.refl _ _).alloc (Nat.le_refl _) _).alloc (by simp) _).alloc (by simp; omega) _
  have zA : (((w.alloc (.cells #[.bool f, .slice a n ca, .slice b m cb] 25)).alloc (.cells #[.bool f', .slice a' n' ca', .slice b' m' cb'] 25)).alloc (.cells #[.bool false, .slice none 0 0, .slice none 0 0] 25)).heap.size = w.heap.size + 1 + 1 + 1 := by simp
  have oA : Box3 (((w.alloc (.cells #[.bool f, .slice a n ca, .slice b m cb] 25)).alloc (.cells #[.bool f', .slice a' n' ca', .slice b' m' cb'] 25)).alloc (.cells #[.bool false, .slice none 0 0, .slice none 0 0] 25)) w.heap.size (.bool f) (.slice a n ca) (.slice b m cb) := ((Box3.new w _ _ _ _).keep ((World.Since.refl _ _).alloc (Nat.le_refl _) _)).keep ((World.Since.refl _ _).alloc (Nat.le_refl _) _)
  have pA : Box3 (((w.alloc (.cells #[.bool f, .slice a n ca, .slice b m cb] 25)).alloc (.cells #[.bool f', .slice a' n' ca', .slice b' m' cb'] 25)).alloc (.cells #[.bool false, .slice none 0 0, .slice none 0 0] 25)) (w.heap.size + 1) (.bool f') (.slice a' n' ca') (.slice b' m' cb') := by
    have := (Box3.new (w.alloc (.cells #[.bool f, .slice a n ca, .slice b m cb] 25)) (.bool f') (.slice a' n' ca') (.slice b' m' cb') 25).keep ((World.Since.refl _ _).alloc (Nat.le_refl _) (.cells #[.bool false, .slice none 0 0, .slice none 0 0] 25))
    simpa using this
  have rA : Box3 (((w.alloc (.cells #[.bool f, .slice a n ca, .slice b m cb] 25)).alloc (.cells #[.bool f', .slice a' n' ca', .slice b' m' cb'] 25)).alloc (.cells #[.bool false, .slice none 0 0, .slice none 0 0] 25)) (w.heap.size + 1 + 1) (.bool false) (.slice none 0 0) (.slice none 0 0) := by
    have := Box3.new ((w.alloc (.cells #[.bool f, .slice a n ca, .slice b m cb] 25)).alloc (.cells #[.bool f', .slice a' n' ca', .slice b' m' cb'] 25)) (.bool false) (.slice none 0 0) (.slice none 0 0) 25
    simpa using this
  have m1 := R.m0
  have m1' := R'.m0
  have TA := hT.stay hw sA
  go_enter Tryd.func9, Tryd.ntmps9
  go_wp2_with fail
  generalize (((w.alloc (.cells #[.bool f, .slice a n ca, .slice b m cb] 25)).alloc (.cells #[.bool f', .slice a' n' ca', .slice b' m' cb'] 25)).alloc (.cells #[.bool false, .slice none 0 0, .slice none 0 0] 25)) = w1 at *
  have RA := R.keep sA
  have RA' := R'.keep sA
  have wA := Nat.lt_of_lt_of_le hw sA.size
  have I1 := implRatOk_any f a b ba oa n ca bb ob m cb X Y w1 wA (by omega) (by omega) R.nc R.mc R.ac R.bc RA.LX RA.LY R.lX R.lY TA
  rw [ok] at I1
  refine I1.mono ?_
  rintro e w2 ⟨rfl, s2⟩
  have o2 := oA.keep s2
  have p2 := pA.keep s2
  have r2 := rA.keep s2
  have S2 : w.Since w.heap.size w2 := sA.trans (sinceMono s2 sA.size)
  have z2 := s2.size
  have RB' := RA'.keep s2
  have I2 := implRatOk_any f' a' b' ba' oa' n' ca' bb' ob' m' cb' X' Y' w2 (Nat.lt_of_lt_of_le hw S2.size) (by omega) (by omega) R'.nc R'.mc R'.ac R'.bc RB'.LX RB'.LY R'.lX R'.lY (hT.stay hw S2)
  rw [ok'] at I2
  clear I1 oA pA rA
  have k0 := p2.c0
  have k1 := p2.c1
  have k2 := p2.c2
  go_wp2_with fail
  refine I2.mono ?_
  rintro e w3 ⟨rfl, s3⟩
  have S3 : w.Since w.heap.size w3 := S2.trans (sinceMono s3 S2.size)
  have z3 := s3.size
  have o3 := o2.keep s3
  have p3 := p2.keep s3
  have r3 := r2.keep s3
  clear I2 k0 k1 k2 o2 p2 r2
  have k0 := p3.c0
  have k1 := p3.c1
  have k2 := p3.c2
  have j0 := o3.c0
  have j1 := o3.c1
  have j2 := o3.c2
  have JP := productOf_any f f' a b a' b' ba oa n ca bb ob m cb ba' oa' n' ca' bb' ob' m' cb' X Y X' Y' w3 (Nat.lt_of_lt_of_le hw S3.size) (hT.stay hw S3) hn hm (R.keep S3) (R'.keep S3)
  go_wp2_with fail
  refine JP.mono ?_
  rintro e w6 ⟨v, rfl, ⟨x1, x2, g6, h6, rfl, N6, D6, y1, y2, y3⟩, s6⟩
  have rB := r3.keep s6
  have N6' := N6
  have D6' := D6
  obtain ⟨a1, q1, c1, Y1, rfl, -⟩ := N6
  obtain ⟨a2, q2, c2, Y2, rfl, -⟩ := D6
  have S6 : w.Since w.heap.size w6 := S3.trans (sinceMono s6 S3.size)
  have u0 := rB.c0
  have u1 := rB.c1
  have u2 := rB.c2
  have uf0 := rB.f 0
  have uf1 := rB.f 1
  have uf2 := rB.f 2
  obtain ⟨neg, hneg⟩ : ∃ neg, (f != f' && lv X n * lv X' n' != 0) = neg := ⟨_, rfl⟩
  rw [hneg]
  have hneg := hide hneg
  clear JP
  go_wp2
  have rC := ((rB.set0 (.bool neg)).set1 (.slice a1 q1 c1)).set2 (.slice a2 q2 c2)
  refine bodyPost_ret (results_box3 rfl _ _ _ _ _ _ rfl rC) rfl ?_
  have M : Marked w6 _ (w.heap.size + 1 + 1) := (((Marked.refl w6 _).setCell 0 (.bool neg)).setCell 1 (.slice a1 q1 c1)).setCell 2 (.slice a2 q2 c2)
  exact ⟨_, rfl, ⟨_, _, g6, h6, by rw [hneg.out], N6'.marked M (by omega), D6'.marked M (by omega), by omega, by omega, y3⟩, S6.trans (M.since (by omega))⟩

end Go.Proofs.YtklkohdcilnchaaDoor
