import Derived.Test.YtabemlkdpgglaaaDoorOwnP1
import Derived.Deep.RegionHeld3
import Derived.Test.YtabemlkdpgglaaaDoorOwnP3
import Derived.Test.YtabemlkdpgglaaaDoorOwnP4
import Derived.Deep.RegionWith
import Derived.Maps.AppendAt
import Derived.OneCell
import Derived.Lib.ItoaNum
import Derived.Lib.AppendStr
import Derived.Lib.AppendIntMem
import Derived.Laws.IdiomStrings
import Derived.Lib.Walk
import Derived.Lib.ItoaWalk
import Derived.Lib.ItoaMem
import Derived.Lib.OwnKind
import Derived.BigCall
import Derived.BigGuard
namespace Go.Proofs.YtabemlkdpgglaaaDoor
open Go.RowKit

/-- A struct of three cells in a block of its own. -/
structure Box3 (w : World) (c : Nat) (x y z : Value) : Prop where
  c0 : w.cell? ⟨c, 0, none⟩ = some x
  c1 : w.cell? ⟨c, 1, none⟩ = some y
  c2 : w.cell? ⟨c, 2, none⟩ = some z
  f : ∀ k, w.frozen? ⟨c, k, none⟩ = false

theorem Box3.lt {w : World} {c : Nat} {x y z : Value} (h : Box3 w c x y z) : c < w.heap.size := World.block_lt_of_cell? _ _ h.c0
theorem Box3.new (w : World) (x y z : Value) (t : TypeId) : Box3 (w.alloc (.cells #[x, y, z] t)) w.heap.size x y z := ⟨by simp [go_sem], by simp [go_sem], by simp [go_sem], fun k => by simp [go_sem]⟩
theorem Box3.since {w w' : World} {c B : Nat} {x y z : Value} (h : Box3 w c x y z) (s : w.Since B w') (hc : c < B) : Box3 w' c x y z :=
  ⟨(s.cell (a := ⟨c, 0, none⟩) hc).trans h.c0, (s.cell (a := ⟨c, 1, none⟩) hc).trans h.c1, (s.cell (a := ⟨c, 2, none⟩) hc).trans h.c2, fun k => (s.frozen (a := ⟨c, k, none⟩) hc).trans (h.f k)⟩
theorem Box3.keep {w w' : World} {c : Nat} {x y z : Value} (h : Box3 w c x y z) (s : w.Since w.heap.size w') : Box3 w' c x y z := h.since s h.lt
theorem Box3.marked {w w' : World} {c d : Nat} {x y z : Value} (h : Box3 w c x y z) (s : Marked w w' d) (hc : c ≠ d) : Box3 w' c x y z :=
  ⟨(s.cell (a := ⟨c, 0, none⟩) hc).trans h.c0, (s.cell (a := ⟨c, 1, none⟩) hc).trans h.c1, (s.cell (a := ⟨c, 2, none⟩) hc).trans h.c2, fun k => (s.frozenO (a := ⟨c, k, none⟩) hc).trans (h.f k)⟩
theorem Box3.set0 {w : World} {c : Nat} {x y z : Value} (h : Box3 w c x y z) (v : Value) : Box3 (w.setCell ⟨c, 0, none⟩ v) c v y z :=
  ⟨World.cell?_setCell_same _ _ _ h.c0, (World.cell?_setCell_other _ _ _ _ (by simp)).trans h.c1, (World.cell?_setCell_other _ _ _ _ (by simp)).trans h.c2, fun k => by rw [((Marked.refl w c).setCell 0 v).frozen]; exact h.f k⟩
theorem Box3.set1 {w : World} {c : Nat} {x y z : Value} (h : Box3 w c x y z) (v : Value) : Box3 (w.setCell ⟨c, 1, none⟩ v) c x v z :=
  ⟨(World.cell?_setCell_other _ _ _ _ (by simp)).trans h.c0, World.cell?_setCell_same _ _ _ h.c1, (World.cell?_setCell_other _ _ _ _ (by simp)).trans h.c2, fun k => by rw [((Marked.refl w c).setCell 1 v).frozen]; exact h.f k⟩
theorem Box3.set2 {w : World} {c : Nat} {x y z : Value} (h : Box3 w c x y z) (v : Value) : Box3 (w.setCell ⟨c, 2, none⟩ v) c x y v :=
  ⟨(World.cell?_setCell_other _ _ _ _ (by simp)).trans h.c0, (World.cell?_setCell_other _ _ _ _ (by simp)).trans h.c1, World.cell?_setCell_same _ _ _ h.c2, fun k => by rw [((Marked.refl w c).setCell 2 v).frozen]; exact h.f k⟩

theorem ratInfo : (Tryd.prog.info? 25).map (·.size) = some 3 := by kernel_rfl

/-- A struct answer that lies in a box. -/
theorem results_box3 {fn : Func} {p : Tmp} (h : fn.results = #[.cell p 25]) (tmps : Array Value) (w : World) (c : Nat) (x y z : Value) (hp : tmps.getD p undef = .pointer (some ⟨c, 0, none⟩)) (B : Box3 w c x y z) :
    (results fn tmps).run Tryd.prog w = .ok (.agg #[x, y, z]) w := by
  have hp' : tmps[p]?.getD undef = .pointer (some ⟨c, 0, none⟩) := by simpa using hp
  have hl := run_loadVar_mid (P := Tryd.prog) w c 0 25 [x, y, z] _ (fun j v hv => by
    rcases j with _ | _ | _ | j
    · simp at hv; subst hv; exact B.c0
    · simp at hv; subst hv; exact B.c1
    · simp at hv; subst hv; exact B.c2
    · simp at hv) Tryd.underlying25 rfl ratInfo
  simp [results, h, hp', asAddr, hl]

/-- A struct answer that lies in a box, of whatever struct type of three cells. -/
theorem results_box3T {fn : Func} {p : Tmp} {T : TypeId} {d : TypeDesc} (h : fn.results = #[.cell p T]) (hu : Tryd.prog.underlying T = some d) (hd : d.isRow = true) (hi : (Tryd.prog.info? T).map (·.size) = some 3) (tmps : Array Value) (w : World) (c : Nat) (x y z : Value)
    (hp : tmps.getD p undef = .pointer (some ⟨c, 0, none⟩)) (B : Box3 w c x y z) : (results fn tmps).run Tryd.prog w = .ok (.agg #[x, y, z]) w := by
  have hp' : tmps[p]?.getD undef = .pointer (some ⟨c, 0, none⟩) := by simpa using hp
  have hl := run_loadVar_mid (P := Tryd.prog) w c 0 T [x, y, z] d (fun j v hv => by
    rcases j with _ | _ | _ | j
    · simp at hv; subst hv; exact B.c0
    · simp at hv; subst hv; exact B.c1
    · simp at hv; subst hv; exact B.c2
    · simp at hv) hu hd hi
  simp [results, h, hp', asAddr, hl]

theorem fracInfo : (Tryd.prog.info? 72).map (·.size) = some 3 := by kernel_rfl

end Go.Proofs.YtabemlkdpgglaaaDoor

namespace Go.Proofs.YtabemlkdpgglaaaDoor
open Go.RowKit

theorem add_close {w wr : World} {O0 O A : Nat → Bool} {n L j i : Nat} {x y cb : Bool} (s c' : Bool) (hs : w.Since w.heap.size wr) (hr : wr.rowIs w.heap.size 4 L (fun k => .bool (O k))) (HR : AddRel O0 O A n j i cb)
    (hx : O (j + i) = x) (hy : ext A n i = y) (es : s = ((x != y) != cb)) (ec : c' = ((x && y) || (x && cb) || (y && cb))) :
    ∃ O', w.Since w.heap.size (wr.setCell ⟨w.heap.size, j + i, none⟩ (.bool s)) ∧ (wr.setCell ⟨w.heap.size, j + i, none⟩ (.bool s)).rowIs w.heap.size 4 L (fun k => .bool (O' k)) ∧ AddRel O0 O' A n j (i + 1) c' := by
  subst es ec
  refine ⟨_, hs.setCell (Nat.le_refl _) _, (hr.set (j + i) _).congr (fun k _ => ?_), addRel_step HR hx hy⟩
  by_cases e : k = j + i
  · simp [e]
  · simp [e]

set_option maxHeartbeats 3200000 in
set_option maxRecDepth 100000 in
theorem l1MulBits_any (a a' : Option Addr) (b off n cap b' off' m cap' : Nat) (A B : Nat → Bool) (w : World) (hn : n ≤ 134217728) (hm : m ≤ 134217728) (hA : Bits w a b off n A) (hB : Bits w a' b' off' m B) :
    Calls Tryd.prog 82 #[.slice a n cap, .slice a' m cap'] w fun e w' => ∃ g t cap'' O, e = .returned (.slice (some ⟨g, 0, none⟩) t cap'') ∧ t ≤ cap'' ∧ t ≤ n + m ∧ Bits w' (some ⟨g, 0, none⟩) g 0 t O ∧ w.heap.size ≤ g ∧
      (0 < t → O (t - 1) = true) ∧ bv O t = bv A n * bv B m ∧ w.Since w.heap.size w' := by
  have hmk := run_make_row' (P := Tryd.prog) 51 4 (.bool false) 1 Tryd.underlying51 Tryd.info4 rfl .i64 .i64 (n + m) (by omega) (by omega)
  rw [Int.natCast_add] at hmk
  go_enter Tryd.func82, Tryd.ntmps82
  go_wp2
  clear hmk
  go_loopw [6] (fun q wr => ∃ j : Nat, j ≤ m ∧ q = .int .i64 j ∧ w.Since w.heap.size wr ∧ ∃ O, wr.rowIs w.heap.size 4 (n + m) (fun k => .bool (O k)) ∧ bv O (n + m) = bv A n * bv B j) (fun q _ => m - (intOf q).toNat)
  case atStart =>
    exact ⟨0, Nat.zero_le _, rfl, (World.Since.refl _ _).alloc (Nat.le_refl _) _, fun _ => false, World.rowIs_made w _ _ _, by rw [bv_more (fun _ => false) 0 (n + m) (by omega) (fun _ _ _ => rfl)]; simp [bv]⟩
  case round =>
    obtain ⟨j, hj, rfl, hs, O0, hr0, h0⟩ := hrel
    have H0 : Hid (bv O0 (n + m) = bv A n * bv B j) := h0
    clear h0
    by_cases hlt : j < m
    · obtain ⟨rfl, hc⟩ := hB j hlt
      have g0 : wr.cell? ⟨b', off' + j, none⟩ = some (.bool (B j)) := by rw [hs.cell (a := ⟨b', off' + j, none⟩) (hB.lt (by omega))]; exact hc
      clear hc
      cases hbj : B j
      · rw [hbj] at g0
        have HB : Hid (B j = false) := hbj
        clear hbj
        go_wp2
        go_roundw
        case rel => exact ⟨j + 1, by omega, by go_num, hs, O0, hr0, mul_skip H0.out HB.out⟩
        case measure => simp [intOf]; omega
      · rw [hbj] at g0
        have HB : Hid (B j = true) := hbj
        clear hbj
        go_wp2
        clear g0
        go_loopw [7, 8] (fun c t wr' => ∃ (i : Nat) (cb : Bool) (O : Nat → Bool), j + i ≤ n + m ∧ t = .int .i64 i ∧ c = .bool cb ∧ w.Since w.heap.size wr' ∧ wr'.rowIs w.heap.size 4 (n + m) (fun k => .bool (O k)) ∧ AddRel O0 O A n j i cb) (fun _ t _ => n + m - (intOf t).toNat)
        case atStart => exact ⟨0, false, O0, by omega, rfl, rfl, hs, hr0, addRel_start O0 A n j⟩
        case round =>
          clear hr0 hs
          obtain ⟨i, cb, O, hi, rfl, rfl, hs, hr, hR⟩ := hrel
          have HR : Hid (AddRel O0 O A n j i cb) := hR
          clear hR
          by_cases hlt2 : j + i < n + m
          · have g1 := hr.cell hlt2
            have g2 := hr.frozen (j + i)
            obtain ⟨x, hx⟩ : ∃ x, x = O (j + i) := ⟨_, rfl⟩
            rw [← hx] at g1
            have HX : Hid (O (j + i) = x) := hx.symm
            clear hx
            by_cases hin : i < n
            · obtain ⟨rfl, hc⟩ := hA i hin
              have g3 : wr.cell? ⟨b, off + i, none⟩ = some (.bool (A i)) := by rw [hs.cell (a := ⟨b, off + i, none⟩) (hA.lt (by omega))]; exact hc
              obtain ⟨y, hy⟩ : ∃ y, y = A i := ⟨_, rfl⟩
              rw [← hy] at g3
              have HY : Hid (ext A n i = y) := by simp [Hid, ext, hin, hy]
              clear hy hc
              cases x <;> cases y <;> cases cb
              all_goals
                go_wp2
                go_roundw
                case rel =>
                  go_light
                  obtain ⟨O', k1, k2, k3⟩ := add_close _ _ hs hr HR.out HX.out HY.out rfl rfl
                  exact ⟨i + 1, _, O', by omega, by go_num, rfl, k1, k2, k3⟩
                case measure => go_light; simp [intOf]; omega
            · have HY : Hid (ext A n i = false) := by simp [Hid, ext, hin]
              cases x <;> cases cb
              all_goals
                go_wp2
                go_roundw
                case rel =>
                  go_light
                  obtain ⟨O', k1, k2, k3⟩ := add_close _ _ hs hr HR.out HX.out HY.out rfl rfl
                  exact ⟨i + 1, _, O', by omega, by go_num, rfl, k1, k2, k3⟩
                case measure => go_light; simp [intOf]; omega
          · have e : j + i = n + m := by omega
            go_wp2
            go_roundw
            case rel => exact ⟨j + 1, by omega, by go_num, hs, O, hr, addRel_end HR.out e hlt H0.out HB.out⟩
            case measure => simp [intOf]; omega
    · have e : j = m := by omega
      subst e
      go_wp2_with fail
      refine (l1Trim_any _ w.heap.size 0 (n + j) _ O0 _ (by omega) (Nat.le_refl _) (bits_row hr0)).mono ?_
      rintro e w1 ⟨rfl, rfl⟩
      go_wp2
      go_ret
      have htl := tlen_le O0 (n + j)
      exact ⟨w.heap.size, _, _, O0, rfl, htl, htl, (bits_row hr0).take htl, Nat.le_refl _, fun h => tlen_top _ _ h, (bv_tlen _ _).trans H0.out, hs⟩

end Go.Proofs.YtabemlkdpgglaaaDoor

namespace Go.Proofs.YtabemlkdpgglaaaDoor
open Go.RowKit

/-- What a function that hands back a new natural leaves: a plain list of limbs of the value N, on memory that is new since w. -/
def NatOut (w w' : World) (v : Value) (N M : Nat) : Prop :=
  ∃ a g m cap Y, v = .slice a m cap ∧ m ≤ cap ∧ m ≤ M ∧ Limbs w' a g 0 m Y ∧ w.heap.size ≤ g ∧ (0 < m → ∀ o, w'.frozen? ⟨g, o, none⟩ = false) ∧
      (∀ j, j < m → Y j < 4294967296) ∧ (0 < m → Y (m - 1) ≠ 0) ∧ lv Y m = N

theorem natOut_mk {w w' : World} {a : Option Addr} {g m cap N M : Nat} {Y : Nat → Nat} (hs : w.heap.size ≤ w'.heap.size) (h1 : m ≤ cap) (h2 : m ≤ M) (h3 : Limbs w' a g 0 m Y) (h4 : 0 < m → w.heap.size ≤ g)
    (h5 : 0 < m → ∀ o, w'.frozen? ⟨g, o, none⟩ = false) (h6 : ∀ j, j < m → Y j < 4294967296) (h7 : 0 < m → Y (m - 1) ≠ 0) (h8 : lv Y m = N) : NatOut w w' (.slice a m cap) N M := by
  by_cases h0 : 0 < m
  · exact ⟨a, g, m, cap, Y, rfl, h1, h2, h3, h4 h0, h5, h6, h7, h8⟩
  · exact ⟨a, w'.heap.size, m, cap, Y, rfl, h1, h2, fun j hj => absurd hj (by omega), hs, fun h => absurd h h0, h6, h7, h8⟩

end Go.Proofs.YtabemlkdpgglaaaDoor

namespace Go.Proofs.YtabemlkdpgglaaaDoor
open Go.RowKit

theorem carry_cast (x y p c : Nat) : ((x : Int) * y + p + c) / 4294967296 = (((x * y + p + c) / 4294967296 : Nat) : Int) := by
  have h : (((x * y + p + c : Nat) : Int)) = (x : Int) * y + p + c := by simp
  rw [← h]; omega

set_option maxHeartbeats 3200000 in
set_option maxRecDepth 100000 in
theorem multiply_any (c o : Nat) (a a' : Option Addr) (b off n cap b' off' m cap' : Nat) (X Y : Nat → Nat) (w : World) (hn : n ≤ 4194304) (hm : m ≤ 4194304) (hX : Limbs w a b off n X) (hY : Limbs w a' b' off' m Y)
    (hXl : ∀ j, j < n → X j < 4294967296) (hYl : ∀ j, j < m → Y j < 4294967296) (hc0 : w.cell? ⟨c, o, none⟩ = some (.slice a n cap)) (hf0 : w.frozen? ⟨c, o, none⟩ = false) :
    Calls Tryd.prog 88 #[.pointer (some ⟨c, o, none⟩), .slice a' m cap'] w fun e w' => e = .returned (.tuple #[]) ∧ ∃ w2 P, w.Since w.heap.size w2 ∧ w2.rowIs w.heap.size 58 (n + m) (fun j => .int .u32 (P j : Nat)) ∧
      (∀ k, P k < 4294967296) ∧ lv P (n + m) = lv X n * lv Y m ∧ w' = w2.setCell ⟨c, o, none⟩ (.slice (some ⟨w.heap.size, 0, none⟩) (tlen (nz P) (n + m)) (n + m)) := by
  have hmk := run_make_row' (P := Tryd.prog) 55 58 (.int .u32 0) 4 Tryd.underlying55 Tryd.info58 rfl .i64 .i64 (n + m) (by omega) (by omega)
  rw [Int.natCast_add] at hmk
  have hcl : c < w.heap.size := World.block_lt_of_cell? _ _ hc0
  go_enter Tryd.func88, Tryd.ntmps88
  go_wp2
  clear hmk
  go_loopw [23] (fun q wr => ∃ (i : Nat) (P : Nat → Nat), i ≤ n ∧ q = .int .i64 i ∧ w.Since w.heap.size wr ∧ wr.rowIs w.heap.size 58 (n + m) (fun k => .int .u32 (P k)) ∧ wr.rowIs (w.heap.size + 1) 55 1 (fun _ => .slice (some ⟨w.heap.size, 0, none⟩) (n + m) (n + m)) ∧
     (∀ k, P k < 4294967296) ∧ lv P (i + m) = lv X i * lv Y m) (fun q _ => n - (intOf q).toNat)
  case atStart =>
    refine ⟨0, fun _ => 0, Nat.zero_le _, rfl, ((World.Since.refl _ _).alloc (Nat.le_refl _) _).alloc (by simp) _, ((World.rowIs_made w _ _ _).alloc _), ?_, fun _ => Nat.zero_lt_succ _, ?_⟩
    · have := World.rowIs_alloc (w.alloc (Obj.cells (madeCells #[Value.int IntKind.u32 0] (n + m)) 58)) #[Value.slice (some ⟨w.heap.size, 0, none⟩) (n + m) (n + m)] 55 (fun _ => .slice (some ⟨w.heap.size, 0, none⟩) (n + m) (n + m)) (fun i hi => by simp at hi; subst hi; rfl)
      simpa using this
    · rw [lv_more (fun _ => 0) 0 (0 + m) (by omega) (fun _ _ _ => rfl)]; simp [lv]
  case round =>
    obtain ⟨i, P0, hin, rfl, hs, hr0, hbox, hPl, h0⟩ := hrel
    have H0 : Hid (lv P0 (i + m) = lv X i * lv Y m) := h0
    have HPl : Hid (∀ k, P0 k < 4294967296) := hPl
    clear h0 hPl
    by_cases hlt : i < n
    · obtain ⟨rfl, hc⟩ := hX i hlt
      have g0 : wr.cell? ⟨b, off + i, none⟩ = some (.int .u32 (X i)) := by rw [hs.cell (a := ⟨b, off + i, none⟩) (hX.lt (by omega))]; exact hc
      clear hc
      have hxi := hXl i hlt
      obtain ⟨x, hx⟩ : ∃ x, x = X i := ⟨_, rfl⟩
      rw [← hx] at g0 hxi
      have HX : Hid (x = X i) := hx
      clear hx
      go_wp2
      clear g0
      go_loopw [7, 30] (fun c t wr' => ∃ (j cr : Nat) (P : Nat → Nat), j ≤ m ∧ t = .int .i64 j ∧ c = .int .u64 cr ∧ w.Since w.heap.size wr' ∧ wr'.rowIs w.heap.size 58 (n + m) (fun k => .int .u32 (P k)) ∧
        wr'.rowIs (w.heap.size + 1) 55 1 (fun _ => .slice (some ⟨w.heap.size, 0, none⟩) (n + m) (n + m)) ∧ MulRel P0 P x Y i j cr) (fun _ t _ => m - (intOf t).toNat)
      case atStart => exact ⟨0, 0, P0, by omega, rfl, rfl, hs, hr0, hbox, mulRel_start HPl.out x Y i⟩
      case round =>
        clear hr0 hs hbox
        obtain ⟨j, cr, P, hj, rfl, rfl, hs, hr, hbox, hR⟩ := hrel
        have HR : Hid (MulRel P0 P x Y i j cr) := hR
        clear hR
        have b0 := hbox.cell (i := 0) (by omega)
        by_cases hlt2 : j < m
        · obtain ⟨rfl, hc⟩ := hY j hlt2
          have g0 : wr.cell? ⟨b', off' + j, none⟩ = some (.int .u32 (Y j)) := by rw [hs.cell (a := ⟨b', off' + j, none⟩) (hY.lt (by omega))]; exact hc
          clear hc
          have hyj := hYl j hlt2
          have g1 := hr.cell (i := i + j) (by omega)
          have g2 := hr.frozen (i + j)
          have hsum := mulRel_sum HR.out hxi hyj
          have HST := hide (mulRel_step HR.out hxi hyj rfl)
          obtain ⟨y, hy⟩ : ∃ y, y = Y j := ⟨_, rfl⟩
          obtain ⟨p, hp⟩ : ∃ p, p = P (i + j) := ⟨_, rfl⟩
          have hcr : cr < 4294967296 := HR.out.2.2.1
          have hpl : p < 4294967296 := by rw [hp]; exact HR.out.2.1 _
          rw [← hy] at g0 hyj hsum HST
          rw [← hp] at g1 hsum HST
          clear hy hp
          have hm0 : (0 : Int) ≤ (x : Int) * (y : Int) := by rw [← Int.natCast_mul]; omega
          have hm1 : (x : Int) * (y : Int) + (p : Int) + (cr : Int) ≤ 18446744073709551615 := by rw [← Int.natCast_mul]; omega
          clear hsum
          go_wp2
          go_roundw
          case rel =>
            go_light
            refine ⟨j + 1, (x * y + p + cr) / 4294967296, _, by omega, by go_num, congrArg (Value.int .u64) (carry_cast x y p cr), hs.setCell (Nat.le_refl _) _, (hr.set (i + j) _).congr (fun k _ => ?_), hbox.setOther (by simp) _, HST.out⟩
            by_cases e : k = i + j
            · simp [e]
            · simp [e]
          case measure => simp [intOf]; omega
        · have e : j = m := by omega
          subst e
          have g1 := hr.cell (i := i + j) (by omega)
          have g2 := hr.frozen (i + j)
          have hcr : cr < 4294967296 := HR.out.2.2.1
          go_wp2
          go_roundw
          case rel =>
            go_light
            rw [HX.out] at HR
            refine ⟨i + 1, _, by omega, by go_num, hs.setCell (Nat.le_refl _) _, (hr.set (i + j) _).congr (fun k _ => ?_), hbox.setOther (by simp) _, fun k => ?_, mulRel_end HR.out H0.out⟩
            · by_cases e : k = i + j
              · simp [e]
              · simp [e]
            · show (if k = i + j then cr else P k) < _
              split
              · exact hcr
              · exact HR.out.2.1 k
          case measure => simp [intOf]; omega
    · have e : i = n := by omega
      subst e
      have b0 := hbox.cell (i := 0) (by omega)
      have b1 := hbox.frozen 0
      go_wp2_with fail
      refine (trim_any (w.heap.size + 1) _ w.heap.size 0 (i + m) (i + m) P0 _ (by omega) (Nat.le_refl _) b0 b1 (limbs_row hr0)).mono ?_
      rintro e w1 ⟨rfl, rfl⟩
      have q0 : wr.frozen? ⟨c, o, none⟩ = false := by rw [hs.frozen (a := ⟨c, o, none⟩) hcl]; exact hf0
      have q1 : wr.cell? ⟨c, o, none⟩ = some (.slice a i cap) := by rw [hs.cell (a := ⟨c, o, none⟩) hcl]; exact hc0
      have q2 : c ≠ w.heap.size + 1 := by omega
      go_wp2
      go_end0
      exact ⟨rfl, _, P0, hs.setCell (Nat.le_succ _) _, hr0.setOther (by simp) _, HPl.out, H0.out, rfl⟩


end Go.Proofs.YtabemlkdpgglaaaDoor

namespace Go.Proofs.YtabemlkdpgglaaaDoor
open Go.RowKit

/-- A natural in an answer: a slice in a block of its own, plain. -/
def NatV (w : World) (v : Value) (g N M : Nat) : Prop :=
  ∃ a m cap Y, v = .slice a m cap ∧ m ≤ cap ∧ m ≤ M ∧ (a = none → cap = 0) ∧ Limbs w a g 0 m Y ∧ (0 < m → ∀ o, w.frozen? ⟨g, o, none⟩ = false) ∧ (∀ j, j < m → Y j < 4294967296) ∧ (0 < m → Y (m - 1) ≠ 0) ∧ lv Y m = N

theorem natV_natAt {w : World} {v : Value} {g N M : Nat} : NatV w v g N M = NatAt w v g N M := rfl

/-- A Rat in an answer: its two lists lie in blocks of their own. -/
def RatV (w : World) (v : Value) (neg : Bool) (N D B M : Nat) : Prop :=
  ∃ v1 v2 g h, v = .agg #[.bool neg, v1, v2] ∧ NatAt w v1 g N M ∧ NatAt w v2 h D M ∧ B ≤ g ∧ B ≤ h ∧ g ≠ h

theorem natAt_nil (w : World) (g M : Nat) : NatAt w (.slice none 0 0) g 0 M :=
  ⟨none, 0, 0, fun _ => 0, rfl, Nat.le_refl _, Nat.zero_le _, fun _ => rfl, fun j hj => absurd hj (by omega), fun h => absurd h (by omega), fun j hj => absurd hj (by omega), fun h => absurd h (by omega), rfl⟩

theorem natAt_empty (w : World) (a : Addr) (cap g M : Nat) : NatAt w (.slice (some a) 0 cap) g 0 M :=
  ⟨some a, 0, cap, fun _ => 0, rfl, Nat.zero_le _, Nat.zero_le _, fun h => (by cases h), fun j hj => absurd hj (by omega), fun h => absurd h (by omega), fun j hj => absurd hj (by omega), fun h => absurd h (by omega), rfl⟩

theorem NatAt.keep {w w' : World} {v : Value} {g N M : Nat} (h : NatAt w v g N M) (s : w.Since w.heap.size w') : NatAt w' v g N M := by
  obtain ⟨a, m, cap, Y, h1, h2, h3, h4, h5, h6, h7, h8, h9⟩ := h
  exact ⟨a, m, cap, Y, h1, h2, h3, h4, h5.keep s, fun h0 o => by rw [s.frozen (a := ⟨g, o, none⟩) (h5.lt h0)]; exact h6 h0 o, h7, h8, h9⟩

theorem NatAt.marked {w w' : World} {v : Value} {g N M c : Nat} (h : NatAt w v g N M) (s : Marked w w' c) (hne : g ≠ c) : NatAt w' v g N M := by
  obtain ⟨a, m, cap, Y, h1, h2, h3, h4, h5, h6, h7, h8, h9⟩ := h
  exact ⟨a, m, cap, Y, h1, h2, h3, h4, h5.marked s (fun _ => hne), fun h0 o => by rw [s.frozenO (a := ⟨g, o, none⟩) hne]; exact h6 h0 o, h7, h8, h9⟩

theorem NatAt.more {w : World} {v : Value} {g N M M' : Nat} (h : NatAt w v g N M) (hM : M ≤ M') : NatAt w v g N M' := by
  obtain ⟨a, m, cap, Y, h1, h2, h3, h4⟩ := h
  exact ⟨a, m, cap, Y, h1, h2, Nat.le_trans h3 hM, h4⟩

theorem RatV.keep {w w' : World} {v : Value} {neg : Bool} {N D B M : Nat} (h : RatV w v neg N D B M) (s : w.Since w.heap.size w') : RatV w' v neg N D B M := by
  obtain ⟨v1, v2, g, k, h1, h2, h3, h4⟩ := h
  exact ⟨v1, v2, g, k, h1, h2.keep s, h3.keep s, h4⟩

theorem RatV.down {w : World} {v : Value} {neg : Bool} {N D B B' M : Nat} (h : RatV w v neg N D B M) (hB : B' ≤ B) : RatV w v neg N D B' M := by
  obtain ⟨v1, v2, g, k, h1, h2, h3, h4, h5, h6⟩ := h
  exact ⟨v1, v2, g, k, h1, h2, h3, by omega, by omega, h6⟩

theorem RatV.more {w : World} {v : Value} {neg : Bool} {N D B M M' : Nat} (h : RatV w v neg N D B M) (hM : M ≤ M') : RatV w v neg N D B M' := by
  obtain ⟨v1, v2, g, k, h1, h2, h3, h4⟩ := h
  exact ⟨v1, v2, g, k, h1, h2.more hM, h3.more hM, h4⟩

set_option maxHeartbeats 800000 in
set_option maxRecDepth 100000 in
theorem zeroRat_any (w : World) : Calls Tryd.prog 32 #[] w fun e w' => ∃ v, e = .returned v ∧ RatV w' v false 0 1 w.heap.size 4194304 ∧ w.Since w.heap.size w' := by
  have sA : w.Since w.heap.size ((w.alloc (.cells #[.bool false, .slice none 0 0, .slice (some ⟨w.heap.size + 1, 0, none⟩) 1 1] 25)).alloc (.cells #[.int .u32 1] 58)) := ((World.Since.refl _ _).alloc (Nat.le_refl _) _).alloc (by simp) _
  have bA : Box3 ((w.alloc (.cells #[.bool false, .slice none 0 0, .slice (some ⟨w.heap.size + 1, 0, none⟩) 1 1] 25)).alloc (.cells #[.int .u32 1] 58)) w.heap.size (.bool false) (.slice none 0 0) (.slice (some ⟨w.heap.size + 1, 0, none⟩) 1 1) :=
    (Box3.new w _ _ _ _).keep ((World.Since.refl _ _).alloc (Nat.le_refl _) _)
  have n1 := natAt_one (w.alloc (.cells #[.bool false, .slice none 0 0, .slice (some ⟨w.heap.size + 1, 0, none⟩) 1 1] 25))
  rw [show (w.alloc (.cells #[.bool false, .slice none 0 0, .slice (some ⟨w.heap.size + 1, 0, none⟩) 1 1] 25)).heap.size = w.heap.size + 1 by simp] at n1
  go_enter Tryd.func32, Tryd.ntmps32
  go_wp2
  refine bodyPost_ret (results_box3 rfl _ _ _ _ _ _ rfl bA) rfl ?_
  exact ⟨_, rfl, ⟨_, _, w.heap.size + 2, w.heap.size + 1, rfl, natAt_nil _ _ _, n1, by omega, by omega, by omega⟩, sA⟩

set_option maxHeartbeats 800000 in
set_option maxRecDepth 100000 in
theorem l1Zero_any (w : World) : Calls Tryd.prog 55 #[] w fun e w' => ∃ v, e = .returned v ∧ RatV w' v false 0 1 w.heap.size 4194304 ∧ w.Since w.heap.size w' := by
  have sA : w.Since w.heap.size (((w.alloc (.cells #[.bool false, .slice (some ⟨w.heap.size + 1, 0, none⟩) 0 0, .slice (some ⟨w.heap.size + 1 + 1, 0, none⟩) 1 1] 25)).alloc (.cells #[] 58)).alloc (.cells #[.int .u32 1] 58)) :=
    (((World.Since.refl _ _).alloc (Nat.le_refl _) _).alloc (by simp) _).alloc (by simp; omega) _
  have bA : Box3 (((w.alloc (.cells #[.bool false, .slice (some ⟨w.heap.size + 1, 0, none⟩) 0 0, .slice (some ⟨w.heap.size + 1 + 1, 0, none⟩) 1 1] 25)).alloc (.cells #[] 58)).alloc (.cells #[.int .u32 1] 58)) w.heap.size (.bool false) (.slice (some ⟨w.heap.size + 1, 0, none⟩) 0 0) (.slice (some ⟨w.heap.size + 1 + 1, 0, none⟩) 1 1) :=
    ((Box3.new w _ _ _ _).keep ((World.Since.refl _ _).alloc (Nat.le_refl _) _)).keep ((World.Since.refl _ _).alloc (Nat.le_refl _) _)
  have n1 := natAt_one ((w.alloc (.cells #[.bool false, .slice (some ⟨w.heap.size + 1, 0, none⟩) 0 0, .slice (some ⟨w.heap.size + 1 + 1, 0, none⟩) 1 1] 25)).alloc (.cells #[] 58))
  rw [show ((w.alloc (.cells #[.bool false, .slice (some ⟨w.heap.size + 1, 0, none⟩) 0 0, .slice (some ⟨w.heap.size + 1 + 1, 0, none⟩) 1 1] 25)).alloc (.cells #[] 58)).heap.size = w.heap.size + 1 + 1 by simp] at n1
  go_enter Tryd.func55, Tryd.ntmps55
  go_wp2
  refine bodyPost_ret (results_box3 rfl _ _ _ _ _ _ rfl bA) rfl ?_
  exact ⟨_, rfl, ⟨_, _, w.heap.size + 1, w.heap.size + 1 + 1, rfl, natAt_empty _ _ _ _ _, n1, by omega, by omega, by omega⟩, sA⟩

theorem tlen_plain {X : Nat → Nat} {n : Nat} (p : 0 < n → X (n - 1) ≠ 0) : tlen (nz X) n = n := by
  cases n with
  | zero => rfl
  | succ n => simp [tlen, nz]; exact fun h => absurd h (p (by omega))

set_option maxHeartbeats 1600000 in
set_option maxRecDepth 100000 in
/-- fractionOf of a Rat with plain lists shares them. -/
theorem fractionOf_any (neg : Bool) (a b : Option Addr) (ba oa n ca bb ob m cb : Nat) (X Y : Nat → Nat) (w : World) (hn : n ≤ 1048576) (hm : m ≤ 1048576) (hnc : n ≤ ca) (hmc : m ≤ cb)
    (hX : Limbs w a ba oa n X) (hY : Limbs w b bb ob m Y) (pX : 0 < n → X (n - 1) ≠ 0) (pY : 0 < m → Y (m - 1) ≠ 0) :
    Calls Tryd.prog 61 #[.agg #[.bool neg, .slice a n ca, .slice b m cb]] w fun e w' => e = .returned (.agg #[.bool neg, .slice a n ca, .slice b m cb]) ∧ w.Since w.heap.size w' := by
  have eX := tlen_plain pX
  have eY := tlen_plain pY
  clear pX pY
  have sA : w.Since w.heap.size ((w.alloc (.cells #[.bool neg, .slice a n ca, .slice b m cb] 25)).alloc (.cells #[.bool false, .slice none 0 0, .slice none 0 0] 72)) := ((World.Since.refl _ _).alloc (Nat.le_refl _) _).alloc (by simp) _
  have bA : Box3 ((w.alloc (.cells #[.bool neg, .slice a n ca, .slice b m cb] 25)).alloc (.cells #[.bool false, .slice none 0 0, .slice none 0 0] 72)) w.heap.size (.bool neg) (.slice a n ca) (.slice b m cb) := (Box3.new w _ _ _ _).keep ((World.Since.refl _ _).alloc (Nat.le_refl _) _)
  have qA : Box3 ((w.alloc (.cells #[.bool neg, .slice a n ca, .slice b m cb] 25)).alloc (.cells #[.bool false, .slice none 0 0, .slice none 0 0] 72)) (w.heap.size + 1) (.bool false) (.slice none 0 0) (.slice none 0 0) := by
    have := Box3.new (w.alloc (.cells #[.bool neg, .slice a n ca, .slice b m cb] 25)) (.bool false) (.slice none 0 0) (.slice none 0 0) 72
    simpa using this
  go_enter Tryd.func61, Tryd.ntmps61
  go_wp2
  generalize ((w.alloc (.cells #[.bool neg, .slice a n ca, .slice b m cb] 25)).alloc (.cells #[.bool false, .slice none 0 0, .slice none 0 0] 72)) = wA at *
  have SD : w.Since w.heap.size wA.drew := ⟨sA.os, sA.tape, sA.output, sA.size, sA.block⟩
  have bD : Box3 wA.drew w.heap.size (.bool neg) (.slice a n ca) (.slice b m cb) := ⟨bA.c0, bA.c1, bA.c2, bA.f⟩
  have qD : Box3 wA.drew (w.heap.size + 1) (.bool false) (.slice none 0 0) (.slice none 0 0) := ⟨qA.c0, qA.c1, qA.c2, qA.f⟩
  have k0 := bA.c0
  have k1 := bA.c1
  have k2 := bA.c2
  have J1 := readOnly_any a ba oa n ca X wA.drew (by omega) hnc (hX.keep SD)
  rw [eX] at J1
  clear sA bA qA
  go_region_held3 (fun w' => w'.cell? ⟨w.heap.size, 0, none⟩ = some (.bool neg) ∧ w'.cell? ⟨w.heap.size, 1, none⟩ = some (.slice a n ca) ∧ w'.cell? ⟨w.heap.size, 2, none⟩ = some (.slice b m cb)) (go_keep)
    (first
      | (go_at_call 75
         first
          | (with_reducible refine J1.mono ?_
             rintro e w1 ⟨rfl, s1⟩
             have S1 : w.Since w.heap.size w1 := SD.trans (sinceMono s1 SD.size)
             have b1 := bD.keep s1
             have q1 := qD.keep s1
             have i0 := b1.c0
             have i1 := b1.c1
             have i2 := b1.c2
             have J2 := readOnly_any b bb ob m cb Y w1 (by omega) hmc (hY.keep S1)
             rw [eY] at J2)
          | (with_reducible refine J2.mono ?_
             rintro e w2 ⟨rfl, s2⟩
             have S2 : w.Since w.heap.size w2 := S1.trans (sinceMono s2 S1.size)
             have b2 := b1.keep s2
             have q2 := q1.keep s2
             have i0 := b2.c0
             have i1 := b2.c1
             have i2 := b2.c2
             have j0 := q2.c0
             have j1 := q2.c1
             have j2 := q2.c2
             have f0 := q2.f 0
             have f1 := q2.f 1
             have f2 := q2.f 2)))
  all_goals go_wp2
  all_goals
    have q3 := ((q2.set0 (.bool neg)).set1 (.slice a n ca)).set2 (.slice b m cb)
    refine bodyPost_ret (results_box3T rfl Tryd.underlying72 rfl fracInfo _ _ _ _ _ _ rfl q3) rfl ?_
    have M : Marked w2 _ (w.heap.size + 1) := (((Marked.refl w2 _).setCell 0 (.bool neg)).setCell 1 (.slice a n ca)).setCell 2 (.slice b m cb)
    exact ⟨rfl, S2.trans (M.since (by omega))⟩

end Go.Proofs.YtabemlkdpgglaaaDoor

namespace Go.Proofs.YtabemlkdpgglaaaDoor
open Go.RowKit

/-- Old memory but for one block stands. -/
structure Oth (c : Nat) (w w' : World) : Prop where
  os : w'.os = w.os
  tape : w'.tape = w.tape
  output : w'.output = w.output
  size : w.heap.size ≤ w'.heap.size
  block : ∀ k, k < w.heap.size → k ≠ c → w'.heap[k]? = w.heap[k]?

section
variable {c d n g N M off : Nat} {w w' w1 w2 : World} {a : Option Addr} {X : Nat → Nat} {v x y z : Value}
theorem Oth.refl (c : Nat) (w : World) : Oth c w w := ⟨rfl, rfl, rfl, Nat.le_refl _, fun _ _ _ => rfl⟩
theorem Oth.trans (h : Oth c w w1) (k : Oth c w1 w2) : Oth c w w2 := ⟨k.os.trans h.os, k.tape.trans h.tape, k.output.trans h.output, Nat.le_trans h.size k.size, fun i h1 h2 => (k.block i (Nat.lt_of_lt_of_le h1 h.size) h2).trans (h.block i h1 h2)⟩
theorem Oth.ofSince (c : Nat) (h : w.Since w.heap.size w') : Oth c w w' := ⟨h.os, h.tape, h.output, h.size, fun k hk _ => h.block k hk⟩
theorem Oth.ofMarked (h : Marked w w' c) : Oth c w w' := ⟨h.os, h.tape, h.output, by rw [h.size]; exact Nat.le_refl _, fun k _ hk => h.other k hk⟩
theorem Oth.since (h : Oth c w w') (hc : c ≤ w.heap.size) : w.Since c w' := ⟨h.os, h.tape, h.output, h.size, fun k hk => h.block k (by omega) (by omega)⟩
theorem Oth.cell (h : Oth c w w') {a : Addr} (hl : a.block < w.heap.size) (hne : a.block ≠ c) : w'.cell? a = w.cell? a := World.cell?_of_block (w := w) (h.block _ hl hne)
theorem Oth.frozen (h : Oth c w w') {a : Addr} (hl : a.block < w.heap.size) (hne : a.block ≠ c) : w'.frozen? a = w.frozen? a := World.frozen?_of_block (w := w) (h.block _ hl hne)
theorem Limbs.oth (h : Limbs w a g off n X) (s : Oth c w w') (hne : 0 < n → g ≠ c) : Limbs w' a g off n X := fun j hj => ⟨(h j hj).1, by rw [s.cell (a := ⟨g, off + j, none⟩) (h.lt (by omega)) (hne (by omega))]; exact (h j hj).2⟩
theorem NatAt.oth (h : NatAt w v g N M) (s : Oth c w w') (hne : g ≠ c) : NatAt w' v g N M := by
  obtain ⟨a, m, cap, Y, h1, h2, h3, h4, h5, h6, h7, h8, h9⟩ := h
  exact ⟨a, m, cap, Y, h1, h2, h3, h4, h5.oth s (fun _ => hne), fun h0 o => by rw [s.frozen (a := ⟨g, o, none⟩) (h5.lt h0) hne]; exact h6 h0 o, h7, h8, h9⟩
theorem Box3.oth (h : Box3 w d x y z) (s : Oth c w w') (hne : d ≠ c) : Box3 w' d x y z :=
  ⟨(s.cell (a := ⟨d, 0, none⟩) h.lt hne).trans h.c0, (s.cell (a := ⟨d, 1, none⟩) h.lt hne).trans h.c1, (s.cell (a := ⟨d, 2, none⟩) h.lt hne).trans h.c2, fun k => (s.frozen (a := ⟨d, k, none⟩) h.lt hne).trans (h.f k)⟩
end

theorem Box3.drew {w : World} {c : Nat} {x y z : Value} (h : Box3 w c x y z) : Box3 w.drew c x y z := ⟨h.c0, h.c1, h.c2, h.f⟩
theorem Oth.drew {w w' : World} {c : Nat} (h : Oth c w w') : Oth c w w'.drew := ⟨h.os, h.tape, h.output, h.size, h.block⟩
theorem Limbs.drew {w : World} {a : Option Addr} {b off n : Nat} {X : Nat → Nat} (h : Limbs w a b off n X) : Limbs w.drew a b off n X := h
theorem NatAt.drew {w : World} {v : Value} {g N M : Nat} (h : NatAt w v g N M) : NatAt w.drew v g N M := h
theorem since_drew {w w' : World} {B : Nat} (h : w.Since B w') : w.Since B w'.drew := ⟨h.os, h.tape, h.output, h.size, h.block⟩

theorem natAt_row {w2 : World} {g n : Nat} {P : Nat → Nat} (r : w2.rowIs g 58 n (fun j => .int .u32 (P j : Nat))) (hP : ∀ k, P k < 4294967296) {N : Nat} (hN : lv P n = N) : NatAt w2 (.slice (some ⟨g, 0, none⟩) (tlen (nz P) n) n) g N n :=
  ⟨_, _, _, P, rfl, tlen_le _ _, tlen_le _ _, fun h => (by cases h), (limbs_row r).take (tlen_le _ _), fun _ o => r.frozen o, fun j _ => hP j, fun h => by have := tlen_top (nz P) n h; simpa [nz] using this, by rw [lv_tlen]; exact hN⟩

/-- multiply at the second cell of a struct. -/
theorem mulAt1 (c : Nat) (x z : Value) (a a' : Option Addr) (b off n cap b' off' m cap' : Nat) (X Y : Nat → Nat) (w : World) (hn : n ≤ 4194304) (hm : m ≤ 4194304) (hX : Limbs w a b off n X) (hY : Limbs w a' b' off' m Y)
    (hXl : ∀ j, j < n → X j < 4294967296) (hYl : ∀ j, j < m → Y j < 4294967296) (B : Box3 w c x (.slice a n cap) z) :
    Calls Tryd.prog 88 #[.pointer (some ⟨c, 1, none⟩), .slice a' m cap'] w fun e w' => e = .returned (.tuple #[]) ∧ ∃ v, Box3 w' c x v z ∧ NatAt w' v w.heap.size (lv X n * lv Y m) (n + m) ∧ Oth c w w' ∧ w.heap.size < w'.heap.size := by
  refine (multiply_any c 1 a a' b off n cap b' off' m cap' X Y w hn hm hX hY hXl hYl B.c1 (B.f 1)).mono ?_
  rintro e w' ⟨rfl, w2, P, s, r, hP, hv, rfl⟩
  have M := (Marked.refl w2 c).setCell 1 (.slice (some ⟨w.heap.size, 0, none⟩) (tlen (nz P) (n + m)) (n + m))
  exact ⟨rfl, _, (B.keep s).set1 _, (natAt_row r hP hv).marked M (Nat.ne_of_gt B.lt), (Oth.ofSince c s).trans (Oth.ofMarked M), by rw [M.size]; exact r.lt⟩

/-- multiply at the third cell of a struct. -/
theorem mulAt2 (c : Nat) (x z : Value) (a a' : Option Addr) (b off n cap b' off' m cap' : Nat) (X Y : Nat → Nat) (w : World) (hn : n ≤ 4194304) (hm : m ≤ 4194304) (hX : Limbs w a b off n X) (hY : Limbs w a' b' off' m Y)
    (hXl : ∀ j, j < n → X j < 4294967296) (hYl : ∀ j, j < m → Y j < 4294967296) (B : Box3 w c x z (.slice a n cap)) :
    Calls Tryd.prog 88 #[.pointer (some ⟨c, 2, none⟩), .slice a' m cap'] w fun e w' => e = .returned (.tuple #[]) ∧ ∃ v, Box3 w' c x z v ∧ NatAt w' v w.heap.size (lv X n * lv Y m) (n + m) ∧ Oth c w w' ∧ w.heap.size < w'.heap.size := by
  refine (multiply_any c 2 a a' b off n cap b' off' m cap' X Y w hn hm hX hY hXl hYl B.c2 (B.f 2)).mono ?_
  rintro e w' ⟨rfl, w2, P, s, r, hP, hv, rfl⟩
  have M := (Marked.refl w2 c).setCell 2 (.slice (some ⟨w.heap.size, 0, none⟩) (tlen (nz P) (n + m)) (n + m))
  exact ⟨rfl, _, (B.keep s).set2 _, (natAt_row r hP hv).marked M (Nat.ne_of_gt B.lt), (Oth.ofSince c s).trans (Oth.ofMarked M), by rw [M.size]; exact r.lt⟩

set_option maxHeartbeats 1600000 in
set_option maxRecDepth 100000 in
/-- (*fraction).multiply. -/
theorem fracMul_any (c : Nat) (f f' : Bool) (a b a' b' : Option Addr) (ba oa n ca bb ob m cb ba' oa' n' ca' bb' ob' m' cb' : Nat) (X Y X' Y' : Nat → Nat) (w : World) (hn : n ≤ 1048576) (hm : m ≤ 1048576) (hn' : n' ≤ 1048576) (hm' : m' ≤ 1048576)
    (hX : Limbs w a ba oa n X) (hY : Limbs w b bb ob m Y) (hX' : Limbs w a' ba' oa' n' X') (hY' : Limbs w b' bb' ob' m' Y') (hXl : ∀ j, j < n → X j < 4294967296) (hYl : ∀ j, j < m → Y j < 4294967296) (hXl' : ∀ j, j < n' → X' j < 4294967296) (hYl' : ∀ j, j < m' → Y' j < 4294967296)
    (ea : 0 < n → ba ≠ c) (eb : 0 < m → bb ≠ c) (ea' : 0 < n' → ba' ≠ c) (eb' : 0 < m' → bb' ≠ c) (B : Box3 w c (.bool f) (.slice a n ca) (.slice b m cb)) :
    Calls Tryd.prog 64 #[.pointer (some ⟨c, 0, none⟩), .agg #[.bool f', .slice a' n' ca', .slice b' m' cb']] w fun e w' => e = .returned (.tuple #[]) ∧ ∃ v1 v2 g h, Box3 w' c (.bool (f != f')) v1 v2 ∧
      NatAt w' v1 g (lv X n * lv X' n') (n + n') ∧ NatAt w' v2 h (lv Y m * lv Y' m') (m + m') ∧ w.heap.size ≤ g ∧ g < h ∧ h < w'.heap.size ∧ Oth c w w' := by
  have sA : w.Since w.heap.size (w.alloc (.cells #[.bool f', .slice a' n' ca', .slice b' m' cb'] 72)) := (World.Since.refl _ _).alloc (Nat.le_refl _) _
  have gA := Box3.new w (.bool f') (.slice a' n' ca') (.slice b' m' cb') 72
  have k0 := B.c0
  have kf := B.f 0
  have BA := B.keep sA
  have hcl := B.lt
  go_enter Tryd.func64, Tryd.ntmps64
  go_wp2
  have g0 := gA.c0
  have kA := BA.c0
  have kB := BA.f 0
  have M0 := (Marked.refl w c).setCell 0 (.bool (!(f == f')))
  have tS : (w.setCell ⟨c, 0, none⟩ (.bool (!(f == f')))).Since (w.setCell ⟨c, 0, none⟩ (.bool (!(f == f')))).heap.size ((w.setCell ⟨c, 0, none⟩ (.bool (!(f == f')))).alloc (.cells #[.bool f', .slice a' n' ca', .slice b' m' cb'] 72)).drew := by
    have h := (World.Since.refl _ (w.setCell ⟨c, 0, none⟩ (.bool (!(f == f'))))).alloc (Nat.le_refl _) (.cells #[.bool f', .slice a' n' ca', .slice b' m' cb'] 72)
    exact ⟨h.os, h.tape, h.output, h.size, h.block⟩
  have B1 : Box3 ((w.setCell ⟨c, 0, none⟩ (.bool (!(f == f')))).alloc (.cells #[.bool f', .slice a' n' ca', .slice b' m' cb'] 72)).drew c (.bool (!(f == f'))) (.slice a n ca) (.slice b m cb) := (B.set0 _).keep tS
  have G1 : Box3 ((w.setCell ⟨c, 0, none⟩ (.bool (!(f == f')))).alloc (.cells #[.bool f', .slice a' n' ca', .slice b' m' cb'] 72)).drew w.heap.size (.bool f') (.slice a' n' ca') (.slice b' m' cb') := by
    have h := Box3.new (w.setCell ⟨c, 0, none⟩ (.bool (!(f == f')))) (.bool f') (.slice a' n' ca') (.slice b' m' cb') 72
    rw [M0.size] at h
    exact ⟨h.c0, h.c1, h.c2, h.f⟩
  have O1 : Oth c w ((w.setCell ⟨c, 0, none⟩ (.bool (!(f == f')))).alloc (.cells #[.bool f', .slice a' n' ca', .slice b' m' cb'] 72)).drew := (Oth.ofMarked M0).trans (Oth.ofSince c tS)
  have z1 : w.heap.size < ((w.setCell ⟨c, 0, none⟩ (.bool (!(f == f')))).alloc (.cells #[.bool f', .slice a' n' ca', .slice b' m' cb'] 72)).drew.heap.size := G1.lt
  clear tS M0 gA BA sA B
  go_region_with (fail)
  all_goals
    generalize ((w.setCell ⟨c, 0, none⟩ (.bool (!(f == f')))).alloc (.cells #[.bool f', .slice a' n' ca', .slice b' m' cb'] 72)).drew = w1 at *
    have k2 := G1.c1
    have JA := mulAt1 c _ _ a a' ba oa n ca ba' oa' n' ca' X X' w1.drew (by omega) (by omega) (hX.oth O1.drew ea) (hX'.oth O1.drew ea') hXl hXl' B1.drew
    go_wp2
    go_region_held3 (fun w' => w'.cell? ⟨w.heap.size, 1, none⟩ = some (.slice a' n' ca')) (go_keep)
      (first
        | (go_at_call 88
           with_reducible refine JA.mono ?_
           rintro e w2 ⟨rfl, v1, B2, N1, O2, z2⟩
           have G2 := G1.drew.oth O2 (by omega)
           have O12 := O1.drew.trans O2
           have i1 := G2.c1))
    have k3 := G2.c2
    have JB := mulAt2 c _ _ b b' bb ob m cb bb' ob' m' cb' Y Y' w2.drew (by omega) (by omega) (hY.oth O12.drew eb) (hY'.oth O12.drew eb') hYl hYl' B2.drew
    go_wp2
    go_region_held3 (fun w' => w'.cell? ⟨w.heap.size, 2, none⟩ = some (.slice b' m' cb')) (go_keep)
      (first
        | (go_at_call 88
           with_reducible refine JB.mono ?_
           rintro e w3 ⟨rfl, v2, B3, N2, O3, z3⟩
           have i2 := (G2.drew.oth O3 (by omega)).c2))
    go_wp2
    go_end0
    exact ⟨rfl, v1, v2, w1.heap.size, w2.heap.size, B3, N1.drew.oth O3 (by show w1.heap.size ≠ _; omega), N2, by omega, z2, z3, O12.drew.trans O3⟩

end Go.Proofs.YtabemlkdpgglaaaDoor

namespace Go.Proofs.YtabemlkdpgglaaaDoor
open Go.RowKit

/-- What writing into one cell of a box and into one row leaves. -/
structure At1 (c o : Nat) (r : Option Nat) (w w' : World) : Prop where
  os : w'.os = w.os
  tape : w'.tape = w.tape
  output : w'.output = w.output
  size : w.heap.size ≤ w'.heap.size
  block : ∀ k, k < w.heap.size → k ≠ c → some k ≠ r → w'.heap[k]? = w.heap[k]?
  cell : ∀ x, x ≠ o → w'.cell? ⟨c, x, none⟩ = w.cell? ⟨c, x, none⟩
  frozen : ∀ x, w'.frozen? ⟨c, x, none⟩ = w.frozen? ⟨c, x, none⟩

section
variable {c o : Nat} {r : Option Nat} {w w' w'' : World}
theorem At1.refl (c o : Nat) (r : Option Nat) (w : World) : At1 c o r w w := ⟨rfl, rfl, rfl, Nat.le_refl _, fun _ _ _ _ => rfl, fun _ _ => rfl, fun _ => rfl⟩
theorem At1.alloc (h : At1 c o r w w') (hc : c < w.heap.size) (b : Obj) : At1 c o r w (w'.alloc b) := by
  have s : w'.Since w'.heap.size (w'.alloc b) := (World.Since.refl _ _).alloc (Nat.le_refl _) _
  have hl := h.size
  exact ⟨h.os, h.tape, h.output, Nat.le_trans h.size s.size, fun k h1 h2 h3 => (s.block k (by omega)).trans (h.block k h1 h2 h3), fun x hx => (s.cell (a := ⟨c, x, none⟩) (by show c < _; omega)).trans (h.cell x hx), fun x => (s.frozen (a := ⟨c, x, none⟩) (by show c < _; omega)).trans (h.frozen x)⟩
theorem At1.grown {row : Option Nat} (h : At1 c o r w w') (g : w'.grownBy w'' row) (hc : c < w.heap.size) (hr : row = r ∨ ∀ k, row = some k → w.heap.size ≤ k) (hrc : some c ≠ row) : At1 c o r w w'' := by
  have hl := h.size
  refine ⟨g.os.trans h.os, g.tape.trans h.tape, g.output.trans h.output, Nat.le_trans h.size g.size, fun k h1 h2 h3 => (g.block k (by omega) ?_).trans (h.block k h1 h2 h3), fun x hx => (World.cell?_of_block (w := w') (a := ⟨c, x, none⟩) (g.block c (by omega) hrc)).trans (h.cell x hx), fun x => (World.frozen?_of_block (w := w') (a := ⟨c, x, none⟩) (g.block c (by omega) hrc)).trans (h.frozen x)⟩
  rcases hr with rfl | hr
  · exact h3
  · intro e; have := hr k e.symm; omega
theorem At1.setRow (h : At1 c o r w w') (g i : Nat) (v : Value) (hr : some g = r ∨ w.heap.size ≤ g) (hc : g ≠ c) : At1 c o r w (w'.setCell ⟨g, i, none⟩ v) := by
  have M := (Marked.refl w' g).setCell i v
  refine ⟨M.os.trans h.os, M.tape.trans h.tape, M.output.trans h.output, by rw [M.size]; exact h.size, fun k h1 h2 h3 => (M.other k ?_).trans (h.block k h1 h2 h3), fun x hx => (M.cell (a := ⟨c, x, none⟩) (Ne.symm hc)).trans (h.cell x hx), fun x => (M.frozenO (a := ⟨c, x, none⟩) (Ne.symm hc)).trans (h.frozen x)⟩
  rcases hr with rfl | hr
  · intro e; exact h3 (by rw [e])
  · omega
theorem At1.setC (h : At1 c o r w w') (v : Value) : At1 c o r w (w'.setCell ⟨c, o, none⟩ v) := by
  have M := (Marked.refl w' c).setCell o v
  refine ⟨M.os.trans h.os, M.tape.trans h.tape, M.output.trans h.output, by rw [M.size]; exact h.size, fun k h1 h2 h3 => (M.other k h2).trans (h.block k h1 h2 h3), fun x hx => ?_, fun x => (M.frozen x).trans (h.frozen x)⟩
  rw [← h.cell x hx]
  exact World.cell?_setCell_other _ _ _ _ (by simp)
end

theorem own_set {w : World} {base g n cap : Nat} {V : Nat → Nat} (h : w.ownsRow base 58 1 (.slice (some ⟨g, 0, none⟩) n cap) n (ll V n)) (i x : Nat) (hi : i < n) :
    (w.setCell ⟨g, i, none⟩ (.int .u32 x)).ownsRow base 58 1 (.slice (some ⟨g, 0, none⟩) n cap) n (ll (upd V i x) n) := by
  obtain ⟨hl, h | ⟨g', cap', cur, e, hb, hh, hn, hm, hs, ht⟩⟩ := h
  · cases h.1
  · cases e
    have r : w.rowIs g 58 cap (fun j => cur[j]?.getD (.bool false)) := ⟨cur, hh, by simpa using hs, fun j hj => by
      show cur[j]? = some (cur[j]?.getD (.bool false)); rw [Array.getElem?_eq_getElem (by omega)]; rfl⟩
    obtain ⟨c2, k1, k2, k3⟩ := r.set i (.int .u32 x)
    refine ⟨by simp [ll], Or.inr ⟨g, cap, c2, rfl, hb, k1, hn, hm, by simpa using k2, ?_⟩⟩
    apply List.ext_getElem?
    intro j
    rw [Nat.mul_one] at ht ⊢
    by_cases hj : j < n
    · rw [List.getElem?_take_of_lt hj, Array.getElem?_toList, k3 j (by omega)]
      have h2 : (ll V n)[j]? = cur[j]? := by rw [← ht, List.getElem?_take_of_lt hj, Array.getElem?_toList]
      simp only [ll, List.getElem?_map, List.getElem?_range hj, Option.map_some] at h2 ⊢
      by_cases e : j = i
      · subst e; simp [upd_same]
      · rw [if_neg e, upd_other _ _ _ _ e, ← h2]; rfl
    · rw [List.getElem?_eq_none (by simp; omega), List.getElem?_eq_none (by simp [ll]; omega)]

theorem own_setI {w : World} {base g n cap : Nat} {V : Nat → Nat} (h : w.ownsRow base 58 1 (.slice (some ⟨g, 0, none⟩) n cap) n (ll V n)) (i x : Nat) (hi : i < n) (E : Int) (hE : E = (x : Int)) :
    (w.setCell ⟨g, i, none⟩ (.int .u32 E)).ownsRow base 58 1 (.slice (some ⟨g, 0, none⟩) n cap) n (ll (upd V i x) n) := by subst hE; exact own_set h i x hi

/-- What holds when i limbs have been added. -/
def AddL (X V Y : Nat → Nat) (n m i c : Nat) : Prop := lv V i + c * 2 ^ (32 * i) = lv (extL X n) i + lv (extL Y m) i ∧ c ≤ 1 ∧ (∀ k, i ≤ k → V k = extL X n k) ∧ ∀ k, k < i → V k < 4294967296

theorem addL_step {X V Y : Nat → Nat} {n m i c s c' x y : Nat} (h : AddL X V Y n m i c) (hx : V i = x) (hy : extL Y m i = y) (hs : s < 4294967296) (hc : c' ≤ 1) (e : s + c' * 4294967296 = x + y + c) : AddL X (upd V i s) Y n m (i + 1) c' := by
  obtain ⟨h1, h2, h3, h4⟩ := h
  have hx0 : extL X n i = x := by rw [← hx]; exact (h3 i (Nat.le_refl _)).symm
  refine ⟨?_, hc, fun k hk => by rw [upd_other _ _ _ _ (by omega)]; exact h3 k (by omega), fun k hk => ?_⟩
  · simp only [lv, upd_same, lv_upd V i s i (Nat.le_refl _), hx0, hy]
    rw [pow32]
    generalize 2 ^ (32 * i) = P at *
    have e2 : s * P + c' * (4294967296 * P) = x * P + y * P + c * P := by rw [← Nat.mul_assoc, ← Nat.add_mul, ← Nat.add_mul, ← Nat.add_mul, e]
    omega
  · by_cases e2 : k = i
    · subst e2; rw [upd_same]; exact hs
    · rw [upd_other _ _ _ _ e2]; exact h4 k (by omega)

theorem addL_end {X V Y : Nat → Nat} {n m k c : Nat} (h : AddL X V Y n m k c) (hn : n ≤ k) (hm : m ≤ k) : lv V k + c * 2 ^ (32 * k) = lv X n + lv Y m := by
  have := h.1
  rw [lv_extL X n k hn, lv_extL Y m k hm] at this
  exact this

theorem ll_snoc (X : Nat → Nat) (n k : Nat) (h : n ≤ k) : ll (extL X n) k ++ [.int .u32 0] = ll (extL X n) (k + 1) := by
  simp only [ll, List.range_succ, List.map_append, List.map_cons, List.map_nil]
  have : extL X n k = 0 := by simp [extL]; omega
  rw [this]; rfl

end Go.Proofs.YtabemlkdpgglaaaDoor

namespace Go.Proofs.YtabemlkdpgglaaaDoor
open Go.Lib

/-- k digits of r, the first ahead. -/
def pad : Nat → Nat → List UInt8
  | 0, _ => []
  | k + 1, r => pad k (r / 10) ++ [UInt8.ofNat (48 + r % 10)]

theorem dd_big {u : Nat} (h : ¬ u < 10) : decDigits u = decDigits (u / 10) ++ [UInt8.ofNat (48 + u % 10)] := by rw [decDigits, dif_neg h]

theorem dd_pad (k : Nat) : ∀ (q r : Nat), 0 < q → r < 10 ^ k → decDigits (q * 10 ^ k + r) = decDigits q ++ pad k r := by
  induction k with
  | zero => intro q r hq hr; simp at hr; subst hr; simp [pad]
  | succ k ih =>
    intro q r hq hr
    have hp : 1 ≤ 10 ^ k := Nat.one_le_pow _ _ (by decide)
    have e : q * 10 ^ (k + 1) = q * 10 ^ k * 10 := by rw [Nat.pow_succ, Nat.mul_assoc]
    have hq' : 1 ≤ q * 10 ^ k := Nat.mul_le_mul hq hp
    have h1 : (q * 10 ^ (k + 1) + r) / 10 = q * 10 ^ k + r / 10 := by rw [e]; omega
    have h2 : (q * 10 ^ (k + 1) + r) % 10 = r % 10 := by rw [e]; omega
    rw [dd_big (by rw [e]; omega), h1, h2, ih q (r / 10) hq (by rw [Nat.pow_succ] at hr; omega), pad, List.append_assoc]

theorem pad_zero (k : Nat) : pad k 0 = List.replicate k 48 := by
  induction k with
  | zero => rfl
  | succ k ih =>
    have : pad (k + 1) 0 = pad k 0 ++ [48] := rfl
    rw [this, ih, List.replicate_succ']

theorem nd_le {k r : Nat} (hk : 1 ≤ k) (h : r < 10 ^ k) : nDigits r ≤ k := by
  induction k generalizing r with
  | zero => omega
  | succ k ih =>
    by_cases h1 : r < 10
    · rw [nDigits_small h1]; omega
    · rw [nDigits_big h1]
      have h2 : r / 10 < 10 ^ k := by rw [Nat.pow_succ] at h; omega
      have h3 : 1 ≤ k := by
        rcases Nat.eq_zero_or_pos k with h | h
        · subst h; simp at h2; omega
        · omega
      have := ih h3 h2
      omega

theorem pad_eq (k : Nat) : ∀ r, 1 ≤ k → r < 10 ^ k → pad k r = List.replicate (k - nDigits r) 48 ++ decDigits r := by
  induction k with
  | zero => intro r h; omega
  | succ k ih =>
    intro r _ hr
    by_cases h1 : r < 10
    · rw [nDigits_small h1, decDigits_one h1]
      have e : pad (k + 1) r = pad k (r / 10) ++ [UInt8.ofNat (48 + r % 10)] := rfl
      rw [e, show r / 10 = 0 by omega, pad_zero, show k + 1 - 1 = k by omega, show r % 10 = r by omega]
    · have h2 : r / 10 < 10 ^ k := by rw [Nat.pow_succ] at hr; omega
      have h3 : 1 ≤ k := by
        rcases Nat.eq_zero_or_pos k with h | h
        · subst h; simp at h2; omega
        · omega
      have e : pad (k + 1) r = pad k (r / 10) ++ [UInt8.ofNat (48 + r % 10)] := rfl
      rw [e, ih _ h3 h2, nDigits_big h1, dd_big h1, show k + 1 - (nDigits (r / 10) + 1) = k - nDigits (r / 10) by omega, List.append_assoc]

/-- A number of chunks of nine digits. -/
theorem dd_chunk {q r : Nat} (hq : 0 < q) (hr : r < 1000000000) : decDigits (q * 1000000000 + r) = decDigits q ++ (List.replicate (9 - nDigits r) 48 ++ decDigits r) := by
  have h : r < 10 ^ 9 := hr
  have := dd_pad 9 q r hq h
  rw [pad_eq 9 r (by omega) h] at this
  exact this

/-- The digit at 10^k. -/
def dgt (v k : Nat) : Nat := v / 10 ^ k % 10
theorem dgt_lt (v k : Nat) : dgt v k < 10 := Nat.mod_lt _ (by omega)

/-- What is carried behind k digits of 2 v + c. -/
def cry (v c k : Nat) : Nat := (2 * (v % 10 ^ k) + c) / 10 ^ k

theorem cry_zero (v c : Nat) : cry v c 0 = c := by simp [cry, Nat.mod_one]

theorem cry_le {v c : Nat} (hc : c ≤ 1) (k : Nat) : cry v c k ≤ 1 := by
  have hp : 1 ≤ 10 ^ k := Nat.one_le_pow _ _ (by decide)
  have h : v % 10 ^ k < 10 ^ k := Nat.mod_lt _ hp
  have : cry v c k < 2 := (Nat.div_lt_iff_lt_mul hp).2 (by omega)
  omega

theorem step10 {P d m c x : Nat} (hP : 1 ≤ P) (hx : 2 * m + c = x * P + (2 * m + c) % P) : (2 * (m + P * d) + c) / P = 2 * d + x := by
  have h1 : 2 * (m + P * d) + c = (2 * m + c) % P + P * (2 * d + x) := by
    rw [Nat.mul_add P, Nat.mul_comm P x]
    have : 2 * (P * d) = P * (2 * d) := by rw [← Nat.mul_assoc, Nat.mul_comm 2 P, Nat.mul_assoc]
    omega
  rw [h1, Nat.add_mul_div_left _ _ (by omega), Nat.div_eq_of_lt (Nat.mod_lt _ hP)]
  omega

theorem cry_div (v c k : Nat) : (2 * (v % 10 ^ (k + 1)) + c) / 10 ^ k = 2 * dgt v k + cry v c k := by
  have hp : 1 ≤ 10 ^ k := Nat.one_le_pow _ _ (by decide)
  rw [Nat.mod_pow_succ]
  refine step10 hp ?_
  show _ = (2 * (v % 10 ^ k) + c) / 10 ^ k * 10 ^ k + _
  rw [Nat.mul_comm ((2 * (v % 10 ^ k) + c) / 10 ^ k)]
  exact (Nat.div_add_mod _ _).symm

theorem cry_succ (v c k : Nat) : cry v c (k + 1) = (2 * dgt v k + cry v c k) / 10 := by
  rw [← cry_div, Nat.div_div_eq_div_mul, ← Nat.pow_succ]; rfl

theorem dgt_dbl (v c k : Nat) : dgt (2 * v + c) k = (2 * dgt v k + cry v c k) % 10 := by
  have hp : 1 ≤ 10 ^ k := Nat.one_le_pow _ _ (by decide)
  rw [← cry_div]
  unfold dgt
  have e : 2 * v + c = 2 * (v % 10 ^ (k + 1)) + c + 10 ^ k * (10 * (2 * (v / 10 ^ (k + 1)))) := by
    have h := Nat.div_add_mod v (10 ^ (k + 1))
    rw [← Nat.mul_assoc, ← Nat.pow_succ, ← Nat.mul_assoc, Nat.mul_comm (10 ^ (k + 1)) 2, Nat.mul_assoc]
    omega
  rw [e, Nat.add_mul_div_left _ _ (by omega), Nat.add_mul_mod_self_left]

theorem cry_end {v n : Nat} (c : Nat) (h : v < 10 ^ n) : cry v c n = (2 * v + c) / 10 ^ n := by unfold cry; rw [Nat.mod_eq_of_lt h]

theorem pow_le_nd {v : Nat} (h : 0 < v) : 10 ^ (nDigits v - 1) ≤ v := by
  induction v using Nat.strongRecOn with
  | _ v ih =>
    by_cases h1 : v < 10
    · rw [nDigits_small h1]; simp; omega
    · rw [nDigits_big h1]
      have := ih (v / 10) (by omega) (by omega)
      have hn := nDigits_pos (v / 10)
      rw [show nDigits (v / 10) + 1 - 1 = (nDigits (v / 10) - 1) + 1 by omega, Nat.pow_succ]
      omega

/-- With a carry at the end there is one digit more. -/
theorem nd_more {v c : Nat} (hc : c ≤ 1) (h : 0 < cry v c (nDigits v)) : nDigits (2 * v + c) = nDigits v + 1 ∧ dgt (2 * v + c) (nDigits v) = cry v c (nDigits v) := by
  have hl := lt_pow_nDigits v
  have h1 := cry_le hc (v := v) (nDigits v)
  have hp : 1 ≤ 10 ^ nDigits v := Nat.one_le_pow _ _ (by decide)
  rw [cry_end c hl] at h h1 ⊢
  have h2 : 10 ^ nDigits v ≤ 2 * v + c := by
    rcases Nat.lt_or_ge (2 * v + c) (10 ^ nDigits v) with h3 | h3
    · rw [Nat.div_eq_of_lt h3] at h; omega
    · exact h3
  refine ⟨nDigits_unique _ _ h2 (by rw [Nat.pow_succ]; omega), ?_⟩
  unfold dgt
  exact Nat.mod_eq_of_lt (by omega)

theorem nd_same {v c : Nat} (hc : c ≤ 1) (h : cry v c (nDigits v) = 0) : nDigits (2 * v + c) = nDigits v := by
  have hl := lt_pow_nDigits v
  have hp : 1 ≤ 10 ^ nDigits v := Nat.one_le_pow _ _ (by decide)
  rw [cry_end c hl] at h
  have h2 : 2 * v + c < 10 ^ nDigits v := by
    rcases Nat.lt_or_ge (2 * v + c) (10 ^ nDigits v) with h3 | h3
    · exact h3
    · have := Nat.div_pos h3 hp; omega
  by_cases h0 : v = 0
  · subst h0
    rw [nDigits_small (by omega), nDigits_small (by omega)]
  · have h3 := pow_le_nd (v := v) (by omega)
    have h4 := nDigits_pos v
    have := nDigits_unique (nDigits v - 1) (2 * v + c) (by omega) (by rw [show nDigits v - 1 + 1 = nDigits v by omega]; exact h2)
    omega

theorem nd_lim {v k : Nat} (h : v < 2 ^ k) : nDigits v ≤ k + 1 := by
  induction k generalizing v with
  | zero => rw [nDigits_small (by simp at h; omega)]; omega
  | succ k ih =>
    by_cases h1 : v < 10
    · rw [nDigits_small h1]; omega
    · rw [nDigits_big h1]
      have := ih (v := v / 10) (by rw [Nat.pow_succ] at h; omega)
      omega

/-- The numeral in the digits. -/
theorem dd_dgt (v : Nat) : decDigits v = (List.range (nDigits v)).map fun t => UInt8.ofNat (48 + dgt v (nDigits v - 1 - t)) := decDigits_eq v

end Go.Proofs.YtabemlkdpgglaaaDoor

namespace Go.Proofs.YtabemlkdpgglaaaDoor
open Go.RowKit

theorem Tryd.info5 : (Tryd.prog.info? 5).map (fun i => (i.zero, i.size, i.bytes)) = some (some (.int .u8 0), 1, 1) := by kernel_rfl

/-- The cells of a row of bytes. -/
def yl (X : Nat → Nat) (m : Nat) : List Value := (List.range m).map fun j => .int .u8 (X j)
theorem yl_len (X : Nat → Nat) (m : Nat) : (yl X m).length = m := by simp [yl]
theorem yl_succ (X : Nat → Nat) (m : Nat) : yl X (m + 1) = yl X m ++ [.int .u8 (X m)] := by simp [yl, List.range_succ]
theorem yl_get (X : Nat → Nat) (m j : Nat) (h : j < m) : (yl X m)[j]? = some (.int .u8 (X j)) := by simp [yl, h]
theorem yl_congr {B C : Nat → Nat} {m : Nat} (h : ∀ j, j < m → B j = C j) : yl B m = yl C m := by
  unfold yl
  exact List.map_congr_left (fun j hj => by rw [h j (List.mem_range.1 hj)])
theorem yl_upd (X : Nat → Nat) (m x : Nat) : yl (upd X m x) (m + 1) = yl X m ++ [.int .u8 x] := by
  rw [yl_succ, upd_same, yl_congr (fun j hj => upd_other _ _ _ _ (show j ≠ m by omega))]

theorem ownY_some {w : World} {base : Nat} {v : Value} {m : Nat} {X : Nat → Nat} (h : w.ownsRow base 5 1 v m (yl X m)) (hv : v ≠ .slice none 0 0) :
    ∃ g cap, v = .slice (some ⟨g, 0, none⟩) m cap ∧ m ≤ cap ∧ base ≤ g ∧ g < w.heap.size ∧ (∀ j, j < m → w.cell? ⟨g, j, none⟩ = some (.int .u8 (X j))) ∧ (∀ o, w.frozen? ⟨g, o, none⟩ = false) := by
  have hc := @World.ownsRow.cells _ _ _ _ _ _ _ h
  rcases h.2 with ⟨rfl, rfl⟩ | ⟨g, cap, cur, rfl, hb, hg, hm, _⟩
  · exact absurd rfl hv
  · refine ⟨g, cap, rfl, hm, hb, (Array.getElem?_eq_some_iff.1 hg).1, fun j hj => ?_, fun o => by simp [World.frozen?, hg]⟩
    have := hc (g := g) rfl j _ (yl_get X m j hj)
    rw [Addr.add_lit] at this
    simpa using this

theorem ownY_set {w : World} {base g n cap : Nat} {V : Nat → Nat} (h : w.ownsRow base 5 1 (.slice (some ⟨g, 0, none⟩) n cap) n (yl V n)) (i x : Nat) (E : Int) (hE : E = (x : Int)) :
    (w.setCell ⟨g, i, none⟩ (.int .u8 E)).ownsRow base 5 1 (.slice (some ⟨g, 0, none⟩) n cap) n (yl (upd V i x) n) := by
  subst hE
  obtain ⟨hl, h | ⟨g', cap', cur, e, hb, hh, hn, hm, hs, ht⟩⟩ := h
  · cases h.1
  · cases e
    have r : w.rowIs g 5 cap (fun j => cur[j]?.getD (.bool false)) := ⟨cur, hh, by simpa using hs, fun j hj => by
      show cur[j]? = some (cur[j]?.getD (.bool false)); rw [Array.getElem?_eq_getElem (by omega)]; rfl⟩
    obtain ⟨c2, k1, k2, k3⟩ := r.set i (.int .u8 x)
    refine ⟨by simp [yl], Or.inr ⟨g, cap, c2, rfl, hb, k1, hn, hm, by simpa using k2, ?_⟩⟩
    apply List.ext_getElem?
    intro j
    rw [Nat.mul_one] at ht ⊢
    by_cases hj : j < n
    · rw [List.getElem?_take_of_lt hj, Array.getElem?_toList, k3 j (by omega)]
      have h2 : (yl V n)[j]? = cur[j]? := by rw [← ht, List.getElem?_take_of_lt hj, Array.getElem?_toList]
      simp only [yl, List.getElem?_map, List.getElem?_range hj, Option.map_some] at h2 ⊢
      by_cases e : j = i
      · subst e; simp [upd_same]
      · rw [if_neg e, upd_other _ _ _ _ e, ← h2]; rfl
    · rw [List.getElem?_eq_none (by simp; omega), List.getElem?_eq_none (by simp [yl]; omega)]

/-- A row of bytes is the bytes of a list. -/
theorem yl_bytes {l : List UInt8} {X : Nat → Nat} (h : ∀ j (hj : j < l.length), X j = (l[j]'hj).toNat) : yl X l.length = Lib.byteCells l := by
  unfold yl Lib.byteCells
  apply List.ext_getElem
  · simp
  · intro j h1 h2
    simp at h1
    simp [h j h1]

end Go.Proofs.YtabemlkdpgglaaaDoor

namespace Go.Proofs.YtabemlkdpgglaaaDoor
open Go.RowKit

/-- The value of the bits from k on. -/
def tv (B : Nat → Bool) (n k : Nat) : Nat := bv (fun j => B (k + j)) (n - k)
theorem tv_all (B : Nat → Bool) (n : Nat) : tv B n 0 = bv B n := bv_congr (fun j _ => by rw [Nat.zero_add])
theorem tv_none (B : Nat → Bool) (n : Nat) : tv B n n = 0 := by simp [tv, bv]
theorem tv_step (B : Nat → Bool) {n k : Nat} (h : k < n) : tv B n k = 2 * tv B n (k + 1) + (B k).toNat := by
  unfold tv
  rw [show n - k = (n - (k + 1)) + 1 by omega, bv_front]
  congr 1
  congr 1
  exact bv_congr (fun j _ => by rw [show k + (j + 1) = k + 1 + j by omega])
theorem tv_lt (B : Nat → Bool) (n k : Nat) : tv B n k < 2 ^ n := Nat.lt_of_lt_of_le (bv_lt _ _) (Nat.pow_le_pow_right (by omega) (by omega))

/-- The digits when j of them have been doubled. -/
def DblI (V c : Nat) (D : Nat → Nat) (j : Nat) : Prop := ∀ q, D q = if q < j then dgt (2 * V + c) q else dgt V q

theorem dblI_start (V c : Nat) : DblI V c (dgt V) 0 := fun q => by simp
theorem dblI_step {V c j x y : Nat} {D : Nat → Nat} (h : DblI V c D j) (hx : D j = x) (hy : y = (2 * x + cry V c j) % 10) : DblI V c (upd D j y) (j + 1) := by
  intro q
  by_cases e : q = j
  · subst e
    rw [upd_same, if_pos (by omega), dgt_dbl, hy, ← hx, h q, if_neg (by omega)]
  · rw [upd_other _ _ _ _ e, h q]
    by_cases h1 : q < j
    · rw [if_pos h1, if_pos (by omega)]
    · rw [if_neg h1, if_neg (by omega)]
theorem dblI_at {V c j : Nat} {D : Nat → Nat} (h : DblI V c D j) : D j = dgt V j := by rw [h j, if_neg (by omega)]
theorem dblI_end {V c m : Nat} {D : Nat → Nat} (h : DblI V c D m) : ∀ q, q < m → D q = dgt (2 * V + c) q := fun q hq => by rw [h q, if_pos hq]

theorem dd_row (V : Nat) : yl (fun t => 48 + dgt V (Lib.nDigits V - 1 - t)) (Lib.nDigits V) = Lib.byteCells (Lib.decDigits V) := by
  rw [dd_dgt]
  unfold yl Lib.byteCells
  rw [List.map_map]
  refine List.map_congr_left fun t _ => ?_
  have hd := dgt_lt V (Lib.nDigits V - 1 - t)
  simp only [Function.comp, UInt8.toNat_ofNat']
  rw [Nat.mod_eq_of_lt (by omega)]

/-- string(out) of a row of bytes of its own. -/
theorem ownB_string {w : World} {base : Nat} {v : Value} {m : Nat} {l : List UInt8} (h : w.ownsRow base 5 1 v m (Lib.byteCells l)) (hv : v ≠ .slice none 0 0) (hl : m = l.length) :
    ∃ g cap, v = .slice (some ⟨g, 0, none⟩) m cap ∧ (convert 22 9 (.slice (some ⟨g, 0, none⟩) m cap)).run Tryd.prog w = .ok (.string ⟨l.toArray⟩) w := by
  subst hl
  have hc := @World.ownsRow.cells _ _ _ _ _ _ _ h
  rcases h.2 with ⟨rfl, -⟩ | ⟨g, cap, cur, rfl, hb, hg, hm, _⟩
  · exact absurd rfl hv
  · refine ⟨g, cap, rfl, run_convert_bytes_back w 22 9 5 ⟨g, 0, none⟩ cap l Tryd.underlying22 Tryd.underlying5 Tryd.underlying9 (fun j hj => ?_)⟩
    exact hc (g := g) rfl j _ (by simp [Lib.byteCells, hj])

set_option maxHeartbeats 6400000 in
set_option maxRecDepth 100000 in
theorem l1Decimal_any (a : Option Addr) (b off n cap : Nat) (B : Nat → Bool) (w : World) (hn : n ≤ 134217728) (hB : Bits w a b off n B) :
    Calls Tryd.prog 74 #[.slice a n cap] w fun e w' => e = .returned (.string ⟨(Lib.decDigits (bv B n)).toArray⟩) ∧ w.Since w.heap.size w' := by
  obtain ⟨i0, hi, hz0, hz1, hz2⟩ := info_parts Tryd.info5
  go_enter Tryd.func74, Tryd.ntmps74
  have hA0 : (w.alloc (.cells #[.int .u8 0] 5)).ownsRow w.heap.size 5 1 (.slice (some ⟨w.heap.size, 0, none⟩) 1 1) 1 (yl (dgt 0) 1) := own_one w w.heap.size (.int .u8 0) 5 (Nat.le_refl _)
  have HE0 := hide (tv_none B n)
  go_wp2
  go_loopw [3, 4] (fun v t wr => ∃ (k m V : Nat) (z : Int), k ≤ n ∧ t = .int .i64 z ∧ Hid (z = (k : Int) - 1) ∧ Hid (v ≠ .slice none 0 0) ∧ wr.ownsRow w.heap.size 5 1 v m (yl (dgt V) m) ∧ w.Since w.heap.size wr ∧ Hid (V = tv B n k ∧ m = Lib.nDigits V)) (fun _ t _ => (intOf t + 1).toNat)
  case atStart => exact ⟨n, 1, 0, (n : Int) - 1, Nat.le_refl _, rfl, hide rfl, hide (by simp), hA0, (World.Since.refl _ _).alloc (Nat.le_refl _) _, hide ⟨HE0.out.symm, (Lib.nDigits_small (by omega)).symm⟩⟩
  case round =>
    clear hA0
    obtain ⟨k, m, V, z, hk, rfl, HZ, HN, hown, hs, HV⟩ := hrel
    have hm : m ≤ 134217729 := by
      have h1 := nd_lim (tv_lt B n k)
      have h2 := HV.out.1
      have h3 := HV.out.2
      rw [← h2, ← h3] at h1
      omega
    by_cases h0 : 0 < k
    · have hzk : z = ((k - 1 : Nat) : Int) := by have := HZ.out; omega
      clear HZ
      subst hzk
      have hzp : (0 : Int) ≤ ((k - 1 : Nat) : Int) := by omega
      obtain ⟨rfl, hc⟩ := hB (k - 1) (by omega)
      have g0 : wr.cell? ⟨b, off + (k - 1), none⟩ = some (.bool (B (k - 1))) := by rw [hs.cell (a := ⟨b, off + (k - 1), none⟩) (hB.lt (by omega))]; exact hc
      clear hc
      have HS := hide (tv_step B (show k - 1 < n by omega))
      obtain ⟨x, hx⟩ : ∃ x, x = B (k - 1) := ⟨_, rfl⟩
      rw [← hx] at g0 HS
      clear hx
      obtain ⟨g, cap1, rfl, hmc, hg, hgl, -, -⟩ := ownY_some hown HN.out
      obtain ⟨c, hc⟩ : ∃ c, c = x.toNat := ⟨_, rfl⟩
      have hc1 : c ≤ 1 := by rw [hc]; cases x <;> decide
      have HS2 := HS.out
      rw [← hc, show k - 1 + 1 = k by omega, ← HV.out.1] at HS2
      have HC := hide hc
      clear HS hc
      have HS := hide HS2
      clear HS2
      cases x
      · go_wp2
        go_loopw [5, 6] (fun q t wr2 => ∃ (j cb : Nat) (D : Nat → Nat), j ≤ m ∧ t = .int .i64 j ∧ q = .int .u8 cb ∧ cb ≤ 1 ∧ Hid (cb = cry V c j) ∧ wr2.ownsRow w.heap.size 5 1 (.slice (some ⟨g, 0, none⟩) m cap1) m (yl D m) ∧ w.Since w.heap.size wr2 ∧ Hid (DblI V c D j)) (fun _ t _ => m - (intOf t).toNat)
        case atStart => exact ⟨0, c, dgt V, Nat.zero_le _, rfl, by rw [HC.out]; rfl, hc1, hide (cry_zero V c).symm, hown, hs, hide (dblI_start V c)⟩
        case round =>
          clear hown hs g0
          obtain ⟨j, cb, D, hj, rfl, rfl, hcb, HCB, hown, hs, HD⟩ := hrel
          by_cases hjm : j < m
          · obtain ⟨g', cap2, e, -, -, -, hc, hf⟩ := ownY_some hown (by simp)
            cases e
            have g1 := hc j hjm
            have f1 := hf j
            have hx9 : D j ≤ 9 := by rw [dblI_at HD.out]; have := dgt_lt V j; omega
            have HSt := hide (fun (y : Nat) => dblI_step (y := y) HD.out rfl)
            rw [← HCB.out] at HSt
            have HCs := hide (cry_succ V c j)
            rw [← HCB.out, ← dblI_at HD.out] at HCs
            obtain ⟨d, hd⟩ : ∃ d, d = D j := ⟨_, rfl⟩
            rw [← hd] at g1 hx9 HSt HCs
            clear hd hc hf HCB
            have hji : (j : Int) < (m : Int) := by omega
            go_wp2
            go_roundw
            case rel => go_light; exact ⟨j + 1, (2 * d + cb) / 10, _, by omega, by go_num, congrArg (Value.int .u8) (by omega), by omega, hide HCs.out.symm, ownY_set hown j ((2 * d + cb) % 10) _ (by omega), hs.setCell hg _, hide (HSt.out _ rfl)⟩
            case measure => simp [intOf] <;> omega
          · have e : j = m := by omega
            subst e
            have HD2 := hide (dblI_end HD.out)
            clear HD
            have hrow := hown
            rw [yl_congr HD2.out] at hrow
            have hHV := HV.out
            rcases Nat.eq_zero_or_pos cb with h2 | h2
            · subst h2
              have HM := hide (nd_same hc1 (by rw [← hHV.2]; exact HCB.out.symm))
              clear hHV
              go_wp2
              go_roundw
              case rel => exact ⟨k - 1, j, 2 * V + c, ((k - 1 : Nat) : Int) - 1, by omega, by go_num, hide rfl, hide (by simp), hrow, hs, hide ⟨HS.out.symm, by rw [HM.out]; exact HV.out.2⟩⟩
              case measure => simp [intOf] <;> omega
            · have hcp : ((0 : Int) < (cb : Int)) := by omega
              have HM := hide (nd_more hc1 (by rw [← hHV.2, ← HCB.out]; exact h2))
              clear hHV
              have hsz := hs.size
              go_wp2_with (at_builtin; refine wpList_append_own _ rfl _ _ 22 rfl w.heap.size 5 i0 (.int .u8 0) 1 1 Tryd.underlying22 hi hz0 hz1 hz2 rfl (by decide) _ _ _ rfl (hrow.alloc _) ⟨wr.heap.size, 0, none⟩ 1 1 [.int .u8 cb] rfl rfl (new_cell _ _ _) (one_one _ rfl) (by unfold maxLen; omega) (by omega) (by simp; omega) ?_)
              intro v' w1 hown' hgrow hnn
              have hs1 : w.Since w.heap.size w1 := (hs.alloc hs.size _).grown hgrow (by simp; omega) (fun k hk => (hrow.lt k hk).1)
              have HN' := hide hnn
              have hown2 : w1.ownsRow w.heap.size 5 1 v' (j + 1) (yl (dgt (2 * V + c)) (j + 1)) := by
                rw [yl_succ, show dgt (2 * V + c) j = cb from by rw [HCB.out, HV.out.2]; exact HM.out.2]
                exact hown'
              clear hown' hgrow hnn hown hrow hs HN
              go_wp2
              go_roundw
              case rel => exact ⟨k - 1, j + 1, 2 * V + c, ((k - 1 : Nat) : Int) - 1, by omega, by go_num, hide rfl, HN', hown2, hs1, hide ⟨HS.out.symm, by rw [HM.out.1, ← HV.out.2]⟩⟩
              case measure => simp [intOf] <;> omega
      · go_wp2
        go_loopw [5, 6] (fun q t wr2 => ∃ (j cb : Nat) (D : Nat → Nat), j ≤ m ∧ t = .int .i64 j ∧ q = .int .u8 cb ∧ cb ≤ 1 ∧ Hid (cb = cry V c j) ∧ wr2.ownsRow w.heap.size 5 1 (.slice (some ⟨g, 0, none⟩) m cap1) m (yl D m) ∧ w.Since w.heap.size wr2 ∧ Hid (DblI V c D j)) (fun _ t _ => m - (intOf t).toNat)
        case atStart => exact ⟨0, c, dgt V, Nat.zero_le _, rfl, by rw [HC.out]; rfl, hc1, hide (cry_zero V c).symm, hown, hs, hide (dblI_start V c)⟩
        case round =>
          clear hown hs g0
          obtain ⟨j, cb, D, hj, rfl, rfl, hcb, HCB, hown, hs, HD⟩ := hrel
          by_cases hjm : j < m
          · obtain ⟨g', cap2, e, -, -, -, hc, hf⟩ := ownY_some hown (by simp)
            cases e
            have g1 := hc j hjm
            have f1 := hf j
            have hx9 : D j ≤ 9 := by rw [dblI_at HD.out]; have := dgt_lt V j; omega
            have HSt := hide (fun (y : Nat) => dblI_step (y := y) HD.out rfl)
            rw [← HCB.out] at HSt
            have HCs := hide (cry_succ V c j)
            rw [← HCB.out, ← dblI_at HD.out] at HCs
            obtain ⟨d, hd⟩ : ∃ d, d = D j := ⟨_, rfl⟩
            rw [← hd] at g1 hx9 HSt HCs
            clear hd hc hf HCB
            have hji : (j : Int) < (m : Int) := by omega
            go_wp2
            go_roundw
            case rel => go_light; exact ⟨j + 1, (2 * d + cb) / 10, _, by omega, by go_num, congrArg (Value.int .u8) (by omega), by omega, hide HCs.out.symm, ownY_set hown j ((2 * d + cb) % 10) _ (by omega), hs.setCell hg _, hide (HSt.out _ rfl)⟩
            case measure => simp [intOf] <;> omega
          · have e : j = m := by omega
            subst e
            have HD2 := hide (dblI_end HD.out)
            clear HD
            have hrow := hown
            rw [yl_congr HD2.out] at hrow
            have hHV := HV.out
            rcases Nat.eq_zero_or_pos cb with h2 | h2
            · subst h2
              have HM := hide (nd_same hc1 (by rw [← hHV.2]; exact HCB.out.symm))
              clear hHV
              go_wp2
              go_roundw
              case rel => exact ⟨k - 1, j, 2 * V + c, ((k - 1 : Nat) : Int) - 1, by omega, by go_num, hide rfl, hide (by simp), hrow, hs, hide ⟨HS.out.symm, by rw [HM.out]; exact HV.out.2⟩⟩
              case measure => simp [intOf] <;> omega
            · have hcp : ((0 : Int) < (cb : Int)) := by omega
              have HM := hide (nd_more hc1 (by rw [← hHV.2, ← HCB.out]; exact h2))
              clear hHV
              have hsz := hs.size
              go_wp2_with (at_builtin; refine wpList_append_own _ rfl _ _ 22 rfl w.heap.size 5 i0 (.int .u8 0) 1 1 Tryd.underlying22 hi hz0 hz1 hz2 rfl (by decide) _ _ _ rfl (hrow.alloc _) ⟨wr.heap.size, 0, none⟩ 1 1 [.int .u8 cb] rfl rfl (new_cell _ _ _) (one_one _ rfl) (by unfold maxLen; omega) (by omega) (by simp; omega) ?_)
              intro v' w1 hown' hgrow hnn
              have hs1 : w.Since w.heap.size w1 := (hs.alloc hs.size _).grown hgrow (by simp; omega) (fun k hk => (hrow.lt k hk).1)
              have HN' := hide hnn
              have hown2 : w1.ownsRow w.heap.size 5 1 v' (j + 1) (yl (dgt (2 * V + c)) (j + 1)) := by
                rw [yl_succ, show dgt (2 * V + c) j = cb from by rw [HCB.out, HV.out.2]; exact HM.out.2]
                exact hown'
              clear hown' hgrow hnn hown hrow hs HN
              go_wp2
              go_roundw
              case rel => exact ⟨k - 1, j + 1, 2 * V + c, ((k - 1 : Nat) : Int) - 1, by omega, by go_num, hide rfl, HN', hown2, hs1, hide ⟨HS.out.symm, by rw [HM.out.1, ← HV.out.2]⟩⟩
              case measure => simp [intOf] <;> omega
    · have hzk : z = -1 := by have := HZ.out; omega
      clear HZ
      subst hzk
      have k0 : k = 0 := by omega
      subst k0
      have HVV := hide (HV.out.1.trans (tv_all B n))
      have HMM := hide HV.out.2
      clear HV
      obtain ⟨g, cap1, rfl, hmc, hg, hgl, hcl, -⟩ := ownY_some hown HN.out
      clear HN hown hB
      have hm1 : 1 ≤ m := by have := Lib.nDigits_pos V; rw [HMM.out]; exact this
      generalize wr = w3 at *
      have sA : w3.Since w3.heap.size (w3.alloc (.cells #[] 5)) := (World.Since.refl _ _).alloc (Nat.le_refl _) _
      have hA1 : (w3.alloc (.cells #[] 5)).ownsRow w3.heap.size 5 1 (.slice (some ⟨w3.heap.size, 0, none⟩) 0 0) 0 [] := World.ownsRow_made w3 #[] 0 (Nat.le_refl _) (by decide) rfl
      go_wp2
      go_loopw [8, 9] (fun v t wr2 => ∃ (k : Nat) (z : Int), k ≤ m ∧ t = .int .i64 z ∧ Hid (z = (k : Int) - 1) ∧ Hid (v ≠ .slice none 0 0) ∧ wr2.ownsRow w3.heap.size 5 1 v (m - k) (yl (fun q => 48 + dgt V (m - 1 - q)) (m - k)) ∧ w3.Since w3.heap.size wr2) (fun _ t _ => (intOf t + 1).toNat)
      case atStart => exact ⟨m, (m : Int) - 1, Nat.le_refl _, rfl, hide rfl, hide (by simp), by rw [Nat.sub_self]; exact hA1, sA⟩
      case round =>
        clear sA hA1
        obtain ⟨k, z, hk, rfl, HZ, HN, hown, hs2⟩ := hrel
        by_cases h1 : 0 < k
        · have hzk : z = ((k - 1 : Nat) : Int) := by have := HZ.out; omega
          clear HZ
          subst hzk
          have hzp : (0 : Int) ≤ ((k - 1 : Nat) : Int) := by omega
          have g1 : wr.cell? ⟨g, k - 1, none⟩ = some (.int .u8 (dgt V (k - 1))) := by rw [hs2.cell (a := ⟨g, k - 1, none⟩) hgl]; exact hcl (k - 1) (by omega)
          have HDG : Hid (dgt V (m - 1 - (m - k)) = dgt V (k - 1)) := by rw [show m - 1 - (m - k) = k - 1 by omega]; rfl
          have hd9 := dgt_lt V (k - 1)
          obtain ⟨d, hd⟩ : ∃ d, d = dgt V (k - 1) := ⟨_, rfl⟩
          rw [← hd] at g1 hd9 HDG
          clear hd
          have hsz := hs2.size
          have hkm : ((k - 1 : Nat) : Int) < (m : Int) := by omega
          have hwr : IntKind.u8.wrap (48 + (d : Int)) = ((48 + d : Nat) : Int) := by rw [IntKind.wrap_u8]; omega
          go_wp2_with (at_builtin; refine wpList_append_own _ rfl _ _ 22 rfl w3.heap.size 5 i0 (.int .u8 0) 1 1 Tryd.underlying22 hi hz0 hz1 hz2 rfl (by decide) _ _ _ rfl (hown.alloc _) ⟨wr.heap.size, 0, none⟩ 1 1 [.int .u8 _] rfl rfl (new_cell _ _ _) (one_one _ rfl) (by unfold maxLen; omega) (by omega) (by simp; omega) ?_)
          intro v' w1 hown' hgrow hnn
          have hs1 : w3.Since w3.heap.size w1 := (hs2.alloc hs2.size _).grown hgrow (by simp; omega) (fun k hk => (hown.lt k hk).1)
          have HN' := hide hnn
          have hown2 : w1.ownsRow w3.heap.size 5 1 v' (m - (k - 1)) (yl (fun q => 48 + dgt V (m - 1 - q)) (m - (k - 1))) := by
            rw [show m - (k - 1) = (m - k) + 1 by omega, yl_succ, HDG.out]
            exact hown'
          clear hown' hgrow hnn hown hs2 HN
          go_wp2
          go_roundw
          case rel => exact ⟨k - 1, ((k - 1 : Nat) : Int) - 1, by omega, by go_num, hide rfl, HN', hown2, hs1⟩
          case measure => simp [intOf] <;> omega
        · have hzk : z = -1 := by have := HZ.out; omega
          clear HZ
          subst hzk
          have k0 : k = 0 := by omega
          subst k0
          rw [Nat.sub_zero] at hown
          have HR := hide (dd_row V)
          rw [← HMM.out] at HR
          rw [HR.out] at hown
          have hcv := ownB_string hown HN.out (by rw [Lib.decDigits_length]; exact HMM.out)
          rw [HVV.out] at hcv
          obtain ⟨g2, cap2, rfl, hcv⟩ := hcv
          have hs3 := hs.trans (sinceMono hs2 hs.size)
          clear hown hs2 HN
          go_wp2
          go_ret
          exact ⟨rfl, hs3⟩

end Go.Proofs.YtabemlkdpgglaaaDoor

namespace Go.Proofs.YtabemlkdpgglaaaDoor
open Go.Shelf Go.RowKit Go.Sort Go.Lib

/-- The table of the powers of ten. -/
def Pow (w : World) : Prop := Lib.TabIs Tryd.prog w "internal/strconv.uint64pow10" .u64 Lib.pow10Tab

theorem Pow.stay {w w' : World} (h : Pow w) (s : w.Since w.heap.size w') : Pow w' := tabBelow_of_tabIs h w' ⟨s.os, s.tape, s.output, s.size, s.block⟩

theorem since_of_below {B : Nat} {w w' : World} (h : Below B w w') : w.Since B w' := ⟨h.os, h.tape, h.output, h.size, h.block⟩

set_option maxHeartbeats 6400000 in
set_option maxRecDepth 100000 in
/-- internal/strconv.FormatUint at base 10. -/
theorem formatUint0_any (u : Nat) (hu64 : u < 18446744073709551616) (w : World) (htab : Pow w) :
    Calls Tryd.prog 98 #[.int .u64 u, .int .i64 10] w fun e w' => e = .returned (.string ⟨(Lib.decDigits u).toArray⟩) ∧ w.Since w.heap.size w' := by
  by_cases hs : u < 100
  · go_enter Tryd.func98, Tryd.ntmps98
    go_wp2_with fail
    refine (Tryd.internal_strconv_small u hs _).mono ?_
    rintro e w' ⟨rfl, rfl⟩
    go_wp2
    go_ret
    exact ⟨rfl, World.Since.refl _ _⟩
  · have hu1 : 1 ≤ u := by omega
    have hnd20 : Lib.nDigits u ≤ 20 := by have := Lib.numDigits_eq u hu1 hu64; split at this <;> omega
    have hal : (Tryd.prog).arrayLen 116 = 24 := by simp [Program.arrayLen, Tryd.underlying116]
    have hsl : ∀ W, (Instr.sliceAt 116 (.pointer (some ⟨w.heap.size, 0, none⟩)) none (some (.int .i64 (Lib.nDigits u : Int))) none).run Tryd.prog W = .ok (.slice (some ⟨w.heap.size, 0, none⟩) (Lib.nDigits u) 24) W := fun W => by
      rw [run_sliceAt_array_h W 116 ⟨w.heap.size, 0, none⟩ (by simp [Program.arrayLen, Program.elem, Tryd.underlying116]) .i64 (Lib.nDigits u : Int) (by omega) (by rw [hal]; omega)]
      go_simp
    have hH0 := Lib.holds_zero0 w 116 (Lib.nDigits u) (by omega)
    have hfmt := Tryd.internal_strconv_formatBase10 w.heap.size 0 24 u (Array.replicate (Lib.nDigits u) 0) (w.alloc (.cells Lib.zeros24 116)) hH0 (by rw [Array.size_replicate]; exact Lib.lt_pow_nDigits u) hu64 (by rw [Array.size_replicate]; omega)
    rw [Array.size_replicate] at hfmt
    have HH0 := Lib.hid hH0
    have iu : (100 : Int) ≤ (u : Int) := by omega
    clear hH0 hal
    go_enter Tryd.func98, Tryd.ntmps98
    go_wp2_with fail
    refine (Tryd.internal_strconv_numDigits u hu1 hu64 _ (Lib.tabIs_alloc htab _)).mono ?_
    rintro e w' ⟨rfl, rfl⟩
    go_wp2_with fail
    refine hfmt.mono ?_
    rintro e w' ⟨rfl, k, v', dk, rfl, hF⟩
    have hcv : (convert 22 9 (.slice (some ⟨w.heap.size, 0, none⟩) (Lib.nDigits u) 24)).run Tryd.prog ((putRow (fun (b : UInt8) => Value.int .u8 (b.toNat : Int)) (w.alloc (.cells Lib.zeros24 116)) w.heap.size 0 dk).drewN k) = .ok (.string ⟨(Lib.decDigits u).toArray⟩) ((putRow (fun (b : UInt8) => Value.int .u8 (b.toNat : Int)) (w.alloc (.cells Lib.zeros24 116)) w.heap.size 0 dk).drewN k) := by
      have h := run_convert_bytes_back (P := Tryd.prog) ((putRow (fun (b : UInt8) => Value.int .u8 (b.toNat : Int)) (w.alloc (.cells Lib.zeros24 116)) w.heap.size 0 dk).drewN k) 22 9 5 ⟨w.heap.size, 0, none⟩ 24 (Lib.decDigits u) Tryd.underlying22 Tryd.underlying5 Tryd.underlying9 (fun j hj => by
        rw [Lib.row_is_numeral hF j hj, Lib.add_plain, World.cell?_drewN]
        exact cell?_putRow (fun (b : UInt8) => Value.int .u8 (b.toNat : Int)) _ w.heap.size 0 _ dk HH0.out (by rw [hF.size, Array.size_replicate]) j (by rw [hF.size]; rw [Lib.decDigits_length] at hj; exact hj))
      rw [Lib.decDigits_length] at h
      exact h
    obtain ⟨os, eo⟩ := Lib.fin_at w (.cells Lib.zeros24 116) dk k 0
    have hS : w.Since w.heap.size ((putRow (fun (b : UInt8) => Value.int .u8 (b.toNat : Int)) (w.alloc (.cells Lib.zeros24 116)) w.heap.size 0 dk).drewN k) := by rw [eo]; exact since_of_below (Lib.below_grow w.heap.size w (Nat.le_refl _) k os)
    generalize (putRow (fun (b : UInt8) => Value.int .u8 (b.toNat : Int)) (w.alloc (.cells Lib.zeros24 116)) w.heap.size 0 dk).drewN k = W2 at hcv hS ⊢
    clear eo HH0 hfmt
    go_wp2
    go_ret
    exact ⟨rfl, hS⟩

set_option maxHeartbeats 800000 in
set_option maxRecDepth 100000 in
theorem formatUint_any (u : Nat) (hu64 : u < 18446744073709551616) (w : World) (htab : Pow w) :
    Calls Tryd.prog 79 #[.int .u64 u, .int .i64 10] w fun e w' => e = .returned (.string ⟨(Lib.decDigits u).toArray⟩) ∧ w.Since w.heap.size w' := by
  go_enter Tryd.func79, Tryd.ntmps79
  go_wp2_with fail
  refine (formatUint0_any u hu64 w htab).mono ?_
  rintro e w' ⟨rfl, s⟩
  go_wp2
  go_ret
  exact ⟨rfl, s⟩

set_option maxHeartbeats 800000 in
set_option maxRecDepth 100000 in
theorem appendUint_any (B n u : Nat) (hu64 : u < 18446744073709551616) (sv : Value) (l : List UInt8) (w : World) (hown : w.ownsRow B 5 1 sv n (Lib.byteCells l)) (hBw : B ≤ w.heap.size) (hlim : n + 20 ≤ 140737488355328) (htab : Pow w) :
    Calls Tryd.prog 78 #[sv, .int .u64 u, .int .i64 10] w fun e w' => ∃ v', e = .returned v' ∧ w'.ownsRow B 5 1 v' (n + (Lib.decDigits u).length) (Lib.byteCells (l ++ Lib.decDigits u)) ∧ w.Since B w' ∧ Lib.OthersKept 5 none w w' := by
  have J : Calls Tryd.prog 97 #[sv, .int .u64 u, .int .i64 10] w fun e w' => ∃ v', e = .returned v' ∧ w'.ownsRow B 5 1 v' (n + (Lib.decDigits u).length) (Lib.byteCells l ++ Lib.byteCells (Lib.decDigits u)) ∧ Below B w w' ∧ Lib.OthersKept 5 none w w' := by
    by_cases h : u < 100
    · exact Tryd.internal_strconv_AppendUint_10_small B n u h sv _ w hown hBw hlim
    · exact Tryd.internal_strconv_AppendUint_10_big B n u (by omega) hu64 sv _ w hown hBw hlim htab
  obtain ⟨a, cap, rfl⟩ : ∃ a cap, sv = .slice a n cap := by
    rcases hown.2 with ⟨rfl, rfl⟩ | ⟨g, cap, cur, rfl, -⟩
    · exact ⟨none, 0, rfl⟩
    · exact ⟨_, cap, rfl⟩
  go_enter Tryd.func78, Tryd.ntmps78
  go_wp2_with fail
  refine J.mono ?_
  rintro e w' ⟨v', rfl, ho, hb, hk⟩
  go_wp2
  go_ret
  exact ⟨v', rfl, by rw [show Lib.byteCells (l ++ Lib.decDigits u) = Lib.byteCells l ++ Lib.byteCells (Lib.decDigits u) from List.map_append]; exact ho, since_of_below hb, hk⟩

end Go.Proofs.YtabemlkdpgglaaaDoor

namespace Go.Proofs.YtabemlkdpgglaaaDoor
open Go.Shelf Go.RowKit Go.Sort Go.Lib

/-- What is left when m chunks are taken. -/
def qv (N m : Nat) : Nat := N / 1000000000 ^ m
theorem qv_zero (N : Nat) : qv N 0 = N := by simp [qv]
theorem qv_succ (N m : Nat) : qv N (m + 1) = qv N m / 1000000000 := by rw [qv, qv, Nat.pow_succ, Nat.div_div_eq_div_mul]
theorem qv_split (N m : Nat) : qv N m = qv N (m + 1) * 1000000000 + qv N m % 1000000000 := by rw [qv_succ]; omega
theorem qv_le (N m : Nat) : qv N m ≤ N := Nat.div_le_self _ _
theorem qv_more {N k m : Nat} (hN : N < 2 ^ k) (h : 0 < qv N m) : m < k + 1 := by
  have h1 : 1000000000 ^ m ≤ N := by
    rcases Nat.lt_or_ge N (1000000000 ^ m) with h2 | h2
    · rw [qv, Nat.div_eq_of_lt h2] at h; omega
    · exact h2
  have h3 : 2 ^ m ≤ 1000000000 ^ m := Nat.pow_le_pow_left (by omega) m
  have h4 : 2 ^ m < 2 ^ k := by omega
  have := (Nat.pow_lt_pow_iff_right (a := 2) (by omega)).1 h4
  omega

/-- The chunks so far. -/
def ChI (N m : Nat) (C : Nat → Nat) : Prop := (∀ j, j < m → C j = qv N j % 1000000000) ∧ (m = 0 ∨ 0 < qv N (m - 1))
theorem chI_step {N m x : Nat} {C : Nat → Nat} (h : ChI N m C) (hp : 0 < qv N m) (hx : x = qv N m % 1000000000) : ChI N (m + 1) (upd C m x) := by
  refine ⟨fun j hj => ?_, Or.inr (by simpa using hp)⟩
  by_cases e : j = m
  · subst e; rw [upd_same]; exact hx
  · rw [upd_other _ _ _ _ e]; exact h.1 j (by omega)

theorem dd_qv {N m : Nat} (h : 0 < qv N (m + 1)) : Lib.decDigits (qv N m) = Lib.decDigits (qv N (m + 1)) ++ (List.replicate (9 - Lib.nDigits (qv N m % 1000000000)) 48 ++ Lib.decDigits (qv N m % 1000000000)) := by
  conv => lhs; rw [qv_split N m]
  exact dd_chunk h (Nat.mod_lt _ (by omega))

theorem qv_up {N k m : Nat} (h : 0 < qv N m) (hk : k ≤ m) : 0 < qv N k := by
  induction m with
  | zero => rw [show k = 0 by omega]; exact h
  | succ m ih =>
    by_cases e : k = m + 1
    · rw [e]; exact h
    · refine ih ?_ (by omega)
      rw [qv_succ] at h
      rcases Nat.eq_zero_or_pos (qv N m) with h0 | h0
      · rw [h0] at h; simp at h
      · exact h0

/-- The number while it is used up. -/
structure DecS (a : Option Addr) (c b t cap : Nat) (w wr : World) (k : Nat) (Q : Nat → Nat) : Prop where
  cell : wr.cell? ⟨c, 0, none⟩ = some (.slice a k cap)
  fz : wr.frozen? ⟨c, 0, none⟩ = false
  limbs : Limbs wr a b 0 k Q
  fb : ∀ o, wr.frozen? ⟨b, o, none⟩ = false
  os : wr.os = w.os
  tape : wr.tape = w.tape
  output : wr.output = w.output
  size : w.heap.size ≤ wr.heap.size
  block : ∀ j, j < w.heap.size → j ≠ c → j ≠ b → wr.heap[j]? = w.heap[j]?
  lc : c < w.heap.size
  lb : b < w.heap.size
  ne : c ≠ b

section
variable {a : Option Addr} {c b t cap k k' : Nat} {w wr w1 w2 : World} {Q Q2 : Nat → Nat}
theorem DecS.since (h : DecS a c b t cap w wr k Q) (s : wr.Since wr.heap.size w1) : DecS a c b t cap w w1 k Q :=
  ⟨(s.cell (a := ⟨c, 0, none⟩) (Nat.lt_of_lt_of_le h.lc h.size)).trans h.cell, (s.frozen (a := ⟨c, 0, none⟩) (Nat.lt_of_lt_of_le h.lc h.size)).trans h.fz, h.limbs.keep s, fun o => (s.frozen (a := ⟨b, o, none⟩) (Nat.lt_of_lt_of_le h.lb h.size)).trans (h.fb o),
    s.os.trans h.os, s.tape.trans h.tape, s.output.trans h.output, Nat.le_trans h.size s.size, fun j h1 h2 h3 => (s.block j (Nat.lt_of_lt_of_le h1 h.size)).trans (h.block j h1 h2 h3), h.lc, h.lb, h.ne⟩
theorem DecS.grown {row : Option Nat} (h : DecS a c b t cap w wr k Q) (g : wr.grownBy w1 row) (hr : ∀ k, row = some k → w.heap.size ≤ k) : DecS a c b t cap w w1 k Q := by
  have hc : some c ≠ row := fun e => by have := hr c e.symm; have := h.lc; omega
  have hb : some b ≠ row := fun e => by have := hr b e.symm; have := h.lb; omega
  have ec := g.block c (Nat.lt_of_lt_of_le h.lc h.size) hc
  have eb := g.block b (Nat.lt_of_lt_of_le h.lb h.size) hb
  exact ⟨(World.cell?_of_block (w := wr) (a := ⟨c, 0, none⟩) ec).trans h.cell, (World.frozen?_of_block (w := wr) (a := ⟨c, 0, none⟩) ec).trans h.fz, fun j hj => ⟨(h.limbs j hj).1, (World.cell?_of_block (w := wr) (a := ⟨b, 0 + j, none⟩) eb).trans (h.limbs j hj).2⟩,
    fun o => (World.frozen?_of_block (w := wr) (a := ⟨b, o, none⟩) eb).trans (h.fb o), g.os.trans h.os, g.tape.trans h.tape, g.output.trans h.output, Nat.le_trans h.size g.size,
    fun j h1 h2 h3 => (g.block j (Nat.lt_of_lt_of_le h1 h.size) (fun e => by have := hr j e.symm; omega)).trans (h.block j h1 h2 h3), h.lc, h.lb, h.ne⟩
theorem DecS.divide (h : DecS a c b t cap w wr k Q) (M : Marked wr w2 b) (L2 : Limbs w2 a b 0 k Q2) (hk : k' ≤ k) : DecS a c b t cap w (w2.setCell ⟨c, 0, none⟩ (.slice a k' cap)) k' Q2 := by
  have M2 := (Marked.refl w2 c).setCell 0 (.slice a k' cap)
  have e0 : w2.cell? ⟨c, 0, none⟩ = some (.slice a k cap) := (M.cell (a := ⟨c, 0, none⟩) h.ne).trans h.cell
  refine ⟨World.cell?_setCell_same _ _ _ e0, ?_, ?_, fun o => ?_, M2.os.trans (M.os.trans h.os), M2.tape.trans (M.tape.trans h.tape), M2.output.trans (M.output.trans h.output), by rw [M2.size, M.size]; exact h.size, fun j h1 h2 h3 => (M2.other j h2).trans ((M.other j h3).trans (h.block j h1 h2 h3)), h.lc, h.lb, h.ne⟩
  · rw [M2.frozen 0, M.frozenO (a := ⟨c, 0, none⟩) h.ne]; exact h.fz
  · exact (L2.marked M2 (fun _ => Ne.symm h.ne)).take hk
  · rw [M2.frozenO (a := ⟨b, o, none⟩) (Ne.symm h.ne), M.frozen o]; exact h.fb o
end

/-- What writing into a row of bytes of its own, a box and its row leaves. -/
structure Kp (base c b : Nat) (w w' : World) : Prop where
  os : w'.os = w.os
  tape : w'.tape = w.tape
  output : w'.output = w.output
  size : w.heap.size ≤ w'.heap.size
  low : ∀ k, k < base → w'.heap[k]? = w.heap[k]?
  keep : ∀ k o, w.heap[k]? = some o → k ≠ c → k ≠ b → (∀ x fz, o ≠ .cells x 5 fz) → w'.heap[k]? = some o

theorem Kp.of {a : Option Addr} {base c b t cap k : Nat} {w wr : World} {Q : Nat → Nat} (h : DecS a c b t cap w wr k Q) (hb : base ≤ w.heap.size) (h1 : base ≤ c) (h2 : base ≤ b) : Kp base c b w wr :=
  ⟨h.os, h.tape, h.output, h.size, fun k hk => h.block k (by omega) (by omega) (by omega), fun k _ hk e1 e2 _ => (h.block k (Array.getElem?_eq_some_iff.1 hk).1 e1 e2).trans hk⟩
theorem Kp.on {base c b : Nat} {w w1 w2 : World} (h : Kp base c b w w1) (s : w1.Since base w2) (k : Lib.OthersKept 5 none w1 w2) : Kp base c b w w2 :=
  ⟨s.os.trans h.os, s.tape.trans h.tape, s.output.trans h.output, Nat.le_trans h.size s.size, fun i hi => (s.block i hi).trans (h.low i hi), fun i o hi e1 e2 e3 => k i o (h.keep i o hi e1 e2 e3) (by simp) e3⟩
theorem Kp.refl (base c b : Nat) (w : World) : Kp base c b w w := ⟨rfl, rfl, rfl, Nat.le_refl _, fun _ _ => rfl, fun _ _ h _ _ _ => h⟩
theorem Kp.since {base c b : Nat} {w w' : World} (h : Kp base c b w w') : w.Since base w' := ⟨h.os, h.tape, h.output, h.size, h.low⟩
theorem kept_since {e : TypeId} {w w' : World} (s : w.Since w.heap.size w') : Lib.OthersKept e none w w' := fun k o hk _ _ => (s.block k (Array.getElem?_eq_some_iff.1 hk).1).trans hk
theorem Kp.new {base c b : Nat} {w w1 w2 : World} (h : Kp base c b w w1) (s : w1.Since w1.heap.size w2) (hb : base ≤ w1.heap.size) : Kp base c b w w2 := h.on (sinceMono s hb) (kept_since s)

/-- The table stays. -/
def PowB (base : Nat) (w : World) : Prop := Lib.TabBelow Tryd.prog base w "internal/strconv.uint64pow10" .u64 Lib.pow10Tab
theorem PowB.on {base : Nat} {w w' : World} (h : PowB base w) (s : w.Since base w') : PowB base w' := Lib.TabBelow.on h ⟨s.os, s.tape, s.output, s.size, s.block⟩
theorem PowB.here {base : Nat} {w : World} (h : PowB base w) : Pow w := Lib.TabBelow.here h

end Go.Proofs.YtabemlkdpgglaaaDoor

namespace Go.Proofs.YtabemlkdpgglaaaDoor
open Go.RowKit

/-- The bytes handed in. -/
def Code (w : World) (a : Option Addr) (b off n : Nat) (X : Nat → Nat) : Prop := ∀ j, j < n → X j < 256 ∧ a = some ⟨b, off, none⟩ ∧ w.cell? ⟨b, off + j, none⟩ = some (.int .u8 (X j))

/-- A reader in its box. -/
structure Rd (w : World) (c : Nat) (a : Option Addr) (b off n cap : Nat) (X : Nat → Nat) : Prop where
  c0 : w.cell? ⟨c, 0, none⟩ = some (.slice a n cap)
  c1 : ∃ p : Nat, p ≤ n ∧ w.cell? ⟨c, 1, none⟩ = some (.int .i64 p)
  f : ∀ k, w.frozen? ⟨c, k, none⟩ = false
  code : Code w a b off n X
  ne : 0 < n → b ≠ c

theorem Code.lt {w : World} {a : Option Addr} {b off n : Nat} {X : Nat → Nat} (h : Code w a b off n X) (h0 : 0 < n) : b < w.heap.size := World.block_lt_of_cell? _ _ (h 0 h0).2.2
theorem Code.oth {w w' : World} {a : Option Addr} {b off n c : Nat} {X : Nat → Nat} (h : Code w a b off n X) (s : Oth c w w') (hne : 0 < n → b ≠ c) : Code w' a b off n X :=
  fun j hj => ⟨(h j hj).1, (h j hj).2.1, (s.cell (a := ⟨b, off + j, none⟩) (h.lt (by omega)) (hne (by omega))).trans (h j hj).2.2⟩
theorem Code.keep {w w' : World} {a : Option Addr} {b off n : Nat} {X : Nat → Nat} (h : Code w a b off n X) (s : w.Since w.heap.size w') : Code w' a b off n X :=
  fun j hj => ⟨(h j hj).1, (h j hj).2.1, (s.cell (a := ⟨b, off + j, none⟩) (h.lt (by omega))).trans (h j hj).2.2⟩
theorem Rd.lt {w : World} {c : Nat} {a : Option Addr} {b off n cap : Nat} {X : Nat → Nat} (h : Rd w c a b off n cap X) : c < w.heap.size := World.block_lt_of_cell? _ _ h.c0
theorem Rd.keep {w w' : World} {c : Nat} {a : Option Addr} {b off n cap : Nat} {X : Nat → Nat} (h : Rd w c a b off n cap X) (s : w.Since w.heap.size w') : Rd w' c a b off n cap X := by
  obtain ⟨p, hp, h1⟩ := h.c1
  exact ⟨(s.cell (a := ⟨c, 0, none⟩) h.lt).trans h.c0, ⟨p, hp, (s.cell (a := ⟨c, 1, none⟩) h.lt).trans h1⟩, fun k => (s.frozen (a := ⟨c, k, none⟩) h.lt).trans (h.f k), h.code.keep s, h.ne⟩

theorem Rd.same {w w' : World} {c : Nat} {a : Option Addr} {b off n cap : Nat} {X : Nat → Nat} (h : Rd w c a b off n cap X) (s : Same w w') : Rd w' c a b off n cap X := h.keep (s.since _)
theorem Oth.ofSame {w w' : World} (c : Nat) (s : Same w w') : Oth c w w' := Oth.ofSince c (s.since _)

theorem Rd.step {w w1 : World} {c : Nat} {a : Option Addr} {b off n cap p : Nat} {X : Nat → Nat} (h : Rd w c a b off n cap X) (hp : p < n) (k1 : w.cell? ⟨c, 1, none⟩ = some (.int .i64 p)) (s : Same w w1) :
    Rd (w1.setCell ⟨c, 1, none⟩ (.int .i64 ((p : Int) + 1))) c a b off n cap X ∧ Oth c w (w1.setCell ⟨c, 1, none⟩ (.int .i64 ((p : Int) + 1))) := by
  have M := (Marked.refl w1 c).setCell 1 (.int .i64 ((p : Int) + 1))
  have O : Oth c w (w1.setCell ⟨c, 1, none⟩ (.int .i64 ((p : Int) + 1))) := (Oth.ofSame c s).trans (Oth.ofMarked M)
  refine ⟨⟨?_, ⟨p + 1, hp, ?_⟩, fun k => ?_, h.code.oth O h.ne, h.ne⟩, O⟩
  · rw [World.cell?_setCell_other _ _ _ _ (by simp), s.cell]; exact h.c0
  · exact World.cell?_setCell_same _ _ _ (by rw [s.cell]; exact k1)
  · rw [M.frozen, s.frozen]; exact h.f k

set_option maxHeartbeats 800000 in
set_option maxRecDepth 100000 in
theorem next_any (c : Nat) (a : Option Addr) (b off n cap : Nat) (X : Nat → Nat) (w : World) (hn : n ≤ 1048576) (R : Rd w c a b off n cap X) :
    Calls Tryd.prog 49 #[.pointer (some ⟨c, 0, none⟩)] w fun e w' => ∃ v : Nat, e = .returned (.int .i64 v) ∧ v < 256 ∧ Rd w' c a b off n cap X ∧ Oth c w w' := by
  have k0 := R.c0
  obtain ⟨p, hp, k1⟩ := R.c1
  have kf := R.f 1
  by_cases hlt : p < n
  · obtain ⟨hx, rfl, kx⟩ := R.code p hlt
    have hlt' : (p : Int) < (n : Int) := by omega
    obtain ⟨x, ex⟩ : ∃ x, x = X p := ⟨_, rfl⟩
    rw [← ex] at kx hx
    clear ex
    go_enter Tryd.func49, Tryd.ntmps49
    go_wp2
    go_quiet (fail)
    go_wp2
    go_quiet (fail)
    go_wp2
    go_ret
    go_light
    exact ⟨x, rfl, hx, R.step hlt k1 ((Same.refl _).drewN _)⟩
  · go_enter Tryd.func49, Tryd.ntmps49
    go_wp2
    go_quiet (fail)
    go_wp2
    go_ret
    exact ⟨0, rfl, by omega, R.same (w' := w.drewN nq) ((Same.refl _).drewN _), Oth.ofSame c ((Same.refl _).drewN _)⟩

set_option maxHeartbeats 800000 in
set_option maxRecDepth 100000 in
theorem left_any (c : Nat) (a : Option Addr) (b off n cap : Nat) (X : Nat → Nat) (w : World) (hn : n ≤ 1048576) (R : Rd w c a b off n cap X) :
    Calls Tryd.prog 106 #[.pointer (some ⟨c, 0, none⟩)] w fun e w' => ∃ v : Nat, e = .returned (.int .i64 v) ∧ v ≤ 1048576 ∧ Same w w' := by
  have k0 := R.c0
  obtain ⟨p, hp, k1⟩ := R.c1
  go_enter Tryd.func106, Tryd.ntmps106
  go_wp2
  go_quiet (fail)
  go_wp2
  go_ret
  go_light
  exact ⟨n - p, ret_int (by omega), by omega, (Same.refl _).drewN _⟩

set_option maxHeartbeats 1600000 in
set_option maxRecDepth 100000 in
theorem l1DrawLimb_any (c : Nat) (a : Option Addr) (b off n cap : Nat) (X : Nat → Nat) (w : World) (hn : n ≤ 1048576) (R : Rd w c a b off n cap X) :
    Calls Tryd.prog 107 #[.pointer (some ⟨c, 0, none⟩)] w fun e w' => ∃ v : Nat, e = .returned (.int .u32 v) ∧ v < 4294967296 ∧ Rd w' c a b off n cap X ∧ Oth c w w' := by
  go_enter Tryd.func107, Tryd.ntmps107
  go_wp2_with fail
  refine (next_any c a b off n cap X w hn R).mono ?_
  rintro e w1 ⟨v, rfl, hv, R1, O1⟩
  by_cases c1 : (v : Int) % 8 = 1
  · have h1 : ((v : Int) % 8 == 1) = true := by simp [c1]
    go_wp2_with fail
    go_ret
    exact ⟨4294967295, rfl, by omega, R1, O1⟩
  have h1 : ((v : Int) % 8 == 1) = false := by simp [c1]
  by_cases c2 : (v : Int) % 8 = 2
  · have h2 : ((v : Int) % 8 == 2) = true := by simp [c2]
    go_wp2_with fail
    go_ret
    exact ⟨2147483648, rfl, by omega, R1, O1⟩
  have h2 : ((v : Int) % 8 == 2) = false := by simp [c2]
  by_cases c3 : (v : Int) % 8 = 3
  · have h3 : ((v : Int) % 8 == 3) = true := by simp [c3]
    go_wp2_with fail
    go_ret
    exact ⟨0, rfl, by omega, R1, O1⟩
  have h3 : ((v : Int) % 8 == 3) = false := by simp [c3]
  by_cases c4 : (v : Int) % 8 = 4
  · have h4 : ((v : Int) % 8 == 4) = true := by simp [c4]
    go_wp2_with fail
    go_ret
    exact ⟨v / 8, rfl, by omega, R1, O1⟩
  have h4 : ((v : Int) % 8 == 4) = false := by simp [c4]
  clear c1 c2 c3 c4
  go_wp2_with fail
  · go_loopw [4, 5] (fun q t wr => ∃ (x k : Nat), q = .int .u32 x ∧ x < 4294967296 ∧ t = .int .i64 k ∧ k ≤ 3 ∧ Rd wr c a b off n cap X ∧ Oth c w wr) (fun _ t _ => 3 - (intOf t).toNat)
    case atStart => exact ⟨v, 0, rfl, by omega, rfl, by omega, R1, O1⟩
    case round =>
      obtain ⟨x, k, rfl, hx, rfl, hk, R2, O2⟩ := hrel
      by_cases hlt : k < 3
      · go_wp2_with fail
        refine (next_any c a b off n cap X wr hn R2).mono ?_
        rintro e w2 ⟨y, rfl, hy, R3, O3⟩
        go_wp2
        go_roundw
        case rel =>
          go_light
          exact ⟨x * 256 % 4294967296 + y, k + 1, congrArg (Value.int .u32) (by omega), by omega, by go_num, by omega, R3, O2.trans O3⟩
        case measure => simp [intOf]; omega
      · go_wp2
        go_ret
        exact ⟨x, rfl, hx, R2, O2⟩

end Go.Proofs.YtabemlkdpgglaaaDoor
