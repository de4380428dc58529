import Derived.Test.YtigggjcnnlidgaaW7
namespace Go.Proofs.Ytigggjcnnlidgaa
open Go.RowKit

theorem carry_cast (x y p c : Nat) : ((x : Int) * y + p + c) / 4294967296 = (((x * y + p + c) / 4294967296 : Nat) : Int) := by
  have h : (((x * y + p + c : Nat) : Int)) = (x : Int) * y + p + c := by simp
  rw [← h]; omega

set_option maxHeartbeats 3200000 in
set_option maxRecDepth 100000 in
theorem multiply_any (c : Nat) (a a' : Option Addr) (b off n cap b' off' m cap' : Nat) (X Y : Nat → Nat) (w : World) (hn : n ≤ 4194304) (hm : m ≤ 4194304) (hX : Limbs w a b off n X) (hY : Limbs w a' b' off' m Y)
    (hXl : ∀ j, j < n → X j < 4294967296) (hYl : ∀ j, j < m → Y j < 4294967296) (hc0 : w.cell? ⟨c, 0, none⟩ = some (.slice a n cap)) (hf0 : w.frozen? ⟨c, 0, none⟩ = false) :
    Calls Try.prog 17 #[.pointer (some ⟨c, 0, none⟩), .slice a' m cap'] w fun e w' => e = .returned (.tuple #[]) ∧ ∃ w2 P, w.Since w.heap.size w2 ∧ w2.rowIs w.heap.size 33 (n + m) (fun j => .int .u32 (P j : Nat)) ∧
      (∀ k, P k < 4294967296) ∧ lv P (n + m) = lv X n * lv Y m ∧ w' = w2.setCell ⟨c, 0, none⟩ (.slice (some ⟨w.heap.size, 0, none⟩) (tlen (nz P) (n + m)) (n + m)) := by
  have hmk := run_make_row' (P := Try.prog) 34 33 (.int .u32 0) 4 Try.underlying34 Try.info33 rfl .i64 .i64 (n + m) (by omega) (by omega)
  rw [Int.natCast_add] at hmk
  have hcl : c < w.heap.size := World.block_lt_of_cell? _ _ hc0
  go_enter Try.func17, Try.ntmps17
  go_wp2
  clear hmk
  go_loopw [23] (fun q wr => ∃ (i : Nat) (P : Nat → Nat), i ≤ n ∧ q = .int .i64 i ∧ w.Since w.heap.size wr ∧ wr.rowIs w.heap.size 33 (n + m) (fun k => .int .u32 (P k)) ∧ wr.rowIs (w.heap.size + 1) 34 1 (fun _ => .slice (some ⟨w.heap.size, 0, none⟩) (n + m) (n + m)) ∧
     (∀ k, P k < 4294967296) ∧ lv P (i + m) = lv X i * lv Y m) (fun q _ => n - (intOf q).toNat)
  case atStart =>
    refine ⟨0, fun _ => 0, Nat.zero_le _, rfl, ((World.Since.refl _ _).alloc (Nat.le_refl _) _).alloc (by simp) _, ((World.rowIs_made w _ _ _).alloc _), ?_, fun _ => Nat.zero_lt_succ _, ?_⟩
    · have := World.rowIs_alloc (w.alloc (Obj.cells (madeCells #[Value.int IntKind.u32 0] (n + m)) 33)) #[Value.slice (some ⟨w.heap.size, 0, none⟩) (n + m) (n + m)] 34 (fun _ => .slice (some ⟨w.heap.size, 0, none⟩) (n + m) (n + m)) (fun i hi => by simp at hi; subst hi; rfl)
      simpa using this
    · rw [lv_more (fun _ => 0) 0 (0 + m) (by omega) (fun _ _ _ => rfl)]; simp [lv]
  case round =>
    obtain ⟨i, P0, hin, rfl, hs, hr0, hbox, hPl, h0⟩ := hrel
    have H0 : Hid (lv P0 (i + m) = lv X i * lv Y m) := h0
    have HPl : Hid (∀ k, P0 k < 4294967296) := hPl
    clear h0 hPl
    by_cases hlt : i < n
    · obtain ⟨rfl, hc⟩ := hX i hlt
      have g0 : wr.cell? ⟨b, off + i, none⟩ = some (.int .u32 (X i)) := by rw [hs.cell (a := ⟨b, off + i, none⟩) (hX.lt (by omega))]; exact hc
      clear hc
      have hxi := hXl i hlt
      obtain ⟨x, hx⟩ : ∃ x, x = X i := ⟨_, rfl⟩
      rw [← hx] at g0 hxi
      have HX : Hid (x = X i) := hx
      clear hx
      go_wp2
      clear g0
      go_loopw [7, 30] (fun c t wr' => ∃ (j cr : Nat) (P : Nat → Nat), j ≤ m ∧ t = .int .i64 j ∧ c = .int .u64 cr ∧ w.Since w.heap.size wr' ∧ wr'.rowIs w.heap.size 33 (n + m) (fun k => .int .u32 (P k)) ∧
        wr'.rowIs (w.heap.size + 1) 34 1 (fun _ => .slice (some ⟨w.heap.size, 0, none⟩) (n + m) (n + m)) ∧ MulRel P0 P x Y i j cr) (fun _ t _ => m - (intOf t).toNat)
      case atStart => exact ⟨0, 0, P0, by omega, rfl, rfl, hs, hr0, hbox, mulRel_start HPl.out x Y i⟩
      case round =>
        clear hr0 hs hbox
        obtain ⟨j, cr, P, hj, rfl, rfl, hs, hr, hbox, hR⟩ := hrel
        have HR : Hid (MulRel P0 P x Y i j cr) := hR
        clear hR
        have b0 := hbox.cell (i := 0) (by omega)
        by_cases hlt2 : j < m
        · obtain ⟨rfl, hc⟩ := hY j hlt2
          have g0 : wr.cell? ⟨b', off' + j, none⟩ = some (.int .u32 (Y j)) := by rw [hs.cell (a := ⟨b', off' + j, none⟩) (hY.lt (by omega))]; exact hc
          clear hc
          have hyj := hYl j hlt2
          have g1 := hr.cell (i := i + j) (by omega)
          have g2 := hr.frozen (i + j)
          have hsum := mulRel_sum HR.out hxi hyj
          have HST := hide (mulRel_step HR.out hxi hyj rfl)
          obtain ⟨y, hy⟩ : ∃ y, y = Y j := ⟨_, rfl⟩
          obtain ⟨p, hp⟩ : ∃ p, p = P (i + j) := ⟨_, rfl⟩
          have hcr : cr < 4294967296 := HR.out.2.2.1
          have hpl : p < 4294967296 := by rw [hp]; exact HR.out.2.1 _
          rw [← hy] at g0 hyj hsum HST
          rw [← hp] at g1 hsum HST
          clear hy hp
          have hm0 : (0 : Int) ≤ (x : Int) * (y : Int) := by rw [← Int.natCast_mul]; omega
          have hm1 : (x : Int) * (y : Int) + (p : Int) + (cr : Int) ≤ 18446744073709551615 := by rw [← Int.natCast_mul]; omega
          clear hsum
          go_wp2
          go_roundw
          case rel =>
            go_light
            refine ⟨j + 1, (x * y + p + cr) / 4294967296, _, by omega, by go_num, congrArg (Value.int .u64) (carry_cast x y p cr), hs.setCell (Nat.le_refl _) _, (hr.set (i + j) _).congr (fun k _ => ?_), hbox.setOther (by simp) _, HST.out⟩
            by_cases e : k = i + j
            · simp [e]
            · simp [e]
          case measure => simp [intOf]; omega
        · have e : j = m := by omega
          subst e
          have g1 := hr.cell (i := i + j) (by omega)
          have g2 := hr.frozen (i + j)
          have hcr : cr < 4294967296 := HR.out.2.2.1
          go_wp2
          go_roundw
          case rel =>
            go_light
            rw [HX.out] at HR
            refine ⟨i + 1, _, by omega, by go_num, hs.setCell (Nat.le_refl _) _, (hr.set (i + j) _).congr (fun k _ => ?_), hbox.setOther (by simp) _, fun k => ?_, mulRel_end HR.out H0.out⟩
            · by_cases e : k = i + j
              · simp [e]
              · simp [e]
            · show (if k = i + j then cr else P k) < _
              split
              · exact hcr
              · exact HR.out.2.1 k
          case measure => simp [intOf]; omega
    · have e : i = n := by omega
      subst e
      have b0 := hbox.cell (i := 0) (by omega)
      have b1 := hbox.frozen 0
      go_wp2_with fail
      refine (trim_any (w.heap.size + 1) _ w.heap.size 0 (i + m) (i + m) P0 _ (by omega) (Nat.le_refl _) b0 b1 (limbs_row hr0)).mono ?_
      rintro e w1 ⟨rfl, rfl⟩
      have q0 : wr.frozen? ⟨c, 0, none⟩ = false := by rw [hs.frozen (a := ⟨c, 0, none⟩) hcl]; exact hf0
      have q1 : wr.cell? ⟨c, 0, none⟩ = some (.slice a i cap) := by rw [hs.cell (a := ⟨c, 0, none⟩) hcl]; exact hc0
      have q2 : c ≠ w.heap.size + 1 := by omega
      go_wp2
      go_end0
      exact ⟨rfl, _, P0, hs.setCell (Nat.le_succ _) _, hr0.setOther (by simp) _, HPl.out, H0.out, rfl⟩


set_option maxHeartbeats 1600000 in
set_option maxRecDepth 100000 in
theorem implNatMul_any (a a' : Option Addr) (b off n cap b' off' m cap' : Nat) (X Y : Nat → Nat) (w : World) (hn : n ≤ 1048576) (hm : m ≤ 1048576) (hnc : n ≤ cap) (hmc : m ≤ cap') (hX : Limbs w a b off n X) (hY : Limbs w a' b' off' m Y)
    (hXl : ∀ j, j < n → X j < 4294967296) (hYl : ∀ j, j < m → Y j < 4294967296) :
    Calls Try.prog 7 #[.slice a n cap, .slice a' m cap'] w fun e w' => ∃ v, e = .returned v ∧ NatOut w w' v (lv X n * lv Y m) (n + m + 1) ∧ w.Since w.heap.size w' := by
  have l1 := tlen_le (nz X) n
  have l2 := tlen_le (nz Y) m
  go_enter Try.func7, Try.ntmps7
  go_wp2_with fail
  refine (readOnly_any a b off n cap X _ (by omega) hnc hX).mono ?_
  rintro e w1 ⟨rfl, hs1⟩
  go_wp2_with fail
  refine (readOnly_any a' b' off' m cap' Y _ (by omega) hmc (hY.keep (hs1.alloc hs1.size _))).mono ?_
  rintro e w2 ⟨rfl, hs2⟩
  have hs12 : w.Since w.heap.size w2 := (hs1.alloc hs1.size _).trans (sinceMono hs2 (by have := hs1.size; simp; omega))
  have q0 : w2.cell? ⟨w1.heap.size, 0, none⟩ = some (.slice a (tlen (nz X) n) cap) := by rw [hs2.cell (a := ⟨w1.heap.size, 0, none⟩) (by simp)]; simp [go_sem]
  have q1 : w2.frozen? ⟨w1.heap.size, 0, none⟩ = false := by rw [hs2.frozen (a := ⟨w1.heap.size, 0, none⟩) (by simp)]; simp [go_sem]
  have hsz : w1.heap.size + 1 ≤ w2.heap.size := by have := hs2.size; simp at this; omega
  clear hs2
  go_wp2_with fail
  refine (multiply_any w1.heap.size a a' b off _ cap b' off' _ cap' X Y _ (by omega) (by omega) ((hX.keep hs12).take l1) ((hY.keep hs12).take l2) (fun j hj => hXl j (by omega)) (fun j hj => hYl j (by omega)) q0 q1).mono ?_
  rintro e w3 ⟨rfl, w4, P, hs3, hr, hPl, hv, rfl⟩
  have HV : Hid (lv P (tlen (nz X) n + tlen (nz Y) m) = lv X (tlen (nz X) n) * lv Y (tlen (nz Y) m)) := hv
  clear hv
  have q3 : w4.cell? ⟨w1.heap.size, 0, none⟩ = some (.slice a (tlen (nz X) n) cap) := by rw [hs3.cell (a := ⟨w1.heap.size, 0, none⟩) (by show w1.heap.size < _; omega)]; exact q0
  clear q0 q1
  go_wp2
  go_ret
  go_light
  have hb : w1.heap.size ≠ w2.heap.size := by omega
  have htl := tlen_le (nz P) (tlen (nz X) n + tlen (nz Y) m)
  have hr' := hr.setOther (a := ⟨w1.heap.size, 0, none⟩) (by show w2.heap.size ≠ w1.heap.size; omega) (.slice (some ⟨w2.heap.size, 0, none⟩) (tlen (nz P) (tlen (nz X) n + tlen (nz Y) m)) (tlen (nz X) n + tlen (nz Y) m))
  refine ⟨_, rfl, ⟨_, w2.heap.size, _, _, P, rfl, htl, by omega, (limbs_row hr').take htl, hs12.size, fun _ o => hr'.frozen o, fun j _ => hPl j, fun h => by have := tlen_top _ _ h; simpa [nz] using this, ?_⟩, ?_⟩
  · rw [lv_tlen, HV.out, lv_tlen, lv_tlen]
  · exact (hs12.trans (sinceMono hs3 hs12.size)).setCell (by show w.heap.size ≤ w1.heap.size; exact hs1.size) _

end Go.Proofs.Ytigggjcnnlidgaa
