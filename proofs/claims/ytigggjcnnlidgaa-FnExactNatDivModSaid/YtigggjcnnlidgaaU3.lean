import Derived.Test.YtigggjcnnlidgaaU2
import Derived.Test.YtigggjcnnlidgaaMath4
namespace Go.Proofs.Ytigggjcnnlidgaa
open Go.RowKit

theorem shl_wide (x p : Nat) (h : x * 2 ^ p < 18446744073709551616) : IntKind.u64.wrap ((x : Int) * 2 ^ p) = ((x * 2 ^ p : Nat) : Int) := by
  have e : (x : Int) * 2 ^ p = ((x * 2 ^ p : Nat) : Int) := by rw [Int.natCast_mul, Int.natCast_pow]; rfl
  rw [e]; exact wrap_u64_id _ h

theorem shl_low (x p s0 : Nat) (h : x * 2 ^ p < 18446744073709551616) (hp : p < 32) (hs : s0 < 2 ^ p) :
    bits .or .u32 (s0 : Int) (IntKind.u64.wrap ((x : Int) * 2 ^ p) % 4294967296) = ((x * 2 ^ p % 4294967296 + s0 : Nat) : Int) := by
  have h2 := pow_le32 p (by omega)
  rw [shl_wide x p h, show ((x * 2 ^ p : Nat) : Int) % 4294967296 = ((x * 2 ^ p % 4294967296 : Nat) : Int) by omega, u32_or_nat _ _ (by omega) (Nat.mod_lt _ (by omega)), or_low p _ _ (low_mod x p (by omega)) hs]

theorem shl_high (x p : Nat) (h : x * 2 ^ p < 18446744073709551616) : IntKind.u64.wrap ((x : Int) * 2 ^ p) / 4294967296 % 4294967296 = ((x * 2 ^ p / 4294967296 : Nat) : Int) := by
  rw [shl_wide x p h]; omega

set_option maxHeartbeats 3200000 in
set_option maxRecDepth 100000 in
theorem shiftLeft_any (c o : Nat) (a : Option Addr) (b off n cap whole p : Nat) (X : Nat → Nat) (w : World) (hn : n ≤ 4194304) (hw : whole ≤ 16777216) (hp : p < 32) (hX : Limbs w a b off n X)
    (hXl : ∀ j, j < n → X j < 4294967296) (hc0 : w.cell? ⟨c, o, none⟩ = some (.slice a n cap)) (hf0 : w.frozen? ⟨c, o, none⟩ = false) :
    Calls Try.prog 32 #[.pointer (some ⟨c, o, none⟩), .int .i64 ((32 * whole + p : Nat) : Int)] w fun e w' => e = .returned (.tuple #[]) ∧ ∃ w2 S, w.Since w.heap.size w2 ∧ w2.rowIs w.heap.size 33 (n + whole + 1) (fun j => .int .u32 (S j : Nat)) ∧
      (∀ k, S k < 4294967296) ∧ lv S (n + whole + 1) = lv X n * 2 ^ (32 * whole + p) ∧ w' = w2.setCell ⟨c, o, none⟩ (.slice (some ⟨w.heap.size, 0, none⟩) (tlen (nz S) (n + whole + 1)) (n + whole + 1)) := by
  have hmk := run_make_row' (P := Try.prog) 34 33 (.int .u32 0) 4 Try.underlying34 Try.info33 rfl .i64 .i64 (n + whole + 1) (by omega) (by omega)
  have hmkc : ((n + whole + 1 : Nat) : Int) = (n : Int) + (whole : Int) + 1 := by omega
  rw [hmkc] at hmk
  clear hmkc
  have hcl : c < w.heap.size := World.block_lt_of_cell? _ _ hc0
  have hq1 : ((32 * whole + p : Nat) : Int) / 32 = (whole : Int) := by omega
  have hq2 : ((32 * whole + p : Nat) : Int) % 32 = (p : Int) := by omega
  obtain ⟨cnt, hcnt⟩ : ∃ q, q = 32 * whole + p := ⟨_, rfl⟩
  have HC := hide hcnt
  rw [← hcnt] at hq1 hq2 ⊢
  have hcb : cnt ≤ 536870943 := by omega
  clear hcnt
  go_enter Try.func32, Try.ntmps32
  go_wp2
  rw [hq2]
  clear hmk hq1 hq2
  go_loopw [26] (fun q wr => ∃ (i : Nat) (S : Nat → Nat), i ≤ n ∧ q = .int .i64 i ∧ w.Since w.heap.size wr ∧ wr.rowIs w.heap.size 33 (n + whole + 1) (fun k => .int .u32 (S k)) ∧ wr.rowIs (w.heap.size + 1) 34 1 (fun _ => .slice (some ⟨w.heap.size, 0, none⟩) (n + whole + 1) (n + whole + 1)) ∧
     Hid (ShlRel X S whole p i)) (fun q _ => n - (intOf q).toNat)
  case atStart =>
    refine ⟨0, fun _ => 0, Nat.zero_le _, rfl, ((World.Since.refl _ _).alloc (Nat.le_refl _) _).alloc (by simp) _, ((World.rowIs_made w _ _ _).alloc _), ?_, shlRel_start X whole p⟩
    have := World.rowIs_alloc (w.alloc (Obj.cells (madeCells #[Value.int IntKind.u32 0] (n + whole + 1)) 33)) #[Value.slice (some ⟨w.heap.size, 0, none⟩) (n + whole + 1) (n + whole + 1)] 34 (fun _ => .slice (some ⟨w.heap.size, 0, none⟩) (n + whole + 1) (n + whole + 1)) (fun i hi => by simp at hi; subst hi; rfl)
    simpa using this
  case round =>
    obtain ⟨i, S, hin, rfl, hs, hr, hbox, HR⟩ := hrel
    have b0 := hbox.cell (i := 0) (by omega)
    by_cases hlt : i < n
    · obtain ⟨rfl, hc⟩ := hX i hlt
      have g0 : wr.cell? ⟨b, off + i, none⟩ = some (.int .u32 (X i)) := by rw [hs.cell (a := ⟨b, off + i, none⟩) (hX.lt (by omega))]; exact hc
      clear hc
      have hxi := hXl i hlt
      have g1 := hr.cell (i := i + whole) (by omega)
      have g2 := hr.frozen (i + whole)
      have g3 := hr.cell (i := i + whole + 1) (by omega)
      have g4 := hr.frozen (i + whole + 1)
      have HST := hide (shlRel_step HR.out hp hxi)
      have hs0 := HR.out.2.1
      obtain ⟨x, hx⟩ : ∃ x, x = X i := ⟨_, rfl⟩
      obtain ⟨s0, hs1⟩ : ∃ s0, s0 = S (i + whole) := ⟨_, rfl⟩
      have hxp : x * 2 ^ p < 18446744073709551616 := by
        have h1 : x * 2 ^ p ≤ 4294967295 * 2 ^ p := Nat.mul_le_mul_right _ (by omega)
        have h2 : 2 ^ p ≤ 4294967296 := pow_le32 p (by omega)
        omega
      rw [← hx] at g0 hxi HST
      rw [← hs1] at g1 HST hs0
      clear hx hs1 HR
      go_wp2
      go_roundw
      case rel =>
        go_light
        rw [shl_low x p s0 hxp hp hs0, shl_high x p hxp]
        refine ⟨i + 1, _, by omega, by go_num, (hs.setCell (Nat.le_refl _) _).setCell (Nat.le_refl _) _, ((hr.set (i + whole) _).set (i + whole + 1) _).congr (fun k _ => ?_), (hbox.setOther (by simp) _).setOther (by simp) _, HST⟩
        by_cases e1 : k = i + whole + 1
        · simp [upd, e1]
        · by_cases e2 : k = i + whole
          · simp [upd, e2]
          · simp [upd, e1, e2]
      case measure => simp [intOf]; omega
    · have e : i = n := by omega
      subst e
      have b1 := hbox.frozen 0
      have HSv := HR.out.1
      have HSl := hide HR.out.2.2
      rw [← HC.out] at HSv
      have HSv := hide HSv
      go_wp2_with fail
      refine (trimAt_any (w.heap.size + 1) 0 _ w.heap.size 0 (i + whole + 1) (i + whole + 1) S _ (by omega) (Nat.le_refl _) b0 b1 (limbs_row hr)).mono ?_
      rintro e w1 ⟨rfl, rfl⟩
      have q0 : wr.frozen? ⟨c, o, none⟩ = false := by rw [hs.frozen (a := ⟨c, o, none⟩) hcl]; exact hf0
      have q1 : wr.cell? ⟨c, o, none⟩ = some (.slice a i cap) := by rw [hs.cell (a := ⟨c, o, none⟩) hcl]; exact hc0
      have q2 : c ≠ w.heap.size + 1 := by omega
      go_wp2
      go_end0
      exact ⟨rfl, _, S, hs.setCell (Nat.le_succ _) _, hr.setOther (by simp) _, HSl.out, HSv.out, rfl⟩

end Go.Proofs.Ytigggjcnnlidgaa
