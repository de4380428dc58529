import Derived.Test.YtabemlkdpgglaaaDoorOwnP1
import Derived.Lib.BitFns
namespace Go.Proofs.YtabemlkdpgglaaaDoor
open Go.RowKit

theorem shl_wide (x p : Nat) (h : x * 2 ^ p < 18446744073709551616) : IntKind.u64.wrap ((x : Int) * 2 ^ p) = ((x * 2 ^ p : Nat) : Int) := by
  have e : (x : Int) * 2 ^ p = ((x * 2 ^ p : Nat) : Int) := by rw [Int.natCast_mul, Int.natCast_pow]; rfl
  rw [e]; exact wrap_u64_id _ h

theorem shl_low (x p s0 : Nat) (h : x * 2 ^ p < 18446744073709551616) (hp : p < 32) (hs : s0 < 2 ^ p) :
    bits .or .u32 (s0 : Int) (IntKind.u64.wrap ((x : Int) * 2 ^ p) % 4294967296) = ((x * 2 ^ p % 4294967296 + s0 : Nat) : Int) := by
  have h2 := pow_le32 p (by omega)
  rw [shl_wide x p h, show ((x * 2 ^ p : Nat) : Int) % 4294967296 = ((x * 2 ^ p % 4294967296 : Nat) : Int) by omega, u32_or_nat _ _ (by omega) (Nat.mod_lt _ (by omega)), or_low p _ _ (low_mod x p (by omega)) hs]

theorem shl_high (x p : Nat) (h : x * 2 ^ p < 18446744073709551616) : IntKind.u64.wrap ((x : Int) * 2 ^ p) / 4294967296 % 4294967296 = ((x * 2 ^ p / 4294967296 : Nat) : Int) := by
  rw [shl_wide x p h]; omega

set_option maxHeartbeats 3200000 in
set_option maxRecDepth 100000 in
theorem shiftLeft_any (c o : Nat) (a : Option Addr) (b off n cap whole p : Nat) (X : Nat → Nat) (w : World) (hn : n ≤ 4194304) (hw : whole ≤ 16777216) (hp : p < 32) (hX : Limbs w a b off n X)
    (hXl : ∀ j, j < n → X j < 4294967296) (hc0 : w.cell? ⟨c, o, none⟩ = some (.slice a n cap)) (hf0 : w.frozen? ⟨c, o, none⟩ = false) :
    Calls Tryd.prog 96 #[.pointer (some ⟨c, o, none⟩), .int .i64 ((32 * whole + p : Nat) : Int)] w fun e w' => e = .returned (.tuple #[]) ∧ ∃ w2 S, w.Since w.heap.size w2 ∧ w2.rowIs w.heap.size 58 (n + whole + 1) (fun j => .int .u32 (S j : Nat)) ∧
      (∀ k, S k < 4294967296) ∧ lv S (n + whole + 1) = lv X n * 2 ^ (32 * whole + p) ∧ w' = w2.setCell ⟨c, o, none⟩ (.slice (some ⟨w.heap.size, 0, none⟩) (tlen (nz S) (n + whole + 1)) (n + whole + 1)) := by
  have hmk := run_make_row' (P := Tryd.prog) 55 58 (.int .u32 0) 4 Tryd.underlying55 Tryd.info58 rfl .i64 .i64 (n + whole + 1) (by omega) (by omega)
  have hmkc : ((n + whole + 1 : Nat) : Int) = (n : Int) + (whole : Int) + 1 := by omega
  rw [hmkc] at hmk
  clear hmkc
  have hcl : c < w.heap.size := World.block_lt_of_cell? _ _ hc0
  have hq1 : ((32 * whole + p : Nat) : Int) / 32 = (whole : Int) := by omega
  have hq2 : ((32 * whole + p : Nat) : Int) % 32 = (p : Int) := by omega
  obtain ⟨cnt, hcnt⟩ : ∃ q, q = 32 * whole + p := ⟨_, rfl⟩
  have HC := hide hcnt
  rw [← hcnt] at hq1 hq2 ⊢
  have hcb : cnt ≤ 536870943 := by omega
  clear hcnt
  go_enter Tryd.func96, Tryd.ntmps96
  go_wp2
  rw [hq2]
  clear hmk hq1 hq2
  go_loopw [26] (fun q wr => ∃ (i : Nat) (S : Nat → Nat), i ≤ n ∧ q = .int .i64 i ∧ w.Since w.heap.size wr ∧ wr.rowIs w.heap.size 58 (n + whole + 1) (fun k => .int .u32 (S k)) ∧ wr.rowIs (w.heap.size + 1) 55 1 (fun _ => .slice (some ⟨w.heap.size, 0, none⟩) (n + whole + 1) (n + whole + 1)) ∧
     Hid (ShlRel X S whole p i)) (fun q _ => n - (intOf q).toNat)
  case atStart =>
    refine ⟨0, fun _ => 0, Nat.zero_le _, rfl, ((World.Since.refl _ _).alloc (Nat.le_refl _) _).alloc (by simp) _, ((World.rowIs_made w _ _ _).alloc _), ?_, shlRel_start X whole p⟩
    have := World.rowIs_alloc (w.alloc (Obj.cells (madeCells #[Value.int IntKind.u32 0] (n + whole + 1)) 58)) #[Value.slice (some ⟨w.heap.size, 0, none⟩) (n + whole + 1) (n + whole + 1)] 55 (fun _ => .slice (some ⟨w.heap.size, 0, none⟩) (n + whole + 1) (n + whole + 1)) (fun i hi => by simp at hi; subst hi; rfl)
    simpa using this
  case round =>
    obtain ⟨i, S, hin, rfl, hs, hr, hbox, HR⟩ := hrel
    have b0 := hbox.cell (i := 0) (by omega)
    by_cases hlt : i < n
    · obtain ⟨rfl, hc⟩ := hX i hlt
      have g0 : wr.cell? ⟨b, off + i, none⟩ = some (.int .u32 (X i)) := by rw [hs.cell (a := ⟨b, off + i, none⟩) (hX.lt (by omega))]; exact hc
      clear hc
      have hxi := hXl i hlt
      have g1 := hr.cell (i := i + whole) (by omega)
      have g2 := hr.frozen (i + whole)
      have g3 := hr.cell (i := i + whole + 1) (by omega)
      have g4 := hr.frozen (i + whole + 1)
      have HST := hide (shlRel_step HR.out hp hxi)
      have hs0 := HR.out.2.1
      obtain ⟨x, hx⟩ : ∃ x, x = X i := ⟨_, rfl⟩
      obtain ⟨s0, hs1⟩ : ∃ s0, s0 = S (i + whole) := ⟨_, rfl⟩
      have hxp : x * 2 ^ p < 18446744073709551616 := by
        have h1 : x * 2 ^ p ≤ 4294967295 * 2 ^ p := Nat.mul_le_mul_right _ (by omega)
        have h2 : 2 ^ p ≤ 4294967296 := pow_le32 p (by omega)
        omega
      rw [← hx] at g0 hxi HST
      rw [← hs1] at g1 HST hs0
      clear hx hs1 HR
      go_wp2
      go_roundw
      case rel =>
        go_light
        rw [shl_low x p s0 hxp hp hs0, shl_high x p hxp]
        refine ⟨i + 1, _, by omega, by go_num, (hs.setCell (Nat.le_refl _) _).setCell (Nat.le_refl _) _, ((hr.set (i + whole) _).set (i + whole + 1) _).congr (fun k _ => ?_), (hbox.setOther (by simp) _).setOther (by simp) _, HST⟩
        by_cases e1 : k = i + whole + 1
        · simp [upd, e1]
        · by_cases e2 : k = i + whole
          · simp [upd, e2]
          · simp [upd, e1, e2]
      case measure => simp [intOf]; omega
    · have e : i = n := by omega
      subst e
      have b1 := hbox.frozen 0
      have HSv := HR.out.1
      have HSl := hide HR.out.2.2
      rw [← HC.out] at HSv
      have HSv := hide HSv
      go_wp2_with fail
      refine (trimAt_any (w.heap.size + 1) 0 _ w.heap.size 0 (i + whole + 1) (i + whole + 1) S _ (by omega) (Nat.le_refl _) b0 b1 (limbs_row hr)).mono ?_
      rintro e w1 ⟨rfl, rfl⟩
      have q0 : wr.frozen? ⟨c, o, none⟩ = false := by rw [hs.frozen (a := ⟨c, o, none⟩) hcl]; exact hf0
      have q1 : wr.cell? ⟨c, o, none⟩ = some (.slice a i cap) := by rw [hs.cell (a := ⟨c, o, none⟩) hcl]; exact hc0
      have q2 : c ≠ w.heap.size + 1 := by omega
      go_wp2
      go_end0
      exact ⟨rfl, _, S, hs.setCell (Nat.le_succ _) _, hr.setOther (by simp) _, HSl.out, HSv.out, rfl⟩

end Go.Proofs.YtabemlkdpgglaaaDoor

namespace Go.Proofs.YtabemlkdpgglaaaDoor
open Go.RowKit

/-- F below i, X from i on. -/
def mix (F X : Nat → Nat) (i : Nat) : Nat → Nat := fun j => if j < i then F j else X j
theorem mix_lt (F X : Nat → Nat) (i j : Nat) (h : j < i) : mix F X i j = F j := by simp [mix, h]
theorem mix_ge (F X : Nat → Nat) (i j : Nat) (h : i ≤ j) : mix F X i j = X j := by simp [mix]; omega
theorem mix_upd (F X : Nat → Nat) (i v : Nat) (h : v = F i) (j : Nat) : upd (mix F X i) i v j = mix F X (i + 1) j := by
  by_cases e : j = i
  · subst e; rw [upd_same, mix_lt _ _ _ _ (by omega), h]
  · rw [upd_other _ _ _ _ e]
    by_cases e2 : j < i
    · rw [mix_lt _ _ _ _ e2, mix_lt _ _ _ _ (by omega)]
    · rw [mix_ge _ _ _ _ (by omega), mix_ge _ _ _ _ (by omega)]

theorem shr_val (v p : Nat) : (v : Int) / 2 ^ p % 4294967296 = ((v / 2 ^ p % 4294967296 : Nat) : Int) := by
  rw [Int.natCast_emod, Int.natCast_ediv, Int.natCast_pow]; rfl

theorem Limbs.setOther {w : World} {a : Option Addr} {b off n : Nat} {X : Nat → Nat} (h : Limbs w a b off n X) {c o : Nat} (hne : c ≠ b) (v : Value) : Limbs (w.setCell ⟨c, o, none⟩ v) a b off n X :=
  fun j hj => ⟨(h j hj).1, by rw [World.cell?_setCell_other _ _ _ _ (fun h => by have := congrArg Addr.block h; simp at this; omega)]; exact (h j hj).2⟩

theorem setCell_twice (w : World) (b o : Nat) (u v : Value) : (w.setCell ⟨b, o, none⟩ u).setCell ⟨b, o, none⟩ v = w.setCell ⟨b, o, none⟩ v := by
  unfold World.setCell
  congr 1
  apply Array.ext_getElem?
  intro i
  simp only [Array.getElem?_modify]
  split
  · cases w.heap[i]? with
    | none => rfl
    | some x => cases x <;> simp
  · rfl

theorem or64b (a b : Nat) (ha : a < 4294967296) (hb : b < 4294967296) : bits .or .u64 (a : Int) ((b : Int) * 4294967296) = (a : Int) + (b : Int) * 4294967296 := by
  have h := u64_or_nat a (b * 4294967296) (by omega) (by omega)
  rw [Nat.or_comm, or_add32 b a ha] at h
  rw [show ((b * 4294967296 : Nat) : Int) = (b : Int) * 4294967296 by omega] at h
  rw [h]; omega

set_option maxHeartbeats 3200000 in
set_option maxRecDepth 100000 in
theorem shiftRight_any (c o : Nat) (b n cap whole p : Nat) (X : Nat → Nat) (w : World) (hn : n ≤ 16777216) (hnc : n ≤ cap) (hw : whole < n) (hp : p < 32) (hX : Limbs w (some ⟨b, 0, none⟩) b 0 n X)
    (hXl : ∀ j, j < n → X j < 4294967296) (hc0 : w.cell? ⟨c, o, none⟩ = some (.slice (some ⟨b, 0, none⟩) n cap)) (hf0 : w.frozen? ⟨c, o, none⟩ = false) (hf : ∀ o, w.frozen? ⟨b, o, none⟩ = false) (hcb : c ≠ b) :
    Calls Tryd.prog 94 #[.pointer (some ⟨c, o, none⟩), .int .i64 ((32 * whole + p : Nat) : Int)] w fun e w' => e = .returned (.tuple #[]) ∧ ∃ w2 S k, Marked w w2 b ∧ Limbs w2 (some ⟨b, 0, none⟩) b 0 k S ∧
      k ≤ n ∧ (∀ j, j < k → S j < 4294967296) ∧ lv S k = lv X n / 2 ^ (32 * whole + p) ∧ w' = w2.setCell ⟨c, o, none⟩ (.slice (some ⟨b, 0, none⟩) (tlen (nz S) k) cap) := by
  have hq1 : ((32 * whole + p : Nat) : Int) / 32 = (whole : Int) := by omega
  have hq2 : ((32 * whole + p : Nat) : Int) % 32 = (p : Int) := by omega
  obtain ⟨cnt, hcnt⟩ : ∃ q, q = 32 * whole + p := ⟨_, rfl⟩
  have HC := hide hcnt
  rw [← hcnt] at hq1 hq2 ⊢
  have hcb2 : cnt ≤ 536870943 := by omega
  clear hcnt
  go_enter Tryd.func94, Tryd.ntmps94
  go_wp2
  rw [hq2]
  clear hq1 hq2
  have hmin : ¬ (n : Int) < (whole : Int) := by omega
  go_region
  go_wp2
  obtain ⟨K, hK⟩ : ∃ K, K = n - whole := ⟨_, rfl⟩
  have HK : Hid (K = n - whole) := hK
  have hKn : K + whole = n := by omega
  rw [← hK]
  clear hK hmin
  go_loopw [26] (fun q wr => ∃ (i : Nat), i ≤ K ∧ q = .int .i64 i ∧ Marked w wr b ∧ Limbs wr (some ⟨b, 0, none⟩) b 0 n (mix (shrLimb (fun t => X (whole + t)) K p) X i)) (fun q _ => K - (intOf q).toNat)
  case atStart => exact ⟨0, Nat.zero_le _, rfl, (Marked.refl _ _).drew, hX.congr (fun j _ => (mix_ge _ _ _ _ (by omega)).symm)⟩
  case round =>
    obtain ⟨i, hi, rfl, hs, hL⟩ := hrel
    have g2 : wr.cell? ⟨c, o, none⟩ = some (.slice (some ⟨b, 0, none⟩) n cap) := by rw [hs.cell (a := ⟨c, o, none⟩) hcb]; exact hc0
    by_cases hlt : i < K
    · have g0 : wr.cell? ⟨b, whole + i, none⟩ = some (.int .u32 (X (whole + i))) := by
        have := (hL (whole + i) (by omega)).2
        rw [mix_ge _ _ _ _ (by omega), Nat.zero_add] at this
        exact this
      have g1 : wr.cell? ⟨b, i, none⟩ = some (.int .u32 (X i)) := by
        have := (hL i (by omega)).2
        rw [mix_ge _ _ _ _ (by omega), Nat.zero_add] at this
        exact this
      have g3 : wr.frozen? ⟨b, i, none⟩ = false := by rw [hs.frozen]; exact hf i
      have hxi := hXl (whole + i) (by omega)
      have hin : (i : Int) < (n : Int) := by omega
      by_cases hlt2 : i + 1 < K
      · have g4 : wr.cell? ⟨b, whole + (i + 1), none⟩ = some (.int .u32 (X (whole + (i + 1)))) := by
          have := (hL (whole + (i + 1)) (by omega)).2
          rw [mix_ge _ _ _ _ (by omega), Nat.zero_add] at this
          exact this
        have hyi := hXl (whole + (i + 1)) (by omega)
        have hor := or64b (X (whole + i)) (X (whole + (i + 1))) hxi hyi
        have HV : Hid (shrLimb (fun t => X (whole + t)) K p i = (X (whole + i) + X (whole + (i + 1)) * 4294967296) / 2 ^ p % 4294967296) := by simp [Hid, shrLimb, hlt2]
        obtain ⟨x, hx⟩ : ∃ x, x = X (whole + i) := ⟨_, rfl⟩
        obtain ⟨y, hy⟩ : ∃ y, y = X (whole + (i + 1)) := ⟨_, rfl⟩
        rw [← hx] at g0 hxi hor HV
        rw [← hy] at g4 hyi hor HV
        clear hx hy
        go_wp2
        clear hor g4 g0
        obtain ⟨v, hv⟩ : ∃ v, v = x + y * 4294967296 := ⟨_, rfl⟩
        have hvi : (x : Int) + (y : Int) * 4294967296 = (v : Int) := by omega
        have hvl : v < 18446744073709551616 := by omega
        rw [← hv] at HV
        rw [hvi]
        clear hv hvi
        have t1 : ¬ (p : Int) < 0 := by omega
        have t2 : IntKind.u64.wrap (v : Int) = (v : Int) := wrap_u64_id v hvl
        go_region
        go_wp2
        go_roundw
        case rel =>
          go_light
          rw [shr_val v p]
          exact ⟨i + 1, by omega, by go_num, (hs.setCell _ _).drew, (hL.put _).congr (fun j _ => mix_upd _ _ _ _ HV.out.symm j)⟩
        case measure => simp [intOf]; omega
      · have HV : Hid (shrLimb (fun t => X (whole + t)) K p i = X (whole + i) / 2 ^ p % 4294967296) := by simp [Hid, shrLimb, hlt2]
        obtain ⟨v, hv⟩ : ∃ x, x = X (whole + i) := ⟨_, rfl⟩
        rw [← hv] at g0 hxi HV
        have hvl : v < 18446744073709551616 := by omega
        clear hv
        go_wp2
        clear g0
        have t1 : ¬ (p : Int) < 0 := by omega
        have t2 : IntKind.u64.wrap (v : Int) = (v : Int) := wrap_u64_id v hvl
        go_region
        go_wp2
        go_roundw
        case rel =>
          go_light
          rw [shr_val v p]
          exact ⟨i + 1, by omega, by go_num, (hs.setCell _ _).drew, (hL.put _).congr (fun j _ => mix_upd _ _ _ _ HV.out.symm j)⟩
        case measure => simp [intOf]; omega
    · have e : i = K := by omega
      subst e
      have g3 : wr.frozen? ⟨c, o, none⟩ = false := by rw [hs.frozenO (a := ⟨c, o, none⟩) hcb]; exact hf0
      have hL2 : Limbs wr (some ⟨b, 0, none⟩) b 0 i (shrLimb (fun t => X (whole + t)) i p) := (hL.take (by omega)).congr (fun j hj => mix_lt _ _ _ _ hj)
      go_wp2_with fail
      refine (trimAt_any c o _ b 0 i cap _ _ (by omega) (by omega) (World.cell?_setCell_same _ _ _ g2) (by simp [g3]) (hL2.setOther hcb _)).mono ?_
      rintro e w1 ⟨rfl, rfl⟩
      go_wp2
      go_end0
      have HLv : lv (shrLimb (fun t => X (whole + t)) i p) i = lv X n / 2 ^ cnt := by
        rw [lv_shrLimb _ i p hp (fun j hj => hXl (whole + j) (by omega)), HK.out, lv_shr X n whole (by omega) hXl, Nat.div_div_eq_div_mul, ← Nat.pow_add, HC.out]
      exact ⟨rfl, wr, _, i, hs, hL2, by omega, fun j _ => shrLimb_lt _ _ _ _, HLv, setCell_twice _ _ _ _ _⟩

end Go.Proofs.YtabemlkdpgglaaaDoor

/-
  Plain mathematics: the loop of long division.
-/
namespace Go.Proofs.YtabemlkdpgglaaaDoor

/-- What holds when the quotient's digits from place k on are found. -/
def LongRel (N0 D dl L nn : Nat) (W Q : Nat → Nat) (k : Nat) : Prop :=
  N0 = hl Q k L * 2 ^ (32 * k) * D + lv W (k + dl) ∧ lv (fun t => W (k + t)) dl < D ∧ (∀ j, k + dl ≤ j → j < nn → W j = 0) ∧ (∀ j, W j < 4294967296) ∧ ∀ j, Q j < 4294967296

/-- The window at place a. -/
def win (W : Nat → Nat) (a n : Nat) : Nat := lv (fun t => W (a + t)) n

theorem win_lt {W : Nat → Nat} (h : ∀ j, W j < 4294967296) (a n : Nat) : win W a n < 2 ^ (32 * n) := lv_lt _ _ (fun _ _ => h _)

theorem win_front (W : Nat → Nat) (a n : Nat) : win W a (n + 1) = 4294967296 * win W (a + 1) n + W a := by
  unfold win
  rw [lv_front]
  have e : lv (fun k => W (a + (k + 1))) n = lv (fun t => W (a + 1 + t)) n := lv_congr (fun j _ => by rw [show a + (j + 1) = a + 1 + j by omega])
  rw [e]; rfl

theorem lv_win (W : Nat → Nat) (a n : Nat) : lv W (a + n) = lv W a + 2 ^ (32 * a) * win W a n := lv_add W a n

theorem long_start {W : Nat → Nat} {D dl L nn : Nat} (hnn : nn = L + dl) (hdl : 0 < dl) (hW : ∀ j, W j < 4294967296) (ht : W (nn - 1) = 0) (hD : 2 ^ (32 * (dl - 1)) ≤ D) : LongRel (lv W nn) D dl L nn W (fun _ => 0) L := by
  refine ⟨by rw [hl_top, hnn]; simp, ?_, fun j h1 h2 => by omega, hW, fun _ => by show 0 < _; omega⟩
  obtain ⟨e, rfl⟩ : ∃ e, dl = e + 1 := ⟨dl - 1, by omega⟩
  simp only [Nat.add_sub_cancel] at hD
  have h1 : lv (fun t => W (L + t)) (e + 1) = lv (fun t => W (L + t)) e := by
    simp only [lv]
    rw [show L + e = nn - 1 by omega, ht]; simp
  rw [h1]
  exact Nat.lt_of_lt_of_le (lv_lt _ _ (fun j _ => hW _)) hD

theorem long_window {N0 D dl L nn a : Nat} {W Q : Nat → Nat} (h : LongRel N0 D dl L nn W Q (a + 1)) : win W a (dl + 1) < D * 4294967296 := by
  have h2 : win W (a + 1) dl < D := h.2.1
  have hw := h.2.2.2.1 a
  rw [win_front]
  have : 4294967296 * (win W (a + 1) dl + 1) ≤ 4294967296 * D := Nat.mul_le_mul_left _ h2
  rw [Nat.mul_add] at this
  omega

theorem long_top {N0 D dl L nn a : Nat} {W Q Y : Nat → Nat} (h : LongRel N0 D dl L nn W Q (a + 1)) (hdl : 0 < dl) (hD : D = lv Y dl) (hY : ∀ j, j < dl → Y j < 4294967296) : W (a + dl) ≤ Y (dl - 1) := by
  have h2 : win W (a + 1) dl < D := h.2.1
  obtain ⟨e, rfl⟩ : ∃ e, dl = e + 1 := ⟨dl - 1, by omega⟩
  simp only [Nat.add_sub_cancel]
  by_cases hc : W (a + (e + 1)) ≤ Y e
  · exact hc
  · exfalso
    unfold win at h2
    rw [hD] at h2
    simp only [lv] at h2
    rw [show a + 1 + e = a + (e + 1) by omega] at h2
    have h3 := lv_lt Y e (fun j hj => hY j (by omega))
    have h4 : (Y e + 1) * 2 ^ (32 * e) ≤ W (a + (e + 1)) * 2 ^ (32 * e) := Nat.mul_le_mul_right _ (by omega)
    rw [Nat.add_mul] at h4
    omega

/-- The guess is the digit or one more. -/
theorem long_guess {W Y : Nat → Nat} {a dl D : Nat} (hdl : 2 ≤ dl) (hD : D = lv Y dl) (hY : ∀ j, j < dl → Y j < 4294967296) (hW : ∀ j, W j < 4294967296) (hv : 1 ≤ Y (dl - 1)) (hU : win W a (dl + 1) < D * 4294967296) :
    win W a (dl + 1) / D ≤ guess3 (W (a + dl)) (W (a + dl - 1)) (W (a + dl - 2)) (Y (dl - 1)) (Y (dl - 2)) ∧
    guess3 (W (a + dl)) (W (a + dl - 1)) (W (a + dl - 2)) (Y (dl - 1)) (Y (dl - 2)) ≤ win W a (dl + 1) / D + 1 := by
  obtain ⟨e, rfl⟩ : ∃ e, dl = e + 2 := ⟨dl - 2, by omega⟩
  have i1 : a + (e + 2) - 1 = a + (e + 1) := by omega
  have i2 : a + (e + 2) - 2 = a + e := by omega
  have i3 : e + 2 - 1 = e + 1 := by omega
  have i4 : e + 2 - 2 = e := by omega
  rw [i3] at hv
  rw [i1, i2, i3, i4]
  clear i1 i2 i3 i4
  have lo1 := lv_lt (fun t => W (a + t)) e (fun j _ => hW _)
  have lo2 := lv_lt Y e (fun j hj => hY j (by omega))
  have p1 : 2 ^ (32 * (e + 1)) = 4294967296 * 2 ^ (32 * e) := pow32 e
  have p2 : 2 ^ (32 * (e + 2)) = 4294967296 * (4294967296 * 2 ^ (32 * e)) := by rw [pow32 (e + 1), pow32 e]
  have eU : win W a (e + 2 + 1) = lv (fun t => W (a + t)) e + ((W (a + (e + 2)) * 4294967296 + W (a + (e + 1))) * 4294967296 + W (a + e)) * 2 ^ (32 * e) := by
    unfold win
    simp only [lv]
    rw [p1, p2]
    simp only [Nat.add_mul, Nat.mul_assoc]
    omega
  have eD : D = lv Y e + (Y (e + 1) * 4294967296 + Y e) * 2 ^ (32 * e) := by
    rw [hD]
    simp only [lv]
    rw [p1]
    simp only [Nat.add_mul, Nat.mul_assoc]
    omega
  have hP : 0 < 2 ^ (32 * e) := Nat.pow_pos (by omega)
  have kk : ∀ A : Nat, (A + 1) * 2 ^ (32 * e) = A * 2 ^ (32 * e) + 2 ^ (32 * e) := fun A => by rw [Nat.add_mul A 1, Nat.one_mul]
  refine guess_true (U3 := (W (a + (e + 2)) * 4294967296 + W (a + (e + 1))) * 4294967296 + W (a + e)) (D2 := Y (e + 1) * 4294967296 + Y e) (P := 2 ^ (32 * e)) hP ?_ ?_ (by omega) hU rfl
  · rw [eU]
    refine ⟨by omega, ?_⟩
    rw [kk]; omega
  · rw [eD]
    refine ⟨by omega, ?_⟩
    rw [kk]; omega

theorem long_step {N0 D dl L nn a q : Nat} {W W1 Q : Nat → Nat} (h : LongRel N0 D dl L nn W Q (a + 1)) (ha : a < L) (hDl : D ≤ 2 ^ (32 * dl)) (hD : 0 < D) (hq : q = win W a (dl + 1) / D) (hw : win W1 a (dl + 1) + q * D = win W a (dl + 1))
    (hf : ∀ k, k < a ∨ a + dl + 1 ≤ k → W1 k = W k) (hl1 : ∀ k, W1 k < 4294967296) : LongRel N0 D dl L nn W1 (upd Q a q) a ∧ q < 4294967296 := by
  have hU := long_window h
  obtain ⟨h1, h2, h3, h4, h5⟩ := h
  have hqb : q < 4294967296 := by rw [hq, Nat.div_lt_iff_lt_mul hD, Nat.mul_comm]; exact hU
  have hr : win W1 a (dl + 1) < D := by
    have e := Nat.div_add_mod (win W a (dl + 1)) D
    have m := Nat.mod_lt (win W a (dl + 1)) hD
    rw [← hq, Nat.mul_comm] at e
    omega
  have htop : W1 (a + dl) = 0 := by
    have e : win W1 a (dl + 1) = win W1 a dl + W1 (a + dl) * 2 ^ (32 * dl) := rfl
    by_cases hz : W1 (a + dl) = 0
    · exact hz
    · have : 1 * 2 ^ (32 * dl) ≤ W1 (a + dl) * 2 ^ (32 * dl) := Nat.mul_le_mul_right _ (by omega)
      omega
  have hwd : win W1 a dl = win W1 a (dl + 1) := by
    have e : win W1 a (dl + 1) = win W1 a dl + W1 (a + dl) * 2 ^ (32 * dl) := rfl
    rw [e, htop]; simp
  refine ⟨⟨?_, ?_, fun j j1 j2 => ?_, hl1, fun j => ?_⟩, hqb⟩
  · rw [h1, hl_step _ a L ha, upd_same, hl_congr (fun j j1 _ => upd_other Q a q j (by omega))]
    have e1 : lv W (a + 1 + dl) = lv W a + 2 ^ (32 * a) * win W a (dl + 1) := by
      rw [show a + 1 + dl = a + (dl + 1) by omega]; exact lv_win W a (dl + 1)
    have e2 : lv W1 (a + dl) = lv W a + 2 ^ (32 * a) * win W1 a dl := by
      rw [lv_win W1 a dl, lv_congr (fun j hj => hf j (Or.inl hj))]
    rw [e1, e2, hwd, ← hw, pow32]
    generalize hl Q (a + 1) L = H
    generalize 2 ^ (32 * a) = P
    generalize win W1 a (dl + 1) = R
    rw [Nat.mul_add P, Nat.add_mul, Nat.add_mul, Nat.mul_left_comm P q D, ← Nat.mul_assoc H, Nat.mul_comm H 4294967296, ← Nat.mul_assoc q P D]
    omega
  · show win W1 a dl < D
    rw [hwd]; exact hr
  · by_cases e : j = a + dl
    · subst e; exact htop
    · rw [hf j (by omega)]; exact h3 j (by omega) j2
  · by_cases e : j = a
    · subst e; rw [upd_same]; exact hqb
    · rw [upd_other _ _ _ _ e]; exact h5 j

theorem long_end {N0 D dl L nn : Nat} {W Q : Nat → Nat} (h : LongRel N0 D dl L nn W Q 0) (hnn : dl ≤ nn) : lv Q L = N0 / D ∧ lv W nn = N0 % D := by
  obtain ⟨h1, h2, h3, h4, h5⟩ := h
  rw [hl_zero, Nat.mul_zero, Nat.pow_zero, Nat.mul_one, Nat.zero_add] at h1
  have e0 : lv (fun t => W (0 + t)) dl = lv W dl := lv_congr (fun j _ => by rw [Nat.zero_add])
  rw [e0] at h2
  have e : lv W nn = lv W dl := lv_more W dl nn hnn (fun j a b => h3 j (by omega) b)
  have hD : 0 < D := by omega
  rw [e, h1, Nat.add_comm]
  refine ⟨?_, ?_⟩
  · rw [Nat.add_mul_div_right _ _ hD, Nat.div_eq_of_lt h2, Nat.zero_add]
  · rw [Nat.add_mul_mod_self_right, Nat.mod_eq_of_lt h2]

/-- No borrow: the guess was the digit. -/
theorem take_exact {U D g V : Nat} (hD : 0 < D) (h : V + g * D = U) (hg : U / D ≤ g) : g = U / D := by
  have : g ≤ U / D := by rw [Nat.le_div_iff_mul_le hD]; omega
  omega

/-- A borrow: the guess was one too great, and what is given back makes it right. -/
theorem take_over {U D g V V2 cy B : Nat} (hD : 0 < D) (h : V + g * D = U + B) (hV : V < B) (hg : g ≤ U / D + 1) (h2 : V2 + cy * B = V + D) (hc : cy ≤ 1) (hV2 : V2 < B) : 1 ≤ g ∧ g - 1 = U / D ∧ V2 + (g - 1) * D = U := by
  have hgt : U / D < g := by rw [Nat.div_lt_iff_lt_mul hD]; omega
  have e : g = U / D + 1 := by omega
  have hq := Nat.div_mul_le_self U D
  generalize U / D = q at *
  subst e
  rw [Nat.add_mul, Nat.one_mul] at h
  refine ⟨by omega, by omega, ?_⟩
  simp only [Nat.add_sub_cancel]
  have hcy : cy = 0 ∨ cy = 1 := by omega
  rcases hcy with rfl | rfl
  · omega
  · omega

/-! ### the shifted numbers -/

theorem shl_bounds {y s : Nat} (hs : s < 32) (h2 : y * 2 ^ s < 4294967296) : (y + 1) * 2 ^ s ≤ 4294967296 := by
  have hp := pow_split s (by omega)
  rw [← hp, Nat.mul_comm (y + 1)]
  refine Nat.mul_le_mul_left _ ?_
  rw [← hp, Nat.mul_comm] at h2
  have := Nat.lt_of_mul_lt_mul_left h2
  omega

/-- The divisor shifted so that its top bit is set has as many limbs as it had, and its top limb is great. -/
theorem shl_divisor {Y S : Nat → Nat} {dl s : Nat} (hdl : 0 < dl) (hs : s < 32) (hY : ∀ j, j < dl → Y j < 4294967296) (hS : ∀ k, S k < 4294967296) (h1 : 2147483648 ≤ Y (dl - 1) * 2 ^ s) (h2 : Y (dl - 1) * 2 ^ s < 4294967296)
    (hv : lv S (dl + 1) = lv Y dl * 2 ^ s) : tlen (nz S) (dl + 1) = dl ∧ lv S dl = lv Y dl * 2 ^ s ∧ 2147483648 ≤ S (dl - 1) ∧ 2 ^ (32 * (dl - 1)) ≤ lv S dl ∧ lv S dl ≤ 2 ^ (32 * dl) := by
  obtain ⟨e, rfl⟩ : ∃ e, dl = e + 1 := ⟨dl - 1, by omega⟩
  simp only [Nat.add_sub_cancel] at *
  have b := shl_bounds hs h2
  have lo := lv_lt Y e (fun j hj => hY j (by omega))
  have hD1 : 2147483648 * 2 ^ (32 * e) ≤ lv Y (e + 1) * 2 ^ s := by
    have a1 : Y e * 2 ^ s * 2 ^ (32 * e) ≤ lv Y (e + 1) * 2 ^ s := by
      simp only [lv]
      rw [Nat.mul_right_comm]
      exact Nat.mul_le_mul_right _ (by omega)
    exact Nat.le_trans (Nat.mul_le_mul_right _ h1) a1
  have hD2 : lv Y (e + 1) * 2 ^ s < 2 ^ (32 * (e + 1)) := by
    have a1 : lv Y (e + 1) < (Y e + 1) * 2 ^ (32 * e) := by simp only [lv]; rw [Nat.add_mul]; omega
    have a2 : lv Y (e + 1) * 2 ^ s < (Y e + 1) * 2 ^ (32 * e) * 2 ^ s := Nat.mul_lt_mul_of_pos_right a1 (Nat.pow_pos (by omega))
    rw [Nat.mul_right_comm] at a2
    have a3 : (Y e + 1) * 2 ^ s * 2 ^ (32 * e) ≤ 4294967296 * 2 ^ (32 * e) := Nat.mul_le_mul_right _ b
    rw [pow32]
    omega
  have hz : S (e + 1) = 0 := by
    by_cases c : S (e + 1) = 0
    · exact c
    · have : 1 * 2 ^ (32 * (e + 1)) ≤ S (e + 1) * 2 ^ (32 * (e + 1)) := Nat.mul_le_mul_right _ (by omega)
      have e3 : lv S (e + 1 + 1) = lv S (e + 1) + S (e + 1) * 2 ^ (32 * (e + 1)) := rfl
      omega
  have hv2 : lv S (e + 1) = lv Y (e + 1) * 2 ^ s := by
    rw [← hv]
    show _ = lv S (e + 1) + S (e + 1) * 2 ^ (32 * (e + 1))
    rw [hz]; simp
  have hS1 : 2147483648 ≤ S e := by
    have lo2 := lv_lt S e (fun j _ => hS j)
    have e3 : lv S (e + 1) = lv S e + S e * 2 ^ (32 * e) := rfl
    by_cases c : 2147483648 ≤ S e
    · exact c
    · have : (S e + 1) * 2 ^ (32 * e) ≤ 2147483648 * 2 ^ (32 * e) := Nat.mul_le_mul_right _ (by omega)
      rw [Nat.add_mul] at this
      omega
  refine ⟨?_, hv2, hS1, by omega, by omega⟩
  have n1 : nz S (e + 1) = false := by simp [nz, hz]
  have n2 : nz S e = true := by simp [nz]; omega
  simp [tlen, n1, n2]

/-- A number laid out with a zero limb on top. -/
def capped (S : Nat → Nat) (t : Nat) : Nat → Nat := fun j => if j < t then S j else 0
theorem capped_lt {S : Nat → Nat} (t : Nat) (hS : ∀ k, S k < 4294967296) : ∀ k, capped S t k < 4294967296 := fun k => by unfold capped; split; exact hS k; omega
theorem capped_top (S : Nat → Nat) (t : Nat) : capped S t t = 0 := by simp [capped]
theorem lv_capped (S : Nat → Nat) (t : Nat) : lv (capped S t) (t + 1) = lv S t := by
  simp only [lv, capped_top]
  rw [lv_congr (fun j hj => show capped S t j = S j by simp [capped, hj])]; simp

theorem shl_div {x y s : Nat} : x * 2 ^ s / (y * 2 ^ s) = x / y ∧ x * 2 ^ s % (y * 2 ^ s) / 2 ^ s = x % y := by
  have hp : 0 < 2 ^ s := Nat.pow_pos (by omega)
  refine ⟨Nat.mul_div_mul_right _ _ hp, ?_⟩
  rw [Nat.mul_mod_mul_right, Nat.mul_div_cancel _ hp]

end Go.Proofs.YtabemlkdpgglaaaDoor

/-
  Plain mathematics: greatest common divisors.
-/
namespace Go.Proofs.YtabemlkdpgglaaaDoor

theorem gcd_twice (a b : Nat) : Nat.gcd (2 * a) (2 * b) = 2 * Nat.gcd a b := Nat.gcd_mul_left 2 a b

theorem cop2 {b : Nat} (h : b % 2 = 1) : Nat.Coprime 2 b := by
  unfold Nat.Coprime
  rw [Nat.gcd_rec, h]
  rfl

theorem gcd_half_left {a b : Nat} (h : b % 2 = 1) : Nat.gcd (2 * a) b = Nat.gcd a b := Nat.Coprime.gcd_mul_left_cancel a (cop2 h)
theorem gcd_half_right {a b : Nat} (h : a % 2 = 1) : Nat.gcd a (2 * b) = Nat.gcd a b := by rw [Nat.gcd_comm, gcd_half_left h, Nat.gcd_comm]

theorem gcd_sub_left {a b : Nat} (h : b ≤ a) : Nat.gcd (a - b) b = Nat.gcd a b := by
  have e : a = (a - b) + b := by omega
  have h2 : Nat.gcd ((a - b) + b) b = Nat.gcd (a - b) b := Nat.gcd_add_self_left b (a - b)
  rw [← e] at h2; exact h2.symm
theorem gcd_sub_right {a b : Nat} (h : a ≤ b) : Nat.gcd a (b - a) = Nat.gcd a b := by rw [Nat.gcd_comm, gcd_sub_left h, Nat.gcd_comm]

theorem gcd_pow2_left {a b k : Nat} (h : b % 2 = 1) : Nat.gcd (2 ^ k * a) b = Nat.gcd a b := by
  induction k with
  | zero => simp
  | succ k ih => rw [Nat.pow_succ, Nat.mul_comm (2 ^ k) 2, Nat.mul_assoc, gcd_half_left h, ih]
theorem gcd_pow2_right {a b k : Nat} (h : a % 2 = 1) : Nat.gcd a (2 ^ k * b) = Nat.gcd a b := by rw [Nat.gcd_comm, gcd_pow2_left h, Nat.gcd_comm]

/-- The twos of two numbers come out by themselves. -/
theorem gcd_twos {a b i j : Nat} (ha : a % 2 = 1) (hb : b % 2 = 1) : Nat.gcd (2 ^ i * a) (2 ^ j * b) = 2 ^ (min i j) * Nat.gcd a b := by
  rcases Nat.le_total i j with h | h
  · rw [Nat.min_eq_left h, show j = i + (j - i) by omega, Nat.pow_add, Nat.mul_assoc, Nat.gcd_mul_left, gcd_pow2_right ha]
  · rw [Nat.min_eq_right h, show i = j + (i - j) by omega, Nat.pow_add, Nat.mul_assoc, Nat.gcd_mul_left, gcd_pow2_left hb]

/-! ### bits from a place on -/

def sh (A : Nat → Bool) (k : Nat) : Nat → Bool := fun j => A (j + k)

theorem bv_sh (A : Nat → Bool) (n : Nat) (h : 0 < n) : bv A n = 2 * bv (sh A 1) (n - 1) + (A 0).toNat := by
  obtain ⟨m, rfl⟩ : ∃ m, n = m + 1 := ⟨n - 1, by omega⟩
  rw [bv_front]; rfl

theorem bv_even {A : Nat → Bool} {n : Nat} (h : 0 < n) (h0 : A 0 = false) : bv A n = 2 * bv (sh A 1) (n - 1) := by rw [bv_sh A n h, h0]; simp
theorem bv_odd {A : Nat → Bool} {n : Nat} (h : 0 < n) (h0 : A 0 = true) : bv A n % 2 = 1 := by rw [bv_sh A n h, h0]; simp

/-- Zeros laid ahead of a list. -/
def zeros (k : Nat) (B : Nat → Bool) : Nat → Bool := fun j => if j < k then false else B (j - k)
theorem bv_zeros (k : Nat) (B : Nat → Bool) (n : Nat) : bv (zeros k B) (k + n) = 2 ^ k * bv B n := by
  rw [bv_add]
  have e1 : bv (zeros k B) k = 0 := by rw [bv_more (zeros k B) 0 k (by omega) (fun j _ hj => by simp [zeros, hj])]; rfl
  have e2 : bv (fun j => zeros k B (k + j)) n = bv B n := bv_congr (fun j _ => by simp [zeros])
  rw [e1, e2]; simp

end Go.Proofs.YtabemlkdpgglaaaDoor

/-
  Plain mathematics: the least bit that is set.
-/
namespace Go.Proofs.YtabemlkdpgglaaaDoor

theorem two_part (x : Nat) (h : 0 < x) : ∃ s k, x = 2 ^ s * (2 * k + 1) := by
  induction x using Nat.strongRecOn with
  | _ x ih =>
    by_cases e : x % 2 = 1
    · exact ⟨0, x / 2, by simp; omega⟩
    · obtain ⟨s, k, hk⟩ := ih (x / 2) (by omega) (by omega)
      refine ⟨s + 1, k, ?_⟩
      rw [Nat.pow_succ, Nat.mul_comm (2 ^ s) 2, Nat.mul_assoc, ← hk]; omega

theorem and_shift (s a b : Nat) : (2 ^ s * a) &&& (2 ^ s * b) = 2 ^ s * (a &&& b) := by
  have := Nat.shiftLeft_and_distrib (a := a) (b := b) (i := s)
  rw [Nat.shiftLeft_eq, Nat.shiftLeft_eq, Nat.shiftLeft_eq] at this
  rw [Nat.mul_comm (2 ^ s) a, Nat.mul_comm (2 ^ s) b, Nat.mul_comm (2 ^ s) (a &&& b)]
  exact this.symm

theorem and_compl (k n : Nat) (h : k < 2 ^ n) : k &&& (2 ^ n - (k + 1)) = 0 := by
  apply Nat.eq_of_testBit_eq
  intro i
  rw [Nat.testBit_and, Nat.testBit_two_pow_sub_succ h]
  cases Nat.testBit k i <;> simp

theorem and_odd (k m : Nat) (h : k &&& m = 0) : (2 * k + 1) &&& (2 * m + 1) = 1 := by
  apply Nat.eq_of_testBit_eq
  intro i
  cases i with
  | zero => simp [Nat.testBit_zero]
  | succ i =>
    rw [Nat.testBit_and, Nat.testBit_succ, Nat.testBit_succ, show (2 * k + 1) / 2 = k by omega, show (2 * m + 1) / 2 = m by omega, ← Nat.testBit_and, h, Nat.testBit_succ]

theorem low_bit {x s k : Nat} (hx : x < 4294967296) (h : x = 2 ^ s * (2 * k + 1)) : s < 32 ∧ x &&& (4294967296 - x) = 2 ^ s := by
  have hs : s < 32 := by
    by_cases c : s < 32
    · exact c
    · have h1 : 2 ^ 32 ≤ 2 ^ s := Nat.pow_le_pow_right (by omega) (by omega)
      have h2 : 2 ^ s * 1 ≤ 2 ^ s * (2 * k + 1) := Nat.mul_le_mul_left _ (by omega)
      omega
  refine ⟨hs, ?_⟩
  have hp : 2 ^ s * 2 ^ (31 - s) * 2 = 4294967296 := by rw [← Nat.pow_add, show s + (31 - s) = 31 by omega]
  have hk : k < 2 ^ (31 - s) := by
    by_cases c : k < 2 ^ (31 - s)
    · exact c
    · have h1 : 2 ^ s * (2 * 2 ^ (31 - s)) ≤ 2 ^ s * (2 * k) := Nat.mul_le_mul_left _ (by omega)
      rw [Nat.mul_comm 2 (2 ^ (31 - s)), ← Nat.mul_assoc, hp] at h1
      rw [Nat.mul_add] at h
      omega
  have e : 4294967296 - x = 2 ^ s * (2 * (2 ^ (31 - s) - (k + 1)) + 1) := by
    have e1 : 2 * (2 ^ (31 - s) - (k + 1)) + 1 = 2 * 2 ^ (31 - s) - (2 * k + 1) := by omega
    rw [e1, Nat.mul_sub, ← h, Nat.mul_comm 2 (2 ^ (31 - s)), ← Nat.mul_assoc, hp]
  rw [e, h, and_shift, and_odd _ _ (and_compl k _ hk), Nat.mul_one]

/-- The table of the least bit's place, as the program's text lays it. -/
def deB : List Nat := [0, 1, 28, 2, 29, 14, 24, 3, 30, 22, 20, 15, 25, 17, 4, 8, 31, 27, 13, 23, 21, 19, 16, 7, 26, 12, 18, 6, 11, 5, 10, 9]

theorem deB_at : ∀ s : Fin 32, 2 ^ s.val * 125613361 % 4294967296 / 134217728 < 32 ∧ deB.getD (2 ^ s.val * 125613361 % 4294967296 / 134217728) 0 = s.val := by decide

/-- The twos in a number of limbs: i limbs of zeros, then a limb with s of them. -/
theorem lv_twos {X : Nat → Nat} {n i s k : Nat} (hi : i < n) (hz : ∀ j, j < i → X j = 0) (hx : X i = 2 ^ s * (2 * k + 1)) (hs : s < 32) : ∃ q, lv X n = 2 ^ (32 * i + s) * (2 * q + 1) := by
  have e0 : lv X i = 0 := by rw [lv_more X 0 i (by omega) (fun j _ hj => hz j hj)]; rfl
  have e1 : lv X n = lv X (i + 1) + 2 ^ (32 * (i + 1)) * lv (fun t => X (i + 1 + t)) (n - (i + 1)) := by
    have := lv_add X (i + 1) (n - (i + 1))
    rw [show i + 1 + (n - (i + 1)) = n by omega] at this; exact this
  have e2 : lv X (i + 1) = 2 ^ (32 * i + s) * (2 * k + 1) := by
    simp only [lv, e0, Nat.zero_add]
    rw [hx, Nat.pow_add, Nat.mul_right_comm, Nat.mul_comm (2 ^ s)]
  generalize lv (fun t => X (i + 1 + t)) (n - (i + 1)) = r at *
  refine ⟨k + 2 ^ (31 - s) * r, ?_⟩
  rw [e1, e2]
  have e3 : 2 ^ (32 * (i + 1)) = 2 ^ (32 * i + s) * (2 * 2 ^ (31 - s)) := by
    have h1 : 32 * (i + 1) = (32 * i + s) + ((31 - s) + 1) := by omega
    rw [h1, Nat.pow_add, Nat.pow_succ, Nat.mul_comm (2 ^ (31 - s)) 2]
  rw [e3, Nat.mul_assoc (2 ^ (32 * i + s)), ← Nat.mul_add]
  have e4 : 2 * k + 1 + 2 * 2 ^ (31 - s) * r = 2 * (k + 2 ^ (31 - s) * r) + 1 := by rw [Nat.mul_add, Nat.mul_assoc]; omega
  rw [e4]

end Go.Proofs.YtabemlkdpgglaaaDoor

namespace Go.Proofs.YtabemlkdpgglaaaDoor
open Go.RowKit

set_option maxHeartbeats 800000 in
set_option maxRecDepth 100000 in
theorem isOne_any (c o : Nat) (a : Option Addr) (b off n cap : Nat) (X : Nat → Nat) (w : World) (hc0 : w.cell? ⟨c, o, none⟩ = some (.slice a n cap)) (hX : Limbs w a b off n X) (hXl : ∀ j, j < n → X j < 4294967296) (tX : 0 < n → X (n - 1) ≠ 0) :
    Calls Tryd.prog 37 #[.pointer (some ⟨c, o, none⟩)] w fun e w' => e = .returned (.bool (decide (lv X n = 1))) ∧ w' = w := by
  by_cases h1 : n = 1
  · subst h1
    obtain ⟨rfl, k⟩ := hX 0 (by omega)
    rw [Nat.add_zero] at k
    have e : lv X 1 = X 0 := by simp [lv]
    rw [e]
    by_cases h2 : X 0 = 1
    · rw [h2] at k ⊢
      clear tX hXl
      go_enter Tryd.func37, Tryd.ntmps37
      go_wp2
      go_ret
      exact ⟨rfl, rfl⟩
    · have hne : ((X 0 : Int) == 1) = false := by simp; omega
      have e2 : decide (X 0 = 1) = false := by simp [h2]
      rw [e2]
      clear tX hXl h2
      go_enter Tryd.func37, Tryd.ntmps37
      go_wp2
      go_ret
      exact ⟨rfl, rfl⟩
  · have e2 : decide (lv X n = 1) = false := by
      simp only [decide_eq_false_iff_not]
      intro h
      by_cases h0 : n = 0
      · subst h0; simp [lv] at h
      · have := lv_ge X n (by omega) (tX (by omega))
        have h3 : 2 ^ (32 * 1) ≤ 2 ^ (32 * (n - 1)) := Nat.pow_le_pow_right (by omega) (by omega)
        omega
    have hne : ((n : Int) == 1) = false := by simp; omega
    rw [e2]
    clear tX hXl h1 e2
    go_enter Tryd.func37, Tryd.ntmps37
    go_wp2
    go_ret
    exact ⟨rfl, rfl⟩

set_option maxHeartbeats 800000 in
set_option maxRecDepth 100000 in
theorem isShort_any (c o : Nat) (a : Option Addr) (n cap : Nat) (w : World) (hc0 : w.cell? ⟨c, o, none⟩ = some (.slice a n cap)) :
    Calls Tryd.prog 65 #[.pointer (some ⟨c, o, none⟩)] w fun e w' => e = .returned (.bool (decide ((n : Int) ≤ 2))) ∧ w' = w := by
  go_enter Tryd.func65, Tryd.ntmps65
  go_wp2
  go_ret
  exact ⟨rfl, rfl⟩

set_option maxHeartbeats 800000 in
set_option maxRecDepth 100000 in
theorem short_any (c o : Nat) (a : Option Addr) (b off n cap : Nat) (X : Nat → Nat) (w : World) (hn : n ≤ 2) (hc0 : w.cell? ⟨c, o, none⟩ = some (.slice a n cap)) (hX : Limbs w a b off n X) (hXl : ∀ j, j < n → X j < 4294967296) :
    Calls Tryd.prog 68 #[.pointer (some ⟨c, o, none⟩)] w fun e w' => e = .returned (.int .u64 (lv X n)) ∧ w' = w := by
  go_enter Tryd.func68, Tryd.ntmps68
  go_wp2
  go_loop [3, 10] (fun x t => ∃ i v : Nat, i ≤ n ∧ t = .int .i64 i ∧ x = .int .u64 v ∧ Hid (v = lv X i)) (fun _ t => n - (intOf t).toNat)
  case atStart => exact ⟨0, 0, Nat.zero_le _, rfl, rfl, rfl⟩
  case round =>
    obtain ⟨i, v, hi, rfl, rfl, HV⟩ := hrel
    by_cases hlt : i < n
    · obtain ⟨rfl, k⟩ := hX i hlt
      have hx := hXl i hlt
      have hi2 : i = 0 ∨ i = 1 := by omega
      rcases hi2 with rfl | rfl
      · rw [Nat.add_zero] at k
        have v0 : v = 0 := HV.out
        subst v0
        have hor := u64_or_nat 0 (X 0) (by omega) (by omega)
        rw [Nat.zero_or] at hor
        go_wp2
        go_round
        case rel =>
          go_light
          refine ⟨1, X 0, by omega, rfl, ?_, by simp [Hid, lv]⟩
          exact congrArg (Value.int .u64) (by simpa using hor)
        case measure => simp [intOf]; omega
      · have v0 : v = X 0 := by have := HV.out; simpa [lv] using this
        have hv := hXl 0 (by omega)
        rw [← v0] at hv
        have hor := or64b v (X 1) hv hx
        go_wp2
        go_round
        case rel =>
          go_light
          refine ⟨2, v + X 1 * 4294967296, by omega, rfl, ?_, by rw [v0]; simp [Hid, lv]⟩
          exact congrArg (Value.int .u64) (by rw [← v0, hor]; omega)
        case measure => simp [intOf]; omega
    · have e : i = n := by omega
      subst e
      go_wp2
      go_ret
      exact ⟨ret_int (congrArg (fun x : Nat => (x : Int)) HV.out), rfl⟩

set_option maxHeartbeats 800000 in
set_option maxRecDepth 100000 in
theorem shortGcd_any (x y : Nat) (w : World) (hx : x < 18446744073709551616) (hy : y < 18446744073709551616) :
    Calls Tryd.prog 67 #[.int .u64 x, .int .u64 y] w fun e w' => e = .returned (.int .u64 (Nat.gcd x y)) ∧ Same w w' := by
  go_enter Tryd.func67, Tryd.ntmps67
  go_wp2
  go_loopw [0, 1] (fun p q wr => ∃ s t : Nat, p = .int .u64 s ∧ q = .int .u64 t ∧ s < 18446744073709551616 ∧ t < 18446744073709551616 ∧ Hid (Nat.gcd s t = Nat.gcd x y) ∧ Same w wr) (fun _ q _ => (intOf q).toNat)
  case atStart => exact ⟨x, y, rfl, rfl, hx, hy, rfl, Same.refl _⟩
  case round =>
    obtain ⟨s, t, rfl, rfl, hs, ht, HG, sm⟩ := hrel
    by_cases h0 : t = 0
    · subst h0
      go_wp2
      go_ret
      exact ⟨ret_int (congrArg (fun x : Nat => (x : Int)) (by have := HG.out; rwa [Nat.gcd_zero_right] at this)), sm⟩
    · have hne : ((t : Int) == 0) = false := by simp; omega
      have hne2 : ¬ (t : Int) = 0 := by omega
      obtain ⟨r, hr⟩ : ∃ r, r = s % t := ⟨_, rfl⟩
      have hrl : r < t := by rw [hr]; exact Nat.mod_lt _ (by omega)
      have w1 : IntKind.u64.wrap ((s : Int) % (t : Int)) = (r : Int) := by rw [← Int.natCast_emod, ← hr]; exact wrap_u64_id r (by omega)
      have HR := hide hr
      clear hr h0
      go_wp2
      go_quiet (fail)
      go_wp2
      go_roundw
      case rel =>
        refine ⟨t, r, rfl, ?_, ht, by omega, ?_, sm.drewN _⟩
        · first | rfl | exact congrArg (Value.int .u64) (by rw [HR.out, Int.natCast_emod])
        · have h := HG.out
          rw [Nat.gcd_comm, Nat.gcd_rec, ← HR.out, Nat.gcd_comm] at h
          exact h
      case measure => simp [intOf]; have := Int.emod_lt_of_pos (s : Int) (show (0 : Int) < (t : Int) by omega); omega

set_option maxHeartbeats 800000 in
set_option maxRecDepth 100000 in
theorem natOfShort_any (v : Nat) (w : World) (hv : v < 18446744073709551616) :
    Calls Tryd.prog 66 #[.int .u64 v] w fun e w' => ∃ S, e = .returned (.slice (some ⟨w.heap.size, 0, none⟩) (tlen (nz S) 2) 2) ∧ w'.rowIs w.heap.size 58 2 (fun j => .int .u32 (S j : Nat)) ∧ (∀ k, S k < 4294967296) ∧ lv S 2 = v ∧ w.Since w.heap.size w' := by
  go_enter Tryd.func66, Tryd.ntmps66
  go_wp2_with fail
  obtain ⟨S, hS⟩ : ∃ S : Nat → Nat, S = fun j => if j = 0 then v % 4294967296 else if j = 1 then v / 4294967296 else 0 := ⟨_, rfl⟩
  have s0 : S 0 = v % 4294967296 := by rw [hS]; rfl
  have s1 : S 1 = v / 4294967296 := by rw [hS]; rfl
  have hSl : ∀ k, S k < 4294967296 := fun k => by rw [hS]; show (if k = 0 then _ else if k = 1 then _ else 0) < _; split; omega; split <;> omega
  have r0 := World.rowIs_alloc w #[.int .u32 ((v : Int) % 4294967296), .int .u32 ((v : Int) / 4294967296)] 58 (fun j => .int .u32 (S j : Nat)) (fun i hi => by
    have h2 : i = 0 ∨ i = 1 := by simp at hi; omega
    rcases h2 with rfl | rfl
    · simp [s0]
    · simp [s1])
  have r1 : (w.alloc (.cells #[.int .u32 ((v : Int) % 4294967296), .int .u32 ((v : Int) / 4294967296)] 58)).rowIs w.heap.size 58 2 (fun j => .int .u32 (S j : Nat)) := r0
  have r2 := r1.alloc (.cells #[.slice (some ⟨w.heap.size, 0, none⟩) 2 2] 55)
  have S2 : w.Since w.heap.size ((w.alloc (.cells #[.int .u32 ((v : Int) % 4294967296), .int .u32 ((v : Int) / 4294967296)] 58)).alloc (.cells #[.slice (some ⟨w.heap.size, 0, none⟩) 2 2] 55)) := ((World.Since.refl _ _).alloc (Nat.le_refl _) _).alloc (by simp) _
  have bx : ((w.alloc (.cells #[.int .u32 ((v : Int) % 4294967296), .int .u32 ((v : Int) / 4294967296)] 58)).alloc (.cells #[.slice (some ⟨w.heap.size, 0, none⟩) 2 2] 55)).rowIs (w.heap.size + 1) 55 1 (fun _ => .slice (some ⟨w.heap.size, 0, none⟩) 2 2) := by
    have := World.rowIs_alloc (w.alloc (.cells #[.int .u32 ((v : Int) % 4294967296), .int .u32 ((v : Int) / 4294967296)] 58)) #[.slice (some ⟨w.heap.size, 0, none⟩) 2 2] 55 (fun _ => .slice (some ⟨w.heap.size, 0, none⟩) 2 2) (fun i hi => by simp at hi; subst hi; rfl)
    simpa using this
  generalize (w.alloc (.cells #[.int .u32 ((v : Int) % 4294967296), .int .u32 ((v : Int) / 4294967296)] 58)).alloc (.cells #[.slice (some ⟨w.heap.size, 0, none⟩) 2 2] 55) = w1 at *
  clear r0 r1 hS
  have q0 := bx.cell (i := 0) (by omega)
  have q1 := bx.frozen 0
  refine (trimAt_any (w.heap.size + 1) 0 _ w.heap.size 0 2 2 S _ (by omega) (Nat.le_refl _) q0 q1 (limbs_row r2)).mono ?_
  rintro e w2 ⟨rfl, hw2⟩
  have c2 : w2.cell? ⟨w.heap.size + 1, 0, none⟩ = some (.slice (some ⟨w.heap.size, 0, none⟩) (tlen (nz S) 2) 2) := by rw [hw2]; exact World.cell?_setCell_same _ _ _ q0
  have r3 : w2.rowIs w.heap.size 58 2 (fun j => .int .u32 (S j : Nat)) := by rw [hw2]; exact r2.setOther (by simp) _
  have S3 : w.Since w.heap.size w2 := by rw [hw2]; exact S2.setCell (Nat.le_succ _) _
  have HV : Hid (lv S 2 = v) := by show lv S 2 = v; simp only [lv, s0, s1]; simp; omega
  clear hw2 q0 q1 r2 bx S2 s0 s1
  go_wp2
  go_ret
  exact ⟨S, rfl, r3, hSl, HV.out, S3⟩

def Tab (w : World) : Prop := ∀ j, j < 32 → w.cell? ⟨0, j, none⟩ = some (.int .u8 (deB.getD j 0))

set_option maxHeartbeats 800000 in
set_option maxRecDepth 100000 in
theorem tz32_any (x : Nat) (w : World) (h0 : 0 < x) (hx : x < 4294967296) (hT : Tab w) :
    Calls Tryd.prog 113 #[.int .u32 x] w fun e w' => ∃ s k : Nat, e = .returned (.int .i64 s) ∧ w' = w ∧ s < 32 ∧ x = 2 ^ s * (2 * k + 1) := by
  have hne : ((x : Int) == 0) = false := by simp; omega
  obtain ⟨s, k, hk⟩ := two_part x h0
  obtain ⟨hs, hb⟩ := low_bit hx hk
  have hand : bits .and .u32 (x : Int) (-(x : Int) % 4294967296) = ((2 ^ s : Nat) : Int) := by
    rw [show -(x : Int) % 4294967296 = ((4294967296 - x : Nat) : Int) by omega, u32_and_nat x _ hx (by omega), hb]
  obtain ⟨q, hq⟩ : ∃ q, q = 2 ^ s := ⟨_, rfl⟩
  rw [← hq] at hand
  have hd := deB_at ⟨s, hs⟩
  simp only at hd
  rw [← hq] at hd
  have hql : q < 4294967296 := by rw [hq]; have : 2 ^ s < 2 ^ 32 := Nat.pow_lt_pow_right (by omega) hs; omega
  have hcell := hT (q * 125613361 % 4294967296 / 134217728) hd.1
  rw [hd.2] at hcell
  have hix : ((q : Int) * 125613361 % 4294967296 / 134217728).toNat = q * 125613361 % 4294967296 / 134217728 := by
    have h : ((q * 125613361 % 4294967296 / 134217728 : Nat) : Int) = (q : Int) * 125613361 % 4294967296 / 134217728 := by rw [Int.natCast_ediv, Int.natCast_emod, Int.natCast_mul]; rfl
    rw [← h]; exact Int.toNat_natCast _
  have hxe := hide hk
  clear hk hb hq hd
  go_enter Tryd.func113, Tryd.ntmps113
  go_wp2
  go_ret
  go_light
  exact ⟨s, k, rfl, rfl, hs, hxe.out⟩

set_option maxHeartbeats 800000 in
set_option maxRecDepth 100000 in
/-- (*nat).twos of a number that is not nought: whole limbs and a part. -/
theorem twos_any (c o : Nat) (a : Option Addr) (b off n cap : Nat) (X : Nat → Nat) (w : World) (hn : n ≤ 16777216) (hc0 : w.cell? ⟨c, o, none⟩ = some (.slice a n cap)) (hX : Limbs w a b off n X) (hXl : ∀ j, j < n → X j < 4294967296) (h0 : 0 < lv X n) (hT : Tab w) :
    Calls Tryd.prog 93 #[.pointer (some ⟨c, o, none⟩)] w fun e w' => ∃ i s q : Nat, e = .returned (.int .i64 ((32 * i + s : Nat) : Int)) ∧ w' = w ∧ i < n ∧ s < 32 ∧ lv X n = 2 ^ (32 * i + s) * (2 * q + 1) := by
  have H0 := hide h0
  clear h0
  go_enter Tryd.func93, Tryd.ntmps93
  go_wp2
  go_loop [9] (fun t => ∃ i : Nat, i ≤ n ∧ t = .int .i64 i ∧ Hid (∀ j, j < i → X j = 0)) (fun t => n - (intOf t).toNat)
  case atStart => exact ⟨0, Nat.zero_le _, rfl, fun j hj => absurd hj (by omega)⟩
  case round =>
    obtain ⟨i, hi, rfl, HZ⟩ := hrel
    by_cases hlt : i < n
    · obtain ⟨rfl, k⟩ := hX i hlt
      have hx := hXl i hlt
      by_cases h1 : X i = 0
      · have HX0 := hide h1
        rw [h1] at k
        clear h1
        go_wp2
        go_round
        case rel =>
          refine ⟨i + 1, by omega, by go_num, fun j hj => ?_⟩
          by_cases e : j = i
          · subst e; exact HX0.out
          · exact HZ.out j (by omega)
        case measure => simp [intOf]; omega
      · have hne : ((X i : Int) == 0) = false := by simp; omega
        go_wp2_with fail
        refine (tz32_any (X i) _ (by omega) hx hT).mono ?_
        rintro e w1 ⟨s, kk, rfl, rfl, hs, hxk⟩
        obtain ⟨q, hq⟩ := lv_twos hlt HZ.out hxk hs
        have HQ := hide hq
        clear hq hxk
        go_wp2
        go_ret
        exact ⟨i, s, q, ret_int (by omega), rfl, hlt, hs, HQ.out⟩
    · exfalso
      have e : lv X n = 0 := by rw [lv_more X 0 n (by omega) (fun j _ hj => HZ.out j (by omega))]; rfl
      have := H0.out
      omega

end Go.Proofs.YtabemlkdpgglaaaDoor

namespace Go.Proofs.YtabemlkdpgglaaaDoor
open Go.RowKit

theorem bitLen_zero : Lib.bitLen 0 = 0 := by decide

theorem bitLen_spec2 : ∀ (f x : Nat), f ≤ 64 → x < 2 ^ f → x ≠ 0 → 1 ≤ Lib.bitLen x ∧ 2 ^ (Lib.bitLen x - 1) ≤ x ∧ x < 2 ^ Lib.bitLen x := by
  intro f
  induction f with
  | zero => intro x _ h h0; simp at h; omega
  | succ f ih =>
    intro x hf h h0
    have hx64 : x < 2 ^ 64 := Nat.lt_of_lt_of_le h (Nat.pow_le_pow_right (by omega) hf)
    rw [Lib.bitLen_half x h0 hx64]
    by_cases h1 : x / 2 = 0
    · have hx1 : x = 1 := by omega
      subst hx1
      simp [bitLen_zero]
    · obtain ⟨a1, a2, a3⟩ := ih (x / 2) (by omega) (by rw [Nat.pow_succ] at h; omega) h1
      generalize Lib.bitLen (x / 2) = n at *
      refine ⟨by omega, ?_, ?_⟩
      · rw [show 1 + n - 1 = (n - 1) + 1 by omega, Nat.pow_succ]; omega
      · rw [Nat.add_comm, Nat.pow_succ]; omega

theorem tab_size : (Lib.len8tab.size : Int) = 256 := by have := Lib.len8tab_size; omega

theorem tab_get (y : Int) (h : y.toNat < Lib.len8tab.size) (h0 : 0 ≤ y) (h1 : y ≤ 255) : ((Lib.len8tab[y.toNat]'h).toNat : Int) = (Lib.bitLen y.toNat : Int) := by
  rw [← Lib.len8_of y h0 h1]
  unfold Lib.len8
  rw [getElem?_pos Lib.len8tab y.toNat h]
  rfl

theorem wrap_one (a : Nat) (ha : a ≤ 64) : wrap64 (a : Int) = (a : Int) := by unfold wrap64; omega

set_option maxHeartbeats 4000000 in
set_option maxRecDepth 100000 in
theorem len32_any (x : Int) (w : World) (h0 : 0 ≤ x) (hx : x ≤ 4294967295) :
    Calls Tryd.prog 136 #[.int .u32 x] w fun e w' => e = .returned (.int .i64 (Lib.bitLen x.toNat)) ∧ w' = w := by
  have hsz := tab_size
  go_enter Tryd.func136, Tryd.ntmps136
  go_wp2
  all_goals (go_ret; refine ⟨congrArg Ending.returned (congrArg (Value.int IntKind.i64) ?_), rfl⟩)
  all_goals go_light
  · have l := Lib.bitLen_le8' (x / 65536 / 256) (by omega) (by omega)
    rw [tab_get (x / 65536 / 256) _ (by omega) (by omega), wrap_one _ (by omega)]
    have e : (x / 65536 / 256).toNat = x.toNat / 16777216 := by omega
    rw [e] at l ⊢
    rw [show (24 : Int) + (Lib.bitLen (x.toNat / 16777216) : Int) = ((24 + Lib.bitLen (x.toNat / 16777216) : Nat) : Int) by omega, wrap_one _ (by omega), Lib.bitLen_shift24 x.toNat (by omega) (by omega)]
  · have l := Lib.bitLen_le8' (x / 65536) (by omega) (by omega)
    rw [tab_get (x / 65536) _ (by omega) (by omega), wrap_one _ (by omega)]
    have e : (x / 65536).toNat = x.toNat / 65536 := by omega
    rw [e] at l ⊢
    rw [show (16 : Int) + (Lib.bitLen (x.toNat / 65536) : Int) = ((16 + Lib.bitLen (x.toNat / 65536) : Nat) : Int) by omega, wrap_one _ (by omega), Lib.bitLen_shift16 x.toNat (by omega) (by omega)]
  · have l := Lib.bitLen_le8' (x / 256) (by omega) (by omega)
    rw [tab_get (x / 256) _ (by omega) (by omega), wrap_one _ (by omega)]
    have e : (x / 256).toNat = x.toNat / 256 := by omega
    rw [e] at l ⊢
    rw [show (8 : Int) + (Lib.bitLen (x.toNat / 256) : Int) = ((8 + Lib.bitLen (x.toNat / 256) : Nat) : Int) by omega, wrap_one _ (by omega), Lib.bitLen_shift8 x.toNat (by omega) (by omega)]
  · have l := Lib.bitLen_le8' x (by omega) (by omega)
    rw [tab_get x _ (by omega) (by omega), wrap_one _ (by omega), wrap_one _ (by omega)]

set_option maxHeartbeats 800000 in
set_option maxRecDepth 100000 in
/-- LeadingZeros32 of a limb that is not 0: shifted by it, the limb's top bit is set. -/
theorem lz32_any (x : Nat) (w : World) (h0 : 0 < x) (hx : x < 4294967296) :
    Calls Tryd.prog 123 #[.int .u32 x] w fun e w' => ∃ s : Nat, e = .returned (.int .i64 s) ∧ w' = w ∧ s < 32 ∧ 2147483648 ≤ x * 2 ^ s ∧ x * 2 ^ s < 4294967296 := by
  have hs := bitLen_spec2 32 x (by omega) (by omega) (by omega)
  have hle := Lib.bitLen_le x 32 (by omega) (by omega)
  have H := hide hs
  have h1 := hs.1
  clear hs
  go_enter Tryd.func123, Tryd.ntmps123
  go_wp2_with fail
  refine (len32_any _ _ (by omega) (by omega)).mono ?_
  rintro e w1 ⟨rfl, rfl⟩
  rw [Int.toNat_natCast]
  generalize Lib.bitLen x = n at *
  go_wp2
  go_ret
  refine ⟨32 - n, ret_int (by omega), rfl, by omega, ?_, ?_⟩
  · have h2 := Nat.mul_le_mul_right (2 ^ (32 - n)) H.out.2.1
    rw [← Nat.pow_add, show n - 1 + (32 - n) = 31 by omega] at h2
    omega
  · have h3 := Nat.mul_lt_mul_of_pos_right H.out.2.2 (Nat.pow_pos (n := 32 - n) (show 0 < 2 by omega))
    rw [← Nat.pow_add, show n + (32 - n) = 32 by omega] at h3
    omega

end Go.Proofs.YtabemlkdpgglaaaDoor

namespace Go.Proofs.YtabemlkdpgglaaaDoor
open Go.RowKit

set_option maxHeartbeats 3200000 in
set_option maxRecDepth 100000 in
/-- The loop of guessDigit, and what stands behind it, by itself would need the frame; so the whole function at once. -/
theorem guess_any (c o b nn cap b' dl cap' p : Nat) (W Y : Nat → Nat) (w : World) (hnn : nn ≤ 16777216) (hdl : 2 ≤ dl) (hat : p + dl < nn)
    (hc0 : w.cell? ⟨c, o, none⟩ = some (.slice (some ⟨b, 0, none⟩) nn cap)) (hW : Limbs w (some ⟨b, 0, none⟩) b 0 nn W) (hY : Limbs w (some ⟨b', 0, none⟩) b' 0 dl Y)
    (hWl : ∀ k, W k < 4294967296) (hYl : ∀ j, j < dl → Y j < 4294967296) (hv : 2147483648 ≤ Y (dl - 1)) (hu : W (p + dl) ≤ Y (dl - 1)) :
    Calls Tryd.prog 124 #[.pointer (some ⟨c, o, none⟩), .slice (some ⟨b', 0, none⟩) dl cap', .int .i64 p] w fun e w' =>
      e = .returned (.int .u32 ((guess3 (W (p + dl)) (W (p + dl - 1)) (W (p + dl - 2)) (Y (dl - 1)) (Y (dl - 2)) : Nat) : Int)) ∧ Same w w' := by
  have k0 : w.cell? ⟨b, p + dl, none⟩ = some (.int .u32 (W (p + dl))) := by simpa using (hW (p + dl) (by omega)).2
  have k1 : w.cell? ⟨b, p + dl - 1, none⟩ = some (.int .u32 (W (p + dl - 1))) := by simpa using (hW (p + dl - 1) (by omega)).2
  have k2 : w.cell? ⟨b, p + dl - 2, none⟩ = some (.int .u32 (W (p + dl - 2))) := by simpa using (hW (p + dl - 2) (by omega)).2
  have k3 : w.cell? ⟨b', dl - 1, none⟩ = some (.int .u32 (Y (dl - 1))) := by simpa using (hY (dl - 1) (by omega)).2
  have k4 : w.cell? ⟨b', dl - 2, none⟩ = some (.int .u32 (Y (dl - 2))) := by simpa using (hY (dl - 2) (by omega)).2
  have l0 := hWl (p + dl)
  have l1 := hWl (p + dl - 1)
  have l2 := hWl (p + dl - 2)
  have l3 := hYl (dl - 1) (by omega)
  have l4 := hYl (dl - 2) (by omega)
  clear hWl hYl hW hY
  obtain ⟨u0, e0⟩ : ∃ x, x = W (p + dl) := ⟨_, rfl⟩
  obtain ⟨u1, e1⟩ : ∃ x, x = W (p + dl - 1) := ⟨_, rfl⟩
  obtain ⟨u2, e2⟩ : ∃ x, x = W (p + dl - 2) := ⟨_, rfl⟩
  obtain ⟨v1, e3⟩ : ∃ x, x = Y (dl - 1) := ⟨_, rfl⟩
  obtain ⟨v2, e4⟩ : ∃ x, x = Y (dl - 2) := ⟨_, rfl⟩
  rw [← e0] at k0 l0 hu ⊢
  rw [← e1] at k1 l1 ⊢
  rw [← e2] at k2 l2 ⊢
  rw [← e3] at k3 l3 hu hv ⊢
  rw [← e4] at k4 l4 ⊢
  clear e0 e1 e2 e3 e4
  have t1 : IntKind.u64.wrap (v1 : Int) = (v1 : Int) := wrap_u64_id v1 (by omega)
  have t2 : IntKind.u64.wrap (v2 : Int) = (v2 : Int) := wrap_u64_id v2 (by omega)
  have t3 : IntKind.u64.wrap (u0 : Int) = (u0 : Int) := wrap_u64_id u0 (by omega)
  have t4 : IntKind.u64.wrap (u1 : Int) = (u1 : Int) := wrap_u64_id u1 (by omega)
  have t5 := or64 u0 u1 l0 l1
  have t6 : IntKind.u64.wrap ((u0 : Int) * 4294967296) = (u0 : Int) * 4294967296 := by rw [IntKind.wrap_u64]; omega
  have d1 : (1 : Int) ≤ (dl : Int) := by omega
  go_enter Tryd.func124, Tryd.ntmps124
  go_wp2
  go_quiet (fail)
  go_wp2
  go_quiet (fail)
  go_wp2
  clear t5 t6 t3 t4 k0 k1 k3 k4
  obtain ⟨l, hl⟩ : ∃ l, l = u0 * 4294967296 + u1 := ⟨_, rfl⟩
  have hli : (u0 : Int) * 4294967296 + (u1 : Int) = (l : Int) := by omega
  have hll : l < 18446744073709551616 := by omega
  rw [hli]
  clear hli
  have HG0 := hide (guess_start (u0 := u0) (u1 := u1) (v2 := v2) (show 0 < v1 by omega) l2)
  rw [← hl] at HG0
  obtain ⟨g0, hg0⟩ : ∃ g, g = l / v1 := ⟨_, rfl⟩
  obtain ⟨r0, hr0⟩ : ∃ g, g = l % v1 := ⟨_, rfl⟩
  rw [← hg0, ← hr0] at HG0
  have hr0l : r0 ≤ 4294967295 := by have := Nat.mod_lt l (show 0 < v1 by omega); omega
  have hg0l : g0 < 18446744073709551616 := by rw [hg0]; exact Nat.lt_of_le_of_lt (Nat.div_le_self _ _) hll
  have s1 : IntKind.u64.wrap ((l : Int) / (v1 : Int)) = (g0 : Int) := by rw [← Int.natCast_ediv, ← hg0]; exact wrap_u64_id g0 hg0l
  have s2 : IntKind.u64.wrap ((l : Int) % (v1 : Int)) = (r0 : Int) := by rw [← Int.natCast_emod, ← hr0]; exact wrap_u64_id r0 (by omega)
  have s3 : ¬ (v1 : Int) = 0 := by omega
  have HR0 := hide hr0
  have HL := hide hg0
  clear hg0 hr0 hl
  go_quiet (fail)
  go_wp2
  clear s1 s2 s3 t1 t2 hll
  go_loop [11, 12] (fun x y => ∃ g r : Nat, x = .int .u64 g ∧ y = .int .u64 r ∧ r ≤ 4294967295 ∧ Hid (GuessRel u0 u1 u2 v1 v2 g r)) (fun x _ => (intOf x).toNat)
  case atStart => exact ⟨g0, r0, by first | rfl | exact congrArg (Value.int .u64) (by rw [HL.out, Int.natCast_ediv]), congrArg (Value.int .u64) (by rw [HR0.out, Int.natCast_emod]), hr0l, HG0⟩
  case round =>
    clear HG0 hr0l hg0l HR0 HL
    obtain ⟨g, r, rfl, rfl, hr, HG⟩ := hrel
    have hgl := guess_small HG.out hv hu l1
    by_cases hA : 4294967295 < g
    · obtain ⟨hg1, hd⟩ := guess_down HG.out (Or.inl hA)
      have HD := hide hd
      have HB := hide (fun h => guess_break hd (show 0 < v1 by omega) l4 hu l1 h)
      clear hd
      by_cases hB : 4294967295 < r + v1
      · have HB := hide (HB.out hB)
        go_wp2
        go_ret
        exact ⟨ret_int (by have := HB.out; omega), (Same.refl _).drewN _⟩
      · clear HB
        go_wp2
        go_light
        exact ⟨⟨g - 1, by omega, r + v1, by omega, by omega, HD⟩, by simp [intOf]; omega⟩
    · have hor := or64 r u2 (by omega) l2
      have hp1 : g * v2 ≤ 4294967295 * 4294967295 := Nat.mul_le_mul (by omega) (by omega)
      have hm0 : (0 : Int) ≤ (g : Int) * (v2 : Int) := by rw [← Int.natCast_mul]; omega
      have hm1 : (g : Int) * (v2 : Int) ≤ 18446744065119617025 := by rw [← Int.natCast_mul]; omega
      by_cases hC : r * 4294967296 + u2 < g * v2
      · obtain ⟨hg1, hd⟩ := guess_down HG.out (Or.inr hC)
        have HD := hide hd
        have HB := hide (fun h => guess_break hd (show 0 < v1 by omega) l4 hu l1 h)
        have hCi : (r : Int) * 4294967296 + (u2 : Int) < (g : Int) * (v2 : Int) := by rw [← Int.natCast_mul]; omega
        clear hd hp1 hC
        by_cases hB : 4294967295 < r + v1
        · have HB := hide (HB.out hB)
          go_wp2
          go_ret
          exact ⟨ret_int (by have := HB.out; omega), (Same.refl _).drewN _⟩
        · clear HB
          go_wp2
          go_light
          exact ⟨⟨g - 1, by omega, r + v1, by omega, by omega, HD⟩, by simp [intOf]; omega⟩
      · have HS := hide (guess_stop HG.out (show 0 < v1 by omega) (by omega) (by omega))
        have hCi : (g : Int) * (v2 : Int) ≤ (r : Int) * 4294967296 + (u2 : Int) := by rw [← Int.natCast_mul]; omega
        clear hp1 hC
        go_wp2
        go_ret
        exact ⟨ret_int (by have := HS.out; omega), (Same.refl _).drewN _⟩

end Go.Proofs.YtabemlkdpgglaaaDoor

namespace Go.Proofs.YtabemlkdpgglaaaDoor
open Go.RowKit

theorem own_bits_some {w : World} {base : Nat} {v : Value} {m : Nat} {B : Nat → Bool} (h : w.ownsRow base 4 1 v m (bl B m)) (hv : v ≠ .slice none 0 0) :
    ∃ g cap, v = .slice (some ⟨g, 0, none⟩) m cap ∧ m ≤ cap ∧ base ≤ g ∧ Bits w (some ⟨g, 0, none⟩) g 0 m B := by
  have hc := @World.ownsRow.cells _ _ _ _ _ _ _ h
  rcases h.2 with ⟨rfl, rfl⟩ | ⟨g, cap, cur, rfl, hb, hg, hm, _⟩
  · exact absurd rfl hv
  · refine ⟨g, cap, rfl, hm, hb, fun j hj => ⟨rfl, ?_⟩⟩
    have := hc (g := g) rfl j _ (bl_get B m j hj)
    rw [Addr.add_lit] at this; exact this

theorem bl_congr {B C : Nat → Bool} {m : Nat} (h : ∀ j, j < m → B j = C j) : bl B m = bl C m := by
  unfold bl
  exact List.map_congr_left (fun j hj => by rw [h j (List.mem_range.1 hj)])

theorem bl_upd (D : Nat → Bool) (i : Nat) (v : Bool) : bl (upd D i v) (i + 1) = bl D i ++ [.bool v] := by
  rw [bl_succ, upd_same, bl_congr (fun j hj => upd_other D i v j (by omega))]

/-- A new cell, read at its place. -/
theorem new_cell (w : World) (x : Value) (t : TypeId) : ∀ j u, [x][j]? = some u → (w.alloc (.cells #[x] t)).cell? ((⟨w.heap.size, 0, none⟩ : Addr).add j) = some u := by
  intro j u hj
  match j, hj with
  | 0, hj => simp at hj; subst hj; simp [Addr.add]

theorem one_one (x : Value) (h : x.oneCell' = true) : ∀ u ∈ [x], u.oneCell' = true := by
  intro u hu; simp at hu; subst hu; exact h

theorem not_eq3 (x y c : Bool) : (!(!x == y) == c) = ((x != y) != c) := by cases x <;> cases y <;> cases c <;> rfl
theorem not_eq2 (x c : Bool) : (!(x == c)) = ((x != false) != c) := by cases x <;> cases c <;> rfl

set_option maxHeartbeats 6400000 in
set_option maxRecDepth 100000 in
theorem l1SubBits_any (a a' : Option Addr) (b off n cap b' off' m cap' : Nat) (A B : Nat → Bool) (w : World) (hn : n ≤ 268435456) (hm : m ≤ n) (hA : Bits w a b off n A) (hB : Bits w a' b' off' m B) (hle : bv B m ≤ bv A n) :
    Calls Tryd.prog 59 #[.slice a n cap, .slice a' m cap'] w fun e w' => ∃ g t cap'' D, e = .returned (.slice (some ⟨g, 0, none⟩) t cap'') ∧ t ≤ cap'' ∧ t ≤ n ∧ Bits w' (some ⟨g, 0, none⟩) g 0 t D ∧ w.heap.size ≤ g ∧
      (0 < t → D (t - 1) = true) ∧ bv D t = bv A n - bv B m ∧ w.Since w.heap.size w' := by
  obtain ⟨i0, hi, hz0, hz1, hz2⟩ := info_parts Tryd.info4
  have HL : Hid (bv B m ≤ bv A n) := hle
  clear hle
  go_enter Tryd.func59, Tryd.ntmps59
  go_wp2
  go_loopw [5, 6, 7] (fun v c t wr => ∃ (i : Nat) (cb : Bool) (D : Nat → Bool), i ≤ n ∧ t = .int .i64 i ∧ c = .bool cb ∧ Hid (v ≠ .slice none 0 0) ∧ wr.ownsRow w.heap.size 4 1 v i (bl D i) ∧ w.Since w.heap.size wr ∧ Hid (SubRel D A B m i cb)) (fun _ _ t _ => n - (intOf t).toNat)
  case atStart => exact ⟨0, false, fun _ => false, Nat.zero_le _, rfl, rfl, hide (by simp), World.ownsRow_made w #[] 0 (Nat.le_refl _) (by decide) rfl, (World.Since.refl _ _).alloc (Nat.le_refl _) _, hide rfl⟩
  case round =>
    obtain ⟨i, cb, D, hin, rfl, rfl, HN, hown, hs, HR⟩ := hrel
    by_cases hlt : i < n
    · obtain ⟨rfl, hc⟩ := hA i hlt
      have g0 : wr.cell? ⟨b, off + i, none⟩ = some (.bool (A i)) := by rw [hs.cell (a := ⟨b, off + i, none⟩) (hA.lt (by omega))]; exact hc
      clear hc
      obtain ⟨x, hx⟩ : ∃ x, x = A i := ⟨_, rfl⟩
      rw [← hx] at g0
      have HX : Hid (A i = x) := hx.symm
      clear hx
      by_cases him : i < m
      · obtain ⟨rfl, hc⟩ := hB i him
        have g1 : wr.cell? ⟨b', off' + i, none⟩ = some (.bool (B i)) := by rw [hs.cell (a := ⟨b', off' + i, none⟩) (hB.lt (by omega))]; exact hc
        obtain ⟨y, hy⟩ : ∃ y, y = B i := ⟨_, rfl⟩
        rw [← hy] at g1
        have HY : Hid (ext B m i = y) := by simp [Hid, ext, him, hy]
        clear hc hy
        have HS := hide (subRel_step HR.out HX.out HY.out)
        go_wp2_with (at_builtin; refine wpList_append_own _ rfl _ _ 51 rfl w.heap.size 4 i0 (.bool false) 1 1 Tryd.underlying51 hi hz0 hz1 hz2 rfl (by decide) _ _ _ rfl (hown.alloc _) ⟨wr.heap.size, 0, none⟩ 1 1 [.bool _] rfl rfl (new_cell _ _ _) (one_one _ rfl) (by unfold maxLen; omega) (by omega) (by have := hs.size; simp; omega) ?_)
        intro v' w1 hown' hgrow hnn
        have hs1 : w.Since w.heap.size w1 := (hs.alloc hs.size _).grown hgrow (by have := hs.size; simp; omega) (fun k hk => (hown.lt k hk).1)
        have HN' := hide hnn
        rw [not_eq3 x y cb, ← bl_upd] at hown'
        clear hgrow hown hs hnn HN
        cases x <;> cases y <;> cases cb
        all_goals
          go_wp2
          go_roundw
          case rel => exact ⟨i + 1, _, _, by omega, by go_num, rfl, HN', hown', hs1, HS⟩
          case measure => simp [intOf]; omega
      · have HY : Hid (ext B m i = false) := by simp [Hid, ext, him]
        have HS := hide (subRel_step HR.out HX.out HY.out)
        go_wp2_with (at_builtin; refine wpList_append_own _ rfl _ _ 51 rfl w.heap.size 4 i0 (.bool false) 1 1 Tryd.underlying51 hi hz0 hz1 hz2 rfl (by decide) _ _ _ rfl (hown.alloc _) ⟨wr.heap.size, 0, none⟩ 1 1 [.bool _] rfl rfl (new_cell _ _ _) (one_one _ rfl) (by unfold maxLen; omega) (by omega) (by have := hs.size; simp; omega) ?_)
        intro v' w1 hown' hgrow hnn
        have hs1 : w.Since w.heap.size w1 := (hs.alloc hs.size _).grown hgrow (by have := hs.size; simp; omega) (fun k hk => (hown.lt k hk).1)
        have HN' := hide hnn
        rw [not_eq2 x cb, ← bl_upd] at hown'
        clear hgrow hown hs hnn HN
        cases x <;> cases cb
        all_goals
          go_wp2
          go_roundw
          case rel => exact ⟨i + 1, _, _, by omega, by go_num, rfl, HN', hown', hs1, HS⟩
          case measure => simp [intOf]; omega
    · have e : i = n := by omega
      subst e
      obtain ⟨g, cap', rfl, hmc, hg, hD⟩ := own_bits_some hown HN.out
      go_wp2_with fail
      refine (l1Trim_any _ g 0 i cap' D _ (by omega) hmc hD).mono ?_
      rintro e w1 ⟨rfl, rfl⟩
      go_wp2
      go_ret
      have htl := tlen_le D i
      exact ⟨g, _, cap', D, rfl, by omega, htl, hD.take htl, hg, fun h => tlen_top _ _ h, (bv_tlen _ _).trans (subRel_end HR.out hm HL.out), hs⟩

end Go.Proofs.YtabemlkdpgglaaaDoor

namespace Go.Proofs.YtabemlkdpgglaaaDoor
open Go.RowKit

/-- What a method leaves of old memory whose receiver lies at ⟨c, o⟩ and whose receiver's limbs lie in block b: every other block, and every other cell of block c, as it was. -/
structure Fr (c o b : Nat) (w w' : World) : Prop where
  os : w'.os = w.os
  tape : w'.tape = w.tape
  output : w'.output = w.output
  size : w.heap.size ≤ w'.heap.size
  block : ∀ k, k < w.heap.size → k ≠ c → k ≠ b → w'.heap[k]? = w.heap[k]?
  cell : ∀ x, x ≠ o → w'.cell? ⟨c, x, none⟩ = w.cell? ⟨c, x, none⟩
  frozen : ∀ x, w'.frozen? ⟨c, x, none⟩ = w.frozen? ⟨c, x, none⟩
  lt : c < w.heap.size

section
variable {c o b : Nat} {w w1 w2 : World}

theorem Fr.refl (o b : Nat) (h : c < w.heap.size) : Fr c o b w w := ⟨rfl, rfl, rfl, Nat.le_refl _, fun _ _ _ _ => rfl, fun _ _ => rfl, fun _ => rfl, h⟩

theorem Fr.since (h : Fr c o b w w1) (s : w1.Since w1.heap.size w2) : Fr c o b w w2 := by
  have hc : c < w1.heap.size := Nat.lt_of_lt_of_le h.lt h.size
  exact ⟨s.os.trans h.os, s.tape.trans h.tape, s.output.trans h.output, Nat.le_trans h.size s.size, fun k k1 k2 k3 => (s.block k (Nat.lt_of_lt_of_le k1 h.size)).trans (h.block k k1 k2 k3),
    fun x hx => (s.cell (a := ⟨c, x, none⟩) hc).trans (h.cell x hx), fun x => (s.frozen (a := ⟨c, x, none⟩) hc).trans (h.frozen x), h.lt⟩

theorem Fr.same (h : Fr c o b w w1) (s : Same w1 w2) : Fr c o b w w2 := h.since (s.since _)

theorem Fr.set (h : Fr c o b w w1) (v : Value) : Fr c o b w (w1.setCell ⟨c, o, none⟩ v) :=
  ⟨h.os, h.tape, h.output, Nat.le_trans h.size (by simp [World.setCell]), fun k k1 k2 k3 => (Below.heap_setCell _ _ _ _ k2).trans (h.block k k1 k2 k3),
    fun x hx => by rw [World.cell?_setCell_other _ _ _ _ (fun e => by have := congrArg Addr.off e; simp at this; omega)]; exact h.cell x hx, fun x => by simp [h.frozen x], h.lt⟩

theorem Fr.setNew (h : Fr c o b w w1) {g x : Nat} (hg : g = b ∨ w.heap.size ≤ g) (hgc : g ≠ c) (v : Value) : Fr c o b w (w1.setCell ⟨g, x, none⟩ v) :=
  ⟨h.os, h.tape, h.output, Nat.le_trans h.size (by simp [World.setCell]), fun k k1 k2 k3 => (Below.heap_setCell _ _ _ _ (show k ≠ g by omega)).trans (h.block k k1 k2 k3),
    fun y hy => by rw [World.cell?_setCell_other _ _ _ _ (fun e => by have := congrArg Addr.block e; simp at this; omega)]; exact h.cell y hy, fun y => by simp [h.frozen y], h.lt⟩

theorem Fr.marked (h : Fr c o b w w1) {g : Nat} (m : Marked w1 w2 g) (hg : g = b ∨ w.heap.size ≤ g) (hgc : g ≠ c) : Fr c o b w w2 :=
  ⟨m.os.trans h.os, m.tape.trans h.tape, m.output.trans h.output, by rw [m.size]; exact h.size, fun k k1 k2 k3 => (m.other k (by omega)).trans (h.block k k1 k2 k3),
    fun x hx => (m.cell (a := ⟨c, x, none⟩) (Ne.symm hgc)).trans (h.cell x hx), fun x => (m.frozenO (a := ⟨c, x, none⟩) (Ne.symm hgc)).trans (h.frozen x), h.lt⟩

theorem Fr.alloc (h : Fr c o b w w1) (x : Obj) : Fr c o b w (w1.alloc x) := h.since ((World.Since.refl _ _).alloc (Nat.le_refl _) _)

theorem Fr.grown (h : Fr c o b w w1) {row : Option Nat} (hg : w1.grownBy w2 row) (hr : ∀ k, row = some k → w.heap.size ≤ k) : Fr c o b w w2 := by
  have hc : c < w1.heap.size := Nat.lt_of_lt_of_le h.lt h.size
  have hcr : some c ≠ row := fun e => by have := hr c e.symm; have := h.lt; omega
  have hb := hg.block c hc hcr
  exact ⟨hg.os.trans h.os, hg.tape.trans h.tape, hg.output.trans h.output, Nat.le_trans h.size hg.size,
    fun k k1 k2 k3 => (hg.block k (Nat.lt_of_lt_of_le k1 h.size) (fun e => by have := hr k e.symm; omega)).trans (h.block k k1 k2 k3),
    fun x hx => (World.cell?_of_block (w := w1) (a := ⟨c, x, none⟩) hb).trans (h.cell x hx), fun x => (World.frozen?_of_block (w := w1) (a := ⟨c, x, none⟩) hb).trans (h.frozen x), h.lt⟩
end

theorem row_own {w : World} {base g t cap : Nat} {S : Nat → Nat} (hr : w.rowIs g 58 cap (fun j => .int .u32 (S j))) (ht : t ≤ cap) (hc : cap ≤ maxLen) (hb : base ≤ g) : w.ownsRow base 58 1 (.slice (some ⟨g, 0, none⟩) t cap) t (ll S t) := by
  obtain ⟨cur, h1, h2, h3⟩ := hr
  refine ⟨by rw [ll_len]; omega, .inr ⟨g, cap, cur, rfl, hb, h1, ht, hc, by omega, ?_⟩⟩
  apply List.ext_getElem?
  intro i
  rw [Nat.mul_one]
  by_cases hi : i < t
  · rw [ll_get S t i hi, List.getElem?_take, if_pos hi]
    have := h3 i (by omega)
    simpa using this
  · rw [List.getElem?_eq_none (by rw [List.length_take]; omega), List.getElem?_eq_none (by rw [ll_len]; omega)]

theorem own_limbs_some {w : World} {base : Nat} {v : Value} {m : Nat} {X : Nat → Nat} (h : w.ownsRow base 58 1 v m (ll X m)) (hv : v ≠ .slice none 0 0) :
    ∃ g cap, v = .slice (some ⟨g, 0, none⟩) m cap ∧ m ≤ cap ∧ base ≤ g ∧ g < w.heap.size ∧ Limbs w (some ⟨g, 0, none⟩) g 0 m X ∧ (∀ o, w.frozen? ⟨g, o, none⟩ = false) := by
  have hc := @World.ownsRow.cells _ _ _ _ _ _ _ h
  rcases h.2 with ⟨rfl, rfl⟩ | ⟨g, cap, cur, rfl, hb, hg, hm, _⟩
  · exact absurd rfl hv
  · refine ⟨g, cap, rfl, hm, hb, (Array.getElem?_eq_some_iff.1 hg).1, fun j hj => ⟨rfl, ?_⟩, fun o => by simp [World.frozen?, hg]⟩
    have := hc (g := g) rfl j _ (ll_get X m j hj)
    rw [Addr.add_lit] at this; exact this

theorem ll_congr {B C : Nat → Nat} {m : Nat} (h : ∀ j, j < m → B j = C j) : ll B m = ll C m := by
  unfold ll
  exact List.map_congr_left (fun j hj => by rw [h j (List.mem_range.1 hj)])

theorem ll_capped (S : Nat → Nat) (t : Nat) : ll (capped S t) (t + 1) = ll S t ++ [.int .u32 0] := by
  rw [ll_succ, capped_top, ll_congr (fun j hj => show capped S t j = S j by simp [capped, hj])]
  rfl

set_option maxHeartbeats 400000 in
theorem shiftLeft_small (c o : Nat) (a : Option Addr) (b off n cap s : Nat) (X : Nat → Nat) (w : World) (hn : n ≤ 4194304) (hp : s < 32) (hX : Limbs w a b off n X)
    (hXl : ∀ j, j < n → X j < 4294967296) (hc0 : w.cell? ⟨c, o, none⟩ = some (.slice a n cap)) (hf0 : w.frozen? ⟨c, o, none⟩ = false) :
    Calls Tryd.prog 96 #[.pointer (some ⟨c, o, none⟩), .int .i64 (s : Int)] w fun e w' => e = .returned (.tuple #[]) ∧ ∃ w2 S, w.Since w.heap.size w2 ∧ w2.rowIs w.heap.size 58 (n + 1) (fun j => .int .u32 (S j : Nat)) ∧
      (∀ k, S k < 4294967296) ∧ lv S (n + 1) = lv X n * 2 ^ s ∧ w' = w2.setCell ⟨c, o, none⟩ (.slice (some ⟨w.heap.size, 0, none⟩) (tlen (nz S) (n + 1)) (n + 1)) := by
  have h := shiftLeft_any c o a b off n cap 0 s X w hn (by omega) hp hX hXl hc0 hf0
  simp only [Nat.mul_zero, Nat.zero_add, Nat.add_zero] at h
  exact h

set_option maxHeartbeats 400000 in
theorem shiftRight_small (c o : Nat) (b n cap s : Nat) (X : Nat → Nat) (w : World) (hn : n ≤ 16777216) (hnc : n ≤ cap) (hw : 0 < n) (hp : s < 32) (hX : Limbs w (some ⟨b, 0, none⟩) b 0 n X)
    (hXl : ∀ j, j < n → X j < 4294967296) (hc0 : w.cell? ⟨c, o, none⟩ = some (.slice (some ⟨b, 0, none⟩) n cap)) (hf0 : w.frozen? ⟨c, o, none⟩ = false) (hf : ∀ o, w.frozen? ⟨b, o, none⟩ = false) (hcb : c ≠ b) :
    Calls Tryd.prog 94 #[.pointer (some ⟨c, o, none⟩), .int .i64 (s : Int)] w fun e w' => e = .returned (.tuple #[]) ∧ ∃ w2 S k, Marked w w2 b ∧ Limbs w2 (some ⟨b, 0, none⟩) b 0 k S ∧
      k ≤ n ∧ (∀ j, j < k → S j < 4294967296) ∧ lv S k = lv X n / 2 ^ s ∧ w' = w2.setCell ⟨c, o, none⟩ (.slice (some ⟨b, 0, none⟩) (tlen (nz S) k) cap) := by
  have h := shiftRight_any c o b n cap 0 s X w hn hnc hw hp hX hXl hc0 hf0 hf hcb
  simp only [Nat.mul_zero, Nat.zero_add] at h
  exact h

end Go.Proofs.YtabemlkdpgglaaaDoor

namespace Go.Proofs.YtabemlkdpgglaaaDoor
open Go.RowKit

/-- A plain natural of value N whose limbs lie in block g. -/
def NatAt (w : World) (v : Value) (g N M : Nat) : Prop :=
  ∃ a m cap Y, v = .slice a m cap ∧ m ≤ cap ∧ m ≤ M ∧ (a = none → cap = 0) ∧ Limbs w a g 0 m Y ∧ (0 < m → ∀ o, w.frozen? ⟨g, o, none⟩ = false) ∧ (∀ j, j < m → Y j < 4294967296) ∧ (0 < m → Y (m - 1) ≠ 0) ∧ lv Y m = N

/-- What the loop of long division holds in hand: the receiver's cell, the boxed divisor and its limbs, the dividend's limbs W in block G, the quotient's row BQ and its box QB. -/
structure Lg (c o b : Nat) (w wr : World) (G BQ QB nn dl L cG : Nat) (S1 W Q : Nat → Nat) : Prop where
  fr : Fr c o b w wr
  cC : wr.cell? ⟨c, o, none⟩ = some (.slice (some ⟨G, 0, none⟩) nn cG)
  box : wr.cell? ⟨w.heap.size, 0, none⟩ = some (.slice (some ⟨w.heap.size + 1, 0, none⟩) dl (dl + 1))
  D : Limbs wr (some ⟨w.heap.size + 1, 0, none⟩) (w.heap.size + 1) 0 dl S1
  LW : Limbs wr (some ⟨G, 0, none⟩) G 0 nn W
  FG : ∀ x, wr.frozen? ⟨G, x, none⟩ = false
  rQ : wr.rowIs BQ 58 L (fun j => .int .u32 (Q j))
  bQ : wr.rowIs QB 55 1 (fun _ => .slice (some ⟨BQ, 0, none⟩) L L)
  g0 : w.heap.size + 2 ≤ G
  g1 : G < BQ
  g2 : G < QB
  g3 : BQ ≠ QB

section
variable {c o b : Nat} {w wr wr' : World} {G BQ QB nn dl L cG : Nat} {S1 W W' Q : Nat → Nat}

theorem Lg.same (h : Lg c o b w wr G BQ QB nn dl L cG S1 W Q) (s : Same wr wr') : Lg c o b w wr' G BQ QB nn dl L cG S1 W Q :=
  ⟨h.fr.same s, by rw [s.cell]; exact h.cC, by rw [s.cell]; exact h.box, h.D.same s, h.LW.same s, fun x => by rw [s.frozen]; exact h.FG x, h.rQ.of_block (by rw [s.heap]), h.bQ.of_block (by rw [s.heap]), h.g0, h.g1, h.g2, h.g3⟩

theorem Lg.marked (h : Lg c o b w wr G BQ QB nn dl L cG S1 W Q) (m : Marked wr wr' G) (hL : Limbs wr' (some ⟨G, 0, none⟩) G 0 nn W') : Lg c o b w wr' G BQ QB nn dl L cG S1 W' Q := by
  have := h.g0; have := h.g1; have := h.g2; have := h.fr.lt
  exact ⟨h.fr.marked m (Or.inr (by omega)) (by omega), by rw [m.cell (a := ⟨c, o, none⟩) (by show c ≠ G; omega)]; exact h.cC, by rw [m.cell (a := ⟨w.heap.size, 0, none⟩) (by show w.heap.size ≠ G; omega)]; exact h.box,
    h.D.marked m (fun _ => by omega), hL, fun x => by rw [m.frozen]; exact h.FG x, h.rQ.of_block (m.other _ (by omega)), h.bQ.of_block (m.other _ (by omega)), h.g0, h.g1, h.g2, h.g3⟩

theorem Lg.put (h : Lg c o b w wr G BQ QB nn dl L cG S1 W Q) (i v : Nat) : Lg c o b w (wr.setCell ⟨BQ, i, none⟩ (.int .u32 v)) G BQ QB nn dl L cG S1 W (upd Q i v) := by
  have := h.g0; have := h.g1; have := h.g2; have := h.g3; have := h.fr.lt
  refine ⟨h.fr.setNew (Or.inr (by omega)) (by omega) _, ?_, ?_, h.D.setOther (by omega) _, h.LW.setOther (by omega) _, fun x => by simp [h.FG x], (h.rQ.set i _).congr (fun j _ => ?_), h.bQ.setOther (by show QB ≠ BQ; omega) _, h.g0, h.g1, h.g2, h.g3⟩
  · rw [World.cell?_setCell_other _ _ _ _ (fun e => by have := congrArg Addr.block e; simp at this; omega)]; exact h.cC
  · rw [World.cell?_setCell_other _ _ _ _ (fun e => by have := congrArg Addr.block e; simp at this; omega)]; exact h.box
  · by_cases e : j = i <;> simp [upd, e]
end

set_option maxHeartbeats 6400000 in
set_option maxRecDepth 100000 in
theorem divideByLong_any (c o : Nat) (a a' : Option Addr) (b n cap b' dl cap' : Nat) (X Y : Nat → Nat) (w : World) (hn : n ≤ 2097152) (hdn : dl ≤ n) (hdl : 2 ≤ dl)
    (hc0 : w.cell? ⟨c, o, none⟩ = some (.slice a n cap)) (hf0 : w.frozen? ⟨c, o, none⟩ = false) (hX : Limbs w a b 0 n X) (hY : Limbs w a' b' 0 dl Y) (hXl : ∀ j, j < n → X j < 4294967296) (hYl : ∀ j, j < dl → Y j < 4294967296)
    (tX : X (n - 1) ≠ 0) (tY : Y (dl - 1) ≠ 0) :
    Calls Tryd.prog 110 #[.pointer (some ⟨c, o, none⟩), .slice a' dl cap'] w fun e w' => ∃ vq vr gq gr, e = .returned vq ∧ w'.cell? ⟨c, o, none⟩ = some vr ∧ NatAt w' vq gq (lv X n / lv Y dl) (n + 2) ∧ NatAt w' vr gr (lv X n % lv Y dl) (n + 2) ∧
      w.heap.size ≤ gq ∧ w.heap.size ≤ gr ∧ gq ≠ gr ∧ gq < w'.heap.size ∧ gr < w'.heap.size ∧ Fr c o b w w' := by
  have hcl : c < w.heap.size := World.block_lt_of_cell? _ _ hc0
  have kd : w.cell? ⟨b', dl - 1, none⟩ = some (.int .u32 (Y (dl - 1))) := by simpa using (hY (dl - 1) (by omega)).2
  have hbl : b' < w.heap.size := hY.lt (by omega)
  obtain ⟨rfl, -⟩ := hY 0 (by omega)
  have HtX := hide tX
  have hy0 : 0 < Y (dl - 1) := by omega
  have hyl := hYl (dl - 1) (by omega)
  have hd1 : (1 : Int) ≤ (dl : Int) := by omega
  clear tX tY
  go_enter Tryd.func110, Tryd.ntmps110
  go_wp2_with fail
  refine (lz32_any (Y (dl - 1)) _ hy0 hyl).mono ?_
  rintro e w0 ⟨s, rfl, rfl, hs, hs1, hs2⟩
  have HS1 := hide hs1
  have HS2 := hide hs2
  clear hs1 hs2
  have f1 : Fr c o b w (w.alloc (.cells #[.slice (some ⟨b', 0, none⟩) dl cap'] 55)) := (Fr.refl o b hcl).alloc _
  -- the divisor is shifted
  go_wp2_with fail
  refine (shiftLeft_small w.heap.size 0 _ b' 0 dl cap' s Y _ (by omega) hs (hY.keep ((World.Since.refl _ _).alloc (Nat.le_refl _) _)) hYl (by simp [go_sem]) (by simp [go_sem])).mono ?_
  rintro e w3 ⟨rfl, w2, S1, hs2, hr1, hS1, hv1, hw3⟩
  have hz1 : (w.alloc (.cells #[.slice (some ⟨b', 0, none⟩) dl cap'] 55)).heap.size = w.heap.size + 1 := by simp
  rw [hz1] at hs2 hr1 hw3
  clear hz1 f1
  obtain ⟨et, ev, ed, ed1, ed2⟩ := shl_divisor (by omega) hs hYl hS1 HS1.out HS2.out hv1
  rw [et] at hw3
  have z2 : w.heap.size + 2 ≤ w2.heap.size := by have := hr1.lt; omega
  have s2 : w.Since w.heap.size w2 := ((World.Since.refl _ _).alloc (Nat.le_refl _) _).trans (sinceMono hs2 (by omega))
  have s3 : w.Since w.heap.size w3 := by rw [hw3]; exact s2.setCell (Nat.le_refl _) _
  have box3 : w3.cell? ⟨w.heap.size, 0, none⟩ = some (.slice (some ⟨w.heap.size + 1, 0, none⟩) dl (dl + 1)) := by
    rw [hw3]
    refine World.cell?_setCell_same _ _ _ (u := .slice (some ⟨b', 0, none⟩) dl cap') ?_
    rw [hs2.cell (a := ⟨w.heap.size, 0, none⟩) (by simp)]; simp [go_sem]
  have D3 : Limbs w3 (some ⟨w.heap.size + 1, 0, none⟩) (w.heap.size + 1) 0 dl S1 := by
    rw [hw3]; exact ((limbs_row hr1).take (by omega)).setOther (by omega) _
  have z3 : w.heap.size + 2 ≤ w3.heap.size := by rw [hw3]; simpa [World.setCell] using z2
  have HS := hide hS1
  have HEv := hide ev
  have HEd := hide ed
  have HE1 := hide ed1
  have HE2 := hide ed2
  have HYl := hide hYl
  clear hw3 hs2 hr1 s2 z2 ev ed ed1 ed2 et hv1 hS1 hYl hY kd HS1 HS2 hy0 hyl
  -- the dividend is shifted
  go_wp2_with fail
  refine (shiftLeft_small c o a b 0 n cap s X _ (by omega) hs (hX.keep s3) hXl (by rw [s3.cell (a := ⟨c, o, none⟩) hcl]; exact hc0) (by rw [s3.frozen (a := ⟨c, o, none⟩) hcl]; exact hf0)).mono ?_
  rintro e w5 ⟨rfl, w4, S2, s4, hr2, hS2, hv2, hw5⟩
  obtain ⟨t2, ht2⟩ : ∃ t, t = tlen (nz S2) (n + 1) := ⟨_, rfl⟩
  rw [← ht2] at hw5
  have ht2l : t2 ≤ n + 1 := by rw [ht2]; exact tlen_le _ _
  have HV2 : Hid (lv S2 t2 = lv X n * 2 ^ s) := by rw [ht2]; exact (lv_tlen _ _).trans hv2
  have ht2g : n ≤ t2 := by
    by_cases h : n ≤ t2
    · exact h
    · exfalso
      have h1 := lv_lt S2 t2 (fun j _ => hS2 j)
      have h2 := lv_ge X n (by omega) HtX.out
      have h3 : 2 ^ (32 * t2) ≤ 2 ^ (32 * (n - 1)) := Nat.pow_le_pow_right (by omega) (by omega)
      have h4 : lv X n * 1 ≤ lv X n * 2 ^ s := Nat.mul_le_mul_left _ (Nat.pow_pos (by omega))
      have h5 := HV2.out
      omega
  have HS2 := hide hS2
  clear ht2 hv2 hS2
  have c4 : w4.cell? ⟨c, o, none⟩ = some (.slice a n cap) := by rw [s4.cell (a := ⟨c, o, none⟩) (by show c < _; omega), s3.cell (a := ⟨c, o, none⟩) hcl]; exact hc0
  have c5 : w5.cell? ⟨c, o, none⟩ = some (.slice (some ⟨w3.heap.size, 0, none⟩) t2 (n + 1)) := by rw [hw5]; exact World.cell?_setCell_same _ _ _ c4
  have fr5 : Fr c o b w w5 := by rw [hw5]; exact (((Fr.refl o b hcl).since s3).since s4).set _
  have row5 : w5.rowIs w3.heap.size 58 (n + 1) (fun j => .int .u32 (S2 j)) := by rw [hw5]; exact hr2.setOther (by show w3.heap.size ≠ c; omega) _
  have box5 : w5.cell? ⟨w.heap.size, 0, none⟩ = some (.slice (some ⟨w.heap.size + 1, 0, none⟩) dl (dl + 1)) := by
    rw [hw5, World.cell?_setCell_other _ _ _ _ (fun h => by have := congrArg Addr.block h; simp at this; omega), s4.cell (a := ⟨w.heap.size, 0, none⟩) (by show w.heap.size < _; omega)]; exact box3
  have D5 : Limbs w5 (some ⟨w.heap.size + 1, 0, none⟩) (w.heap.size + 1) 0 dl S1 := by rw [hw5]; exact (D3.keep s4).setOther (by omega) _
  have z5 : w3.heap.size < w5.heap.size := row5.lt
  clear hw5 c4 hr2 s4 box3 D3 s3 hX hc0
  have f5 : w5.frozen? ⟨c, o, none⟩ = false := by rw [fr5.frozen]; exact hf0
  obtain ⟨i0, hi, hz0, hz1, hz2⟩ := info_parts Tryd.info58
  -- one limb more on top
  go_wp2_with (at_builtin; refine wpList_append_own _ rfl _ _ 55 rfl w3.heap.size 58 i0 (.int .u32 0) 1 4 Tryd.underlying55 hi hz0 hz1 hz2 rfl (by decide) _ _ _ rfl ((row_own row5 ht2l (by unfold maxLen; omega) (Nat.le_refl _)).alloc _) ⟨w5.heap.size, 0, none⟩ 1 1 [.int .u32 0] rfl rfl (new_cell _ _ _) (one_one _ rfl) (by unfold maxLen; omega) (by omega) (by simp; omega) ?_)
  intro v' w6 hown' hgrow hnn
  rw [← ll_capped] at hown'
  obtain ⟨G, cG, rfl, hcG, hG, hGl, L6, F6⟩ := own_limbs_some hown' hnn
  have fr6 : Fr c o b w w6 := (fr5.alloc _).grown hgrow (fun k hk => by simp [Value.ownBlock] at hk; omega)
  have hcc : some c ≠ (Value.slice (some ⟨w3.heap.size, 0, none⟩) t2 (n + 1)).ownBlock := by simp [Value.ownBlock]; omega
  have c6 : w6.cell? ⟨c, o, none⟩ = some (.slice (some ⟨w3.heap.size, 0, none⟩) t2 (n + 1)) := hgrow.cell (a := ⟨c, o, none⟩) (by rw [World.cell?_alloc_old _ _ _ (by show c ≠ _; omega)]; exact c5) hcc
  have f6 : w6.frozen? ⟨c, o, none⟩ = false := by rw [fr6.frozen]; exact hf0
  have box6 : w6.cell? ⟨w.heap.size, 0, none⟩ = some (.slice (some ⟨w.heap.size + 1, 0, none⟩) dl (dl + 1)) := hgrow.cell (a := ⟨w.heap.size, 0, none⟩) (by rw [World.cell?_alloc_old _ _ _ (by show w.heap.size ≠ _; omega)]; exact box5) (by simp [Value.ownBlock]; omega)
  have D6 : Limbs w6 (some ⟨w.heap.size + 1, 0, none⟩) (w.heap.size + 1) 0 dl S1 := fun j hj => ⟨rfl, hgrow.cell (a := ⟨w.heap.size + 1, 0 + j, none⟩) (by rw [World.cell?_alloc_old _ _ _ (by show w.heap.size + 1 ≠ _; omega)]; exact (D5 j hj).2) (by simp [Value.ownBlock]; omega)⟩
  have z6 : w5.heap.size + 1 ≤ w6.heap.size := by have := hgrow.size; simpa using this
  clear hown' hgrow hnn hcc fr5 c5 f5 row5 box5 D5 hi hz0 hz1 hz2
  obtain ⟨nn, hnn⟩ : ∃ nn, nn = t2 + 1 := ⟨_, rfl⟩
  rw [← hnn] at L6 hcG ⊢
  obtain ⟨L, hL⟩ : ∃ L, L = nn - dl := ⟨_, rfl⟩
  have hnL : nn = L + dl := by omega
  have HnL := hide hnL
  have hLi : (nn : Int) - (dl : Int) = (L : Int) := by omega
  have hmk := run_make_row' (P := Tryd.prog) 55 58 (.int .u32 0) 4 Tryd.underlying55 Tryd.info58 rfl .i64 .i64 L (by omega) (by omega)
  have hLp : 1 ≤ L := by omega
  have HNN := hide hnn
  have hnnl : nn ≤ n + 2 := by omega
  clear hL hnL hnn
  go_wp2
  have fr7 := fr6.set (.slice (some ⟨G, 0, none⟩) nn cG)
  have c7 := World.cell?_setCell_same _ _ (.slice (some ⟨G, 0, none⟩) nn cG) c6
  have box7 : (w6.setCell ⟨c, o, none⟩ (.slice (some ⟨G, 0, none⟩) nn cG)).cell? ⟨w.heap.size, 0, none⟩ = some (.slice (some ⟨w.heap.size + 1, 0, none⟩) dl (dl + 1)) := by
    rw [World.cell?_setCell_other _ _ _ _ (fun h => by have := congrArg Addr.block h; simp at this; omega)]; exact box6
  have D7 := D6.setOther (c := c) (o := o) (by omega) (.slice (some ⟨G, 0, none⟩) nn cG)
  have L7 := L6.setOther (c := c) (o := o) (by omega) (.slice (some ⟨G, 0, none⟩) nn cG)
  have F7 : ∀ x, (w6.setCell ⟨c, o, none⟩ (.slice (some ⟨G, 0, none⟩) nn cG)).frozen? ⟨G, x, none⟩ = false := fun x => by simp [F6 x]
  have z7 : (w6.setCell ⟨c, o, none⟩ (.slice (some ⟨G, 0, none⟩) nn cG)).heap.size = w6.heap.size := by simp [World.setCell]
  generalize w6.setCell ⟨c, o, none⟩ (.slice (some ⟨G, 0, none⟩) nn cG) = w7 at *
  rw [← z7] at z6 hGl
  clear z7 fr6 c6 f6 box6 D6 L6 F6
  have n1 : c ≠ w7.heap.size := by omega
  have n2 : w.heap.size ≠ w7.heap.size := by omega
  have hLw : IntKind.i64.wrap (L : Int) = (L : Int) := by rw [IntKind.wrap_i64]; omega
  have a0 : ∀ x, (w7.alloc x).cell? ⟨w.heap.size, 0, none⟩ = some (.slice (some ⟨w.heap.size + 1, 0, none⟩) dl (dl + 1)) := fun x => by rw [World.cell?_alloc_old _ _ _ n2]; exact box7
  have a1 : ∀ x, (w7.alloc x).cell? ⟨c, o, none⟩ = some (.slice (some ⟨G, 0, none⟩) nn cG) := fun x => by rw [World.cell?_alloc_old _ _ _ n1]; exact c7
  go_region
  all_goals go_wp2
  all_goals clear a0 a1 hmk hLw
  · have rQ := (World.rowIs_made w7 (.int .u32 0) L 58).alloc (.cells #[.slice (some ⟨w7.heap.size, 0, none⟩) L L] 55)
    have bQ := World.rowIs_alloc (w7.alloc (.cells (madeCells #[.int .u32 0] L) 58)) #[.slice (some ⟨w7.heap.size, 0, none⟩) L L] 55 (fun _ => .slice (some ⟨w7.heap.size, 0, none⟩) L L) (fun i hi => by simp at hi; subst hi; rfl)
    rw [show (w7.alloc (.cells (madeCells #[.int .u32 0] L) 58)).heap.size = w7.heap.size + 1 by simp] at bQ
    have sL : w7.Since w7.heap.size ((w7.alloc (.cells (madeCells #[.int .u32 0] L) 58)).alloc (.cells #[.slice (some ⟨w7.heap.size, 0, none⟩) L L] 55)).drew := (((World.Since.refl _ _).alloc (Nat.le_refl _) _).alloc (by simp) _).drew
    have rQ := rQ.drew
    have bQ := bQ.drew
    obtain ⟨QB, hQB⟩ : ∃ x, x = w7.heap.size + 1 := ⟨_, rfl⟩
    obtain ⟨BQ, hBQ⟩ : ∃ x, x = w7.heap.size := ⟨_, rfl⟩
    generalize ((w7.alloc (.cells (madeCells #[.int .u32 0] L) 58)).alloc (.cells #[.slice (some ⟨w7.heap.size, 0, none⟩) L L] 55)).drew = wL at *
    rw [← hQB] at bQ
    rw [← hQB]
    rw [← hBQ] at bQ rQ
    rw [← hBQ]
    have lg0 : Lg c o b w wL G BQ QB nn dl L cG S1 (capped S2 t2) (fun _ => 0) := ⟨fr7.since sL, by rw [sL.cell (a := ⟨c, o, none⟩) (by show c < _; omega)]; exact c7, by rw [sL.cell (a := ⟨w.heap.size, 0, none⟩) (by show w.heap.size < _; omega)]; exact box7,
      D7.keep sL, L7.keep sL, fun x => by rw [sL.frozen (a := ⟨G, x, none⟩) hGl]; exact F7 x, rQ, bQ, by omega, by omega, by omega, by omega⟩
    clear rQ bQ sL hQB hBQ
    have hN := long_start (W := capped S2 t2) (D := lv S1 dl) (dl := dl) (L := L) (nn := nn) HnL.out (by omega) (capped_lt t2 HS2.out) (by rw [HNN.out]; exact capped_top S2 t2) HE1.out
    have HN := hide hN
    have hD0 : 0 < lv S1 dl := by have := HE1.out; have := Nat.pow_pos (n := 32 * (dl - 1)) (show 0 < 2 by omega); omega
    have HD0 := hide hD0
    clear hN hD0 fr7 c7 box7 D7 L7 F7 n1 n2
    go_loopw [7] (fun q wr => ∃ (k : Nat) (z : Int) (W Q : Nat → Nat), k ≤ L ∧ q = .int .i64 z ∧ Hid (z = k - 1) ∧ Lg c o b w wr G BQ QB nn dl L cG S1 W Q ∧ Hid (LongRel (lv (capped S2 t2) nn) (lv S1 dl) dl L nn W Q k)) (fun q _ => (intOf q + 1).toNat)
    case atStart => exact ⟨L, (L : Int) - 1, _, _, Nat.le_refl _, rfl, rfl, lg0, HN⟩
    case round =>
      clear lg0 HN
      obtain ⟨k, z, W, Q, hk, rfl, HZ, lg, HR⟩ := hrel
      by_cases hz : 0 ≤ z
      · obtain ⟨p, rfl⟩ := Int.eq_ofNat_of_zero_le hz
        have hkp : k = p + 1 := by have := HZ.out; omega
        subst hkp
        clear HZ
        have q1 := lg.box
        have hpn : p + dl < nn := by have := HnL.out; omega
        go_wp2_with fail
        refine (guess_any c o G nn cG (w.heap.size + 1) dl (dl + 1) p W S1 _ (by omega) hdl hpn lg.cC lg.LW lg.D HR.out.2.2.2.1 (fun j _ => HS.out j) HEd.out (long_top HR.out (by omega) rfl (fun j _ => HS.out j))).mono ?_
        rintro e w8 ⟨rfl, s8⟩
        have lg8 := lg.same s8
        have hgs := long_guess (W := W) (Y := S1) (a := p) hdl rfl (fun j _ => HS.out j) HR.out.2.2.2.1 (by have := HEd.out; omega) (long_window HR.out)
        have hgl := guess3_le (W (p + dl)) (W (p + dl - 1)) (W (p + dl - 2)) (S1 (dl - 1)) (S1 (dl - 2))
        generalize guess3 (W (p + dl)) (W (p + dl - 1)) (W (p + dl - 2)) (S1 (dl - 1)) (S1 (dl - 2)) = g at *
        have HGS := hide hgs
        clear hgs lg s8 q1
        have q1 := lg8.box
        go_wp2_with fail
        refine (takeTimes_any c o G nn cG (w.heap.size + 1) dl (dl + 1) g p W S1 _ (by omega) hgl hpn lg8.cC lg8.FG (by have := lg8.g0; omega) (by have := lg8.g0; omega) lg8.LW lg8.D HR.out.2.2.2.1 (fun j _ => HS.out j)).mono ?_
        rintro e w9 ⟨W1, bo, rfl, m9, L9, v9, e9, l9⟩
        have lg9 := lg8.marked m9 L9
        have HV9 := hide v9
        have HE9 := hide e9
        have HL9 := hide l9
        clear m9 L9 v9 e9 l9 lg8 q1
        have hpL : (p : Int) < (L : Int) := by omega
        cases bo with
        | false =>
          have hw9 : win W1 p (dl + 1) + g * lv S1 dl = win W p (dl + 1) := by have := HV9.out; simpa [win] using this
          have hgq := take_exact HD0.out hw9 HGS.out.1
          obtain ⟨HLR, -⟩ := long_step HR.out (by omega) HE2.out HD0.out hgq hw9 HE9.out HL9.out
          have HLR := hide HLR
          have q2 := lg9.bQ.cell (i := 0) (by omega)
          have q3 := lg9.rQ.cell (i := p) (by omega)
          have q4 := lg9.rQ.frozen p
          clear hw9 hgq HV9 HE9 HL9 HR HGS
          go_wp2
          go_roundw
          case rel => exact ⟨p, (p : Int) - 1, _, _, by omega, by go_num, rfl, lg9.put p g, HLR⟩
          case measure => simp [intOf]
        | true =>
          have q1 := lg9.box
          have hg1 : 1 ≤ g := by
            by_cases h : 1 ≤ g
            · exact h
            · exfalso
              have e0 : g = 0 := by omega
              have h1 := HV9.out
              have h2 := win_lt HL9.out p (dl + 1)
              unfold win at h2
              rw [e0] at h1
              simp at h1
              omega
          go_wp2_with fail
          refine (giveBack_any c o G nn cG (w.heap.size + 1) dl (dl + 1) p W1 S1 _ (by omega) hpn lg9.cC lg9.FG (by have := lg9.g0; omega) (by have := lg9.g0; omega) lg9.LW lg9.D HL9.out (fun j _ => HS.out j)).mono ?_
          rintro e w10 ⟨W2, cy, rfl, m10, L10, v10, e10, l10, hcy⟩
          have lg10 := lg9.marked m10 L10
          have hto := take_over (U := win W p (dl + 1)) (V := win W1 p (dl + 1)) (V2 := win W2 p (dl + 1)) HD0.out (by have := HV9.out; simpa [win] using this) (win_lt HL9.out p (dl + 1)) HGS.out.2 v10 hcy (win_lt l10 p (dl + 1))
          obtain ⟨HLR, -⟩ := long_step HR.out (by omega) HE2.out HD0.out hto.2.1 hto.2.2 (fun k hk => (e10 k hk).trans (HE9.out k hk)) l10
          have HLR := hide HLR
          have q2 := lg10.bQ.cell (i := 0) (by omega)
          have q3 := lg10.rQ.cell (i := p) (by omega)
          have q4 := lg10.rQ.frozen p
          clear hto v10 e10 l10 HV9 HE9 HL9 HR HGS q1 lg9 L10 m10
          go_wp2
          go_roundw
          case rel =>
            have := lg10.put p (g - 1)
            rw [show ((g - 1 : Nat) : Int) = (g : Int) - 1 by omega] at this
            exact ⟨p, (p : Int) - 1, _, _, by omega, by go_num, rfl, this, HLR⟩
          case measure => simp [intOf]
      · have hk0 : k = 0 := by have := HZ.out; omega
        subst hk0
        obtain ⟨vQ, vW⟩ := long_end HR.out (by have := HnL.out; omega)
        have eN : lv (capped S2 t2) nn = lv X n * 2 ^ s := by rw [HNN.out, lv_capped]; exact HV2.out
        rw [eN, HEv.out] at vQ vW
        have q2 := lg.bQ.cell (i := 0) (by omega)
        have q3 := lg.bQ.frozen 0
        have hWl := hide HR.out.2.2.2.1
        have hQl := hide HR.out.2.2.2.2
        have HVQ : Hid (lv Q L = lv X n / lv Y dl) := vQ.trans shl_div.1
        have HVW : Hid (lv W nn / 2 ^ s = lv X n % lv Y dl) := by rw [vW]; exact shl_div.2
        clear vQ vW eN HR
        have j0 := lg.g0; have j1 := lg.g1; have j2 := lg.g2; have j3 := lg.g3
        go_wp2_with fail
        refine (trimAt_any QB 0 _ BQ 0 L L Q _ (by omega) (Nat.le_refl _) q2 q3 (limbs_row lg.rQ)).mono ?_
        rintro e w8 ⟨rfl, hw8⟩
        have fr8 : Fr c o b w w8 := by rw [hw8]; exact lg.fr.setNew (Or.inr (by omega)) (by omega) _
        have c8 : w8.cell? ⟨c, o, none⟩ = some (.slice (some ⟨G, 0, none⟩) nn cG) := by rw [hw8, World.cell?_setCell_other _ _ _ _ (fun e => by have := congrArg Addr.block e; simp at this; omega)]; exact lg.cC
        have L8 : Limbs w8 (some ⟨G, 0, none⟩) G 0 nn W := by rw [hw8]; exact lg.LW.setOther (by omega) _
        have F8 : ∀ x, w8.frozen? ⟨G, x, none⟩ = false := fun x => by rw [hw8]; simp [lg.FG x]
        have r8 : w8.rowIs BQ 58 L (fun j => .int .u32 (Q j)) := by rw [hw8]; exact lg.rQ.setOther (by show BQ ≠ QB; omega) _
        have b8 : w8.cell? ⟨QB, 0, none⟩ = some (.slice (some ⟨BQ, 0, none⟩) (tlen (nz Q) L) L) := by rw [hw8]; exact World.cell?_setCell_same _ _ _ q2
        clear hw8 lg q2 q3
        go_wp2_with fail
        refine (shiftRight_small c o G nn cG s W _ (by omega) hcG (by have := HnL.out; omega) hs L8 (fun j _ => hWl.out j) c8 (by rw [fr8.frozen]; exact hf0) F8 (by omega)).mono ?_
        rintro e w9 ⟨rfl, w10, S3, k3, m10, L10, hk3, l10, v10, hw9⟩
        have HV10 := hide (v10.trans HVW.out)
        have fr9 : Fr c o b w w9 := by rw [hw9]; exact (fr8.marked m10 (Or.inr (by omega)) (by omega)).set _
        have r9 : w9.rowIs BQ 58 L (fun j => .int .u32 (Q j)) := by rw [hw9]; exact (r8.of_block (m10.other _ (by omega))).setOther (by show BQ ≠ c; omega) _
        have b9 : w9.cell? ⟨QB, 0, none⟩ = some (.slice (some ⟨BQ, 0, none⟩) (tlen (nz Q) L) L) := by
          rw [hw9, World.cell?_setCell_other _ _ _ _ (fun e => by have := congrArg Addr.block e; simp at this; omega), m10.cell (a := ⟨QB, 0, none⟩) (by show QB ≠ G; omega)]; exact b8
        have c9 : w9.cell? ⟨c, o, none⟩ = some (.slice (some ⟨G, 0, none⟩) (tlen (nz S3) k3) cG) := by
          rw [hw9]; exact World.cell?_setCell_same _ _ _ ((m10.cell (a := ⟨c, o, none⟩) (by show c ≠ G; omega)).trans c8)
        have L9 : Limbs w9 (some ⟨G, 0, none⟩) G 0 k3 S3 := by rw [hw9]; exact L10.setOther (by omega) _
        have F9 : ∀ x, w9.frozen? ⟨G, x, none⟩ = false := fun x => by rw [hw9]; simp [m10.frozen, F8 x]
        have zG : G < w9.heap.size := by have := r9.lt; omega
        clear v10 hw9 m10 L10 L8 F8 r8 b8 c8 fr8
        go_wp2
        go_ret
        have t1 := tlen_le (nz Q) L
        have t2 := tlen_le (nz S3) k3
        have hLn : L ≤ n + 2 := by have := HnL.out; omega
        refine ⟨_, _, BQ, G, rfl, c9, ⟨_, _, _, Q, rfl, t1, by omega, fun h => (by cases h), (limbs_row r9).take t1, fun _ x => r9.frozen x, fun j _ => hQl.out j, fun h => ?_, (lv_tlen _ _).trans HVQ.out⟩,
          ⟨_, _, _, S3, rfl, by omega, by omega, fun h => (by cases h), L9.take t2, fun _ x => F9 x, fun j hj => l10 j (by omega), fun h => ?_, (lv_tlen _ _).trans HV10.out⟩, by omega, by omega, by omega, r9.lt, zG, fr9⟩
        · have := tlen_top _ _ h; simpa [nz] using this
        · have := tlen_top _ _ h; simpa [nz] using this
  · have bQ := (World.rowIs_alloc w7 #[.slice (some ⟨w7.heap.size + 1, 0, none⟩) L L] 55 (fun _ => .slice (some ⟨w7.heap.size + 1, 0, none⟩) L L) (fun i hi => by simp at hi; subst hi; rfl)).alloc (.cells (madeCells #[.int .u32 0] L) 58)
    have rQ := World.rowIs_made (w7.alloc (.cells #[.slice (some ⟨w7.heap.size + 1, 0, none⟩) L L] 55)) (.int .u32 0) L 58
    rw [show (w7.alloc (.cells #[.slice (some ⟨w7.heap.size + 1, 0, none⟩) L L] 55)).heap.size = w7.heap.size + 1 by simp] at rQ
    have sL : w7.Since w7.heap.size ((w7.alloc (.cells #[.slice (some ⟨w7.heap.size + 1, 0, none⟩) L L] 55)).alloc (.cells (madeCells #[.int .u32 0] L) 58)).drew := (((World.Since.refl _ _).alloc (Nat.le_refl _) _).alloc (by simp) _).drew
    have rQ := rQ.drew
    have bQ := bQ.drew
    obtain ⟨BQ, hBQ⟩ : ∃ x, x = w7.heap.size + 1 := ⟨_, rfl⟩
    obtain ⟨QB, hQB⟩ : ∃ x, x = w7.heap.size := ⟨_, rfl⟩
    generalize ((w7.alloc (.cells #[.slice (some ⟨w7.heap.size + 1, 0, none⟩) L L] 55)).alloc (.cells (madeCells #[.int .u32 0] L) 58)).drew = wL at *
    rw [← hBQ] at bQ rQ
    rw [← hBQ]
    rw [← hQB] at bQ
    rw [← hQB]
    have lg0 : Lg c o b w wL G BQ QB nn dl L cG S1 (capped S2 t2) (fun _ => 0) := ⟨fr7.since sL, by rw [sL.cell (a := ⟨c, o, none⟩) (by show c < _; omega)]; exact c7, by rw [sL.cell (a := ⟨w.heap.size, 0, none⟩) (by show w.heap.size < _; omega)]; exact box7,
      D7.keep sL, L7.keep sL, fun x => by rw [sL.frozen (a := ⟨G, x, none⟩) hGl]; exact F7 x, rQ, bQ, by omega, by omega, by omega, by omega⟩
    clear rQ bQ sL hQB hBQ
    have hN := long_start (W := capped S2 t2) (D := lv S1 dl) (dl := dl) (L := L) (nn := nn) HnL.out (by omega) (capped_lt t2 HS2.out) (by rw [HNN.out]; exact capped_top S2 t2) HE1.out
    have HN := hide hN
    have hD0 : 0 < lv S1 dl := by have := HE1.out; have := Nat.pow_pos (n := 32 * (dl - 1)) (show 0 < 2 by omega); omega
    have HD0 := hide hD0
    clear hN hD0 fr7 c7 box7 D7 L7 F7 n1 n2
    go_loopw [7] (fun q wr => ∃ (k : Nat) (z : Int) (W Q : Nat → Nat), k ≤ L ∧ q = .int .i64 z ∧ Hid (z = k - 1) ∧ Lg c o b w wr G BQ QB nn dl L cG S1 W Q ∧ Hid (LongRel (lv (capped S2 t2) nn) (lv S1 dl) dl L nn W Q k)) (fun q _ => (intOf q + 1).toNat)
    case atStart => exact ⟨L, (L : Int) - 1, _, _, Nat.le_refl _, rfl, rfl, lg0, HN⟩
    case round =>
      clear lg0 HN
      obtain ⟨k, z, W, Q, hk, rfl, HZ, lg, HR⟩ := hrel
      by_cases hz : 0 ≤ z
      · obtain ⟨p, rfl⟩ := Int.eq_ofNat_of_zero_le hz
        have hkp : k = p + 1 := by have := HZ.out; omega
        subst hkp
        clear HZ
        have q1 := lg.box
        have hpn : p + dl < nn := by have := HnL.out; omega
        go_wp2_with fail
        refine (guess_any c o G nn cG (w.heap.size + 1) dl (dl + 1) p W S1 _ (by omega) hdl hpn lg.cC lg.LW lg.D HR.out.2.2.2.1 (fun j _ => HS.out j) HEd.out (long_top HR.out (by omega) rfl (fun j _ => HS.out j))).mono ?_
        rintro e w8 ⟨rfl, s8⟩
        have lg8 := lg.same s8
        have hgs := long_guess (W := W) (Y := S1) (a := p) hdl rfl (fun j _ => HS.out j) HR.out.2.2.2.1 (by have := HEd.out; omega) (long_window HR.out)
        have hgl := guess3_le (W (p + dl)) (W (p + dl - 1)) (W (p + dl - 2)) (S1 (dl - 1)) (S1 (dl - 2))
        generalize guess3 (W (p + dl)) (W (p + dl - 1)) (W (p + dl - 2)) (S1 (dl - 1)) (S1 (dl - 2)) = g at *
        have HGS := hide hgs
        clear hgs lg s8 q1
        have q1 := lg8.box
        go_wp2_with fail
        refine (takeTimes_any c o G nn cG (w.heap.size + 1) dl (dl + 1) g p W S1 _ (by omega) hgl hpn lg8.cC lg8.FG (by have := lg8.g0; omega) (by have := lg8.g0; omega) lg8.LW lg8.D HR.out.2.2.2.1 (fun j _ => HS.out j)).mono ?_
        rintro e w9 ⟨W1, bo, rfl, m9, L9, v9, e9, l9⟩
        have lg9 := lg8.marked m9 L9
        have HV9 := hide v9
        have HE9 := hide e9
        have HL9 := hide l9
        clear m9 L9 v9 e9 l9 lg8 q1
        have hpL : (p : Int) < (L : Int) := by omega
        cases bo with
        | false =>
          have hw9 : win W1 p (dl + 1) + g * lv S1 dl = win W p (dl + 1) := by have := HV9.out; simpa [win] using this
          have hgq := take_exact HD0.out hw9 HGS.out.1
          obtain ⟨HLR, -⟩ := long_step HR.out (by omega) HE2.out HD0.out hgq hw9 HE9.out HL9.out
          have HLR := hide HLR
          have q2 := lg9.bQ.cell (i := 0) (by omega)
          have q3 := lg9.rQ.cell (i := p) (by omega)
          have q4 := lg9.rQ.frozen p
          clear hw9 hgq HV9 HE9 HL9 HR HGS
          go_wp2
          go_roundw
          case rel => exact ⟨p, (p : Int) - 1, _, _, by omega, by go_num, rfl, lg9.put p g, HLR⟩
          case measure => simp [intOf]
        | true =>
          have q1 := lg9.box
          have hg1 : 1 ≤ g := by
            by_cases h : 1 ≤ g
            · exact h
            · exfalso
              have e0 : g = 0 := by omega
              have h1 := HV9.out
              have h2 := win_lt HL9.out p (dl + 1)
              unfold win at h2
              rw [e0] at h1
              simp at h1
              omega
          go_wp2_with fail
          refine (giveBack_any c o G nn cG (w.heap.size + 1) dl (dl + 1) p W1 S1 _ (by omega) hpn lg9.cC lg9.FG (by have := lg9.g0; omega) (by have := lg9.g0; omega) lg9.LW lg9.D HL9.out (fun j _ => HS.out j)).mono ?_
          rintro e w10 ⟨W2, cy, rfl, m10, L10, v10, e10, l10, hcy⟩
          have lg10 := lg9.marked m10 L10
          have hto := take_over (U := win W p (dl + 1)) (V := win W1 p (dl + 1)) (V2 := win W2 p (dl + 1)) HD0.out (by have := HV9.out; simpa [win] using this) (win_lt HL9.out p (dl + 1)) HGS.out.2 v10 hcy (win_lt l10 p (dl + 1))
          obtain ⟨HLR, -⟩ := long_step HR.out (by omega) HE2.out HD0.out hto.2.1 hto.2.2 (fun k hk => (e10 k hk).trans (HE9.out k hk)) l10
          have HLR := hide HLR
          have q2 := lg10.bQ.cell (i := 0) (by omega)
          have q3 := lg10.rQ.cell (i := p) (by omega)
          have q4 := lg10.rQ.frozen p
          clear hto v10 e10 l10 HV9 HE9 HL9 HR HGS q1 lg9 L10 m10
          go_wp2
          go_roundw
          case rel =>
            have := lg10.put p (g - 1)
            rw [show ((g - 1 : Nat) : Int) = (g : Int) - 1 by omega] at this
            exact ⟨p, (p : Int) - 1, _, _, by omega, by go_num, rfl, this, HLR⟩
          case measure => simp [intOf]
      · have hk0 : k = 0 := by have := HZ.out; omega
        subst hk0
        obtain ⟨vQ, vW⟩ := long_end HR.out (by have := HnL.out; omega)
        have eN : lv (capped S2 t2) nn = lv X n * 2 ^ s := by rw [HNN.out, lv_capped]; exact HV2.out
        rw [eN, HEv.out] at vQ vW
        have q2 := lg.bQ.cell (i := 0) (by omega)
        have q3 := lg.bQ.frozen 0
        have hWl := hide HR.out.2.2.2.1
        have hQl := hide HR.out.2.2.2.2
        have HVQ : Hid (lv Q L = lv X n / lv Y dl) := vQ.trans shl_div.1
        have HVW : Hid (lv W nn / 2 ^ s = lv X n % lv Y dl) := by rw [vW]; exact shl_div.2
        clear vQ vW eN HR
        have j0 := lg.g0; have j1 := lg.g1; have j2 := lg.g2; have j3 := lg.g3
        go_wp2_with fail
        refine (trimAt_any QB 0 _ BQ 0 L L Q _ (by omega) (Nat.le_refl _) q2 q3 (limbs_row lg.rQ)).mono ?_
        rintro e w8 ⟨rfl, hw8⟩
        have fr8 : Fr c o b w w8 := by rw [hw8]; exact lg.fr.setNew (Or.inr (by omega)) (by omega) _
        have c8 : w8.cell? ⟨c, o, none⟩ = some (.slice (some ⟨G, 0, none⟩) nn cG) := by rw [hw8, World.cell?_setCell_other _ _ _ _ (fun e => by have := congrArg Addr.block e; simp at this; omega)]; exact lg.cC
        have L8 : Limbs w8 (some ⟨G, 0, none⟩) G 0 nn W := by rw [hw8]; exact lg.LW.setOther (by omega) _
        have F8 : ∀ x, w8.frozen? ⟨G, x, none⟩ = false := fun x => by rw [hw8]; simp [lg.FG x]
        have r8 : w8.rowIs BQ 58 L (fun j => .int .u32 (Q j)) := by rw [hw8]; exact lg.rQ.setOther (by show BQ ≠ QB; omega) _
        have b8 : w8.cell? ⟨QB, 0, none⟩ = some (.slice (some ⟨BQ, 0, none⟩) (tlen (nz Q) L) L) := by rw [hw8]; exact World.cell?_setCell_same _ _ _ q2
        clear hw8 lg q2 q3
        go_wp2_with fail
        refine (shiftRight_small c o G nn cG s W _ (by omega) hcG (by have := HnL.out; omega) hs L8 (fun j _ => hWl.out j) c8 (by rw [fr8.frozen]; exact hf0) F8 (by omega)).mono ?_
        rintro e w9 ⟨rfl, w10, S3, k3, m10, L10, hk3, l10, v10, hw9⟩
        have HV10 := hide (v10.trans HVW.out)
        have fr9 : Fr c o b w w9 := by rw [hw9]; exact (fr8.marked m10 (Or.inr (by omega)) (by omega)).set _
        have r9 : w9.rowIs BQ 58 L (fun j => .int .u32 (Q j)) := by rw [hw9]; exact (r8.of_block (m10.other _ (by omega))).setOther (by show BQ ≠ c; omega) _
        have b9 : w9.cell? ⟨QB, 0, none⟩ = some (.slice (some ⟨BQ, 0, none⟩) (tlen (nz Q) L) L) := by
          rw [hw9, World.cell?_setCell_other _ _ _ _ (fun e => by have := congrArg Addr.block e; simp at this; omega), m10.cell (a := ⟨QB, 0, none⟩) (by show QB ≠ G; omega)]; exact b8
        have c9 : w9.cell? ⟨c, o, none⟩ = some (.slice (some ⟨G, 0, none⟩) (tlen (nz S3) k3) cG) := by
          rw [hw9]; exact World.cell?_setCell_same _ _ _ ((m10.cell (a := ⟨c, o, none⟩) (by show c ≠ G; omega)).trans c8)
        have L9 : Limbs w9 (some ⟨G, 0, none⟩) G 0 k3 S3 := by rw [hw9]; exact L10.setOther (by omega) _
        have F9 : ∀ x, w9.frozen? ⟨G, x, none⟩ = false := fun x => by rw [hw9]; simp [m10.frozen, F8 x]
        have zG : G < w9.heap.size := by have := r9.lt; omega
        clear v10 hw9 m10 L10 L8 F8 r8 b8 c8 fr8
        go_wp2
        go_ret
        have t1 := tlen_le (nz Q) L
        have t2 := tlen_le (nz S3) k3
        have hLn : L ≤ n + 2 := by have := HnL.out; omega
        refine ⟨_, _, BQ, G, rfl, c9, ⟨_, _, _, Q, rfl, t1, by omega, fun h => (by cases h), (limbs_row r9).take t1, fun _ x => r9.frozen x, fun j _ => hQl.out j, fun h => ?_, (lv_tlen _ _).trans HVQ.out⟩,
          ⟨_, _, _, S3, rfl, by omega, by omega, fun h => (by cases h), L9.take t2, fun _ x => F9 x, fun j hj => l10 j (by omega), fun h => ?_, (lv_tlen _ _).trans HV10.out⟩, by omega, by omega, by omega, r9.lt, zG, fr9⟩
        · have := tlen_top _ _ h; simpa [nz] using this
        · have := tlen_top _ _ h; simpa [nz] using this

end Go.Proofs.YtabemlkdpgglaaaDoor
