import Derived.Test.YthaomfabdghfjaaGreatOwnP9
import Derived.Test.YthaomfabdghfjaaGreatOwnP4
import Derived.Test.YthaomfabdghfjaaGreatOwnP6
import Derived.Test.YthaomfabdghfjaaGreatG1P3
namespace Go.Proofs.YthaomfabdghfjaaGreat
open Go.RowKit

/-- What writes into the blocks of S leave. -/
structure Fra (w w' : World) (S : Nat → Prop) : Prop where
  os : w'.os = w.os
  tape : w'.tape = w.tape
  output : w'.output = w.output
  size : w'.heap.size = w.heap.size
  other : ∀ k, ¬ S k → w'.heap[k]? = w.heap[k]?
  frozen : ∀ b o, w'.frozen? ⟨b, o, none⟩ = w.frozen? ⟨b, o, none⟩

section
variable {w w' w'' : World} {S S' : Nat → Prop} {b n : Nat}
theorem Fra.refl (w : World) (S : Nat → Prop) : Fra w w S := ⟨rfl, rfl, rfl, rfl, fun _ _ => rfl, fun _ _ => rfl⟩
theorem Fra.mono (f : Fra w w' S) (h : ∀ k, S k → S' k) : Fra w w' S' := ⟨f.os, f.tape, f.output, f.size, fun k hk => f.other k (fun h0 => hk (h k h0)), f.frozen⟩
theorem Fra.trans (f : Fra w w' S) (g : Fra w' w'' S) : Fra w w'' S :=
  ⟨g.os.trans f.os, g.tape.trans f.tape, g.output.trans f.output, g.size.trans f.size, fun k hk => (g.other k hk).trans (f.other k hk), fun b o => (g.frozen b o).trans (f.frozen b o)⟩
theorem Marked.fr (M : Marked w w' b) : Fra w w' (fun k => k = b) :=
  ⟨M.os, M.tape, M.output, M.size, fun k hk => M.other k hk, fun c o => by
    by_cases e : c = b
    · subst e; exact M.frozen o
    · exact M.frozenO (a := ⟨c, o, none⟩) e⟩
theorem Marked.frN (M : Marked w w' b) (h : n = 0 → w' = w) : Fra w w' (fun k => 0 < n ∧ k = b) := by
  by_cases e : n = 0
  · rw [h e]; exact Fra.refl _ _
  · exact M.fr.mono (fun k hk => ⟨by omega, hk⟩)
theorem Fra.cell (f : Fra w w' S) {a : Addr} (h : ¬ S a.block) : w'.cell? a = w.cell? a := World.cell?_of_block (w := w) (f.other _ h)
theorem Fra.limbs {a : Option Addr} {off : Nat} {X : Nat → Nat} (f : Fra w w' S) (L : Limbs w a b off n X) (h : 0 < n → ¬ S b) : Limbs w' a b off n X :=
  fun j hj => ⟨(L j hj).1, by rw [f.cell (a := ⟨b, off + j, none⟩) (h (by omega))]; exact (L j hj).2⟩
end

theorem Fra.since {w w' : World} {S : Nat → Prop} {B : Nat} (F : Fra w w' S) (h : ∀ k, S k → B ≤ k) : w.Since B w' :=
  ⟨F.os, F.tape, F.output, by rw [F.size]; exact Nat.le_refl _, fun k hk => F.other k (fun h0 => by have := h k h0; omega)⟩

/-- An entry of three cells whose two lists lie in memory of their own. -/
structure OwnE (w : World) (lo hi b off : Nat) (f : Bool) (g h : Nat) (a1 : Option Addr) (n1 k1 : Nat) (a2 : Option Addr) (n2 k2 : Nat) (X Y : Nat → Nat) : Prop where
  c0 : w.cell? ⟨b, off, none⟩ = some (.bool f)
  c1 : w.cell? ⟨b, off + 1, none⟩ = some (.slice a1 n1 k1)
  c2 : w.cell? ⟨b, off + 2, none⟩ = some (.slice a2 n2 k2)
  L1 : Limbs w a1 g 0 n1 X
  L2 : Limbs w a2 h 0 n2 Y
  s1 : n1 ≤ 4194304
  s2 : n2 ≤ 4194304
  lg : 0 < n1 → lo ≤ g ∧ g < hi ∧ ∀ o, w.frozen? ⟨g, o, none⟩ = false
  lh : 0 < n2 → lo ≤ h ∧ h < hi ∧ ∀ o, w.frozen? ⟨h, o, none⟩ = false
  ne : 0 < n1 → 0 < n2 → g ≠ h

theorem OwnE.frame {w w' : World} {S : Nat → Prop} {lo hi b off : Nat} {f : Bool} {g h : Nat} {a1 : Option Addr} {n1 k1 : Nat} {a2 : Option Addr} {n2 k2 : Nat} {X Y : Nat → Nat} (r : OwnE w lo hi b off f g h a1 n1 k1 a2 n2 k2 X Y) (F : Fra w w' S)
    (hS : ∀ k, lo ≤ k → k < hi → ¬ S k) (hc : ∀ o, off ≤ o → o < off + 3 → w'.cell? ⟨b, o, none⟩ = w.cell? ⟨b, o, none⟩) : OwnE w' lo hi b off f g h a1 n1 k1 a2 n2 k2 X Y :=
  ⟨by rw [hc _ (by omega) (by omega)]; exact r.c0, by rw [hc _ (by omega) (by omega)]; exact r.c1, by rw [hc _ (by omega) (by omega)]; exact r.c2,
    F.limbs r.L1 (fun h0 => hS g (r.lg h0).1 (r.lg h0).2.1), F.limbs r.L2 (fun h0 => hS h (r.lh h0).1 (r.lh h0).2.1), r.s1, r.s2,
    fun h0 => ⟨(r.lg h0).1, (r.lg h0).2.1, fun o => by rw [F.frozen]; exact (r.lg h0).2.2 o⟩, fun h0 => ⟨(r.lh h0).1, (r.lh h0).2.1, fun o => by rw [F.frozen]; exact (r.lh h0).2.2 o⟩, r.ne⟩

/-- A list of entries in memory of its own: entry i has the blocks from E i to E (i + 1). -/
def OwnFrom (w : World) (b k n : Nat) (E : Nat → Nat) : Prop := ∀ i, k ≤ i → i < n → ∃ f g h a1 n1 k1 a2 n2 k2 X Y, OwnE w (E i) (E (i + 1)) b (i * 3) f g h a1 n1 k1 a2 n2 k2 X Y

/-- The marks of a list: entry i is marked from K i on. -/
def MarkE (w : World) (b n : Nat) (E K : Nat → Nat) : Prop := ∀ i, i < n → ∃ g h a1 n1 k1 a2 n2 k2, OwnE w (E i) (E (i + 1)) b (i * 3) (decide (K i % 3 = 0)) g h a1 n1 k1 a2 n2 k2 (fun j => (K i + 1 + j) % 4294967296) (fun j => (K i + 1 + n1 + j) % 4294967296) ∧ K (i + 1) = K i + 1 + n1 + n2

theorem e_mono {E : Nat → Nat} {n : Nat} (h : ∀ i, i < n → E i ≤ E (i + 1)) {i j : Nat} (hij : i ≤ j) (hj : j ≤ n) : E i ≤ E j := by
  induction j with
  | zero => have : i = 0 := by omega
            subst this; exact Nat.le_refl _
  | succ j ih =>
    by_cases e : i = j + 1
    · subst e; exact Nat.le_refl _
    · exact Nat.le_trans (ih (by omega) (by omega)) (h j (by omega))

set_option maxHeartbeats 1600000 in
set_option maxRecDepth 100000 in
/-- markRatS writes into the list and its entries' memory alone. -/
theorem markRatS_any (a : Option Addr) (b n cap : Nat) (E : Nat → Nat) (k0 : Nat) (w : World) (hn : n ≤ 1048576) (hk0 : k0 ≤ 576460752303423488) (ha : 0 < n → a = some ⟨b, 0, none⟩) (hE : ∀ i, i < n → E i ≤ E (i + 1)) (hb : b < E 0) (hf : 0 < n → ∀ o, w.frozen? ⟨b, o, none⟩ = false) (H : OwnFrom w b 0 n E) :
    Calls Tryz.prog 15 #[.slice a n cap, .int .i64 k0] w fun e w' => ∃ K : Nat → Nat, K 0 = k0 ∧ K n ≤ k0 + n * 8388609 ∧ e = .returned (.int .i64 ((K n : Nat) : Int)) ∧ Fra w w' (fun k => 0 < n ∧ (k = b ∨ E 0 ≤ k ∧ k < E n)) ∧ MarkE w' b n E K := by
  go_enter Tryz.func15, Tryz.ntmps15
  go_wp2
  go_loopw [1, 5] (fun q i wr => ∃ (k : Nat) (K : Nat → Nat), k ≤ n ∧ i = .int .i64 k ∧ q = .int .i64 ((K k : Nat) : Int) ∧ K 0 = k0 ∧ K k ≤ k0 + k * 8388609 ∧ Fra w wr (fun k => 0 < n ∧ (k = b ∨ E 0 ≤ k ∧ k < E n)) ∧ MarkE wr b k E K ∧ OwnFrom wr b k n E) (fun _ i _ => n - (intOf i).toNat)
  case atStart => exact ⟨0, fun _ => k0, Nat.zero_le _, rfl, rfl, rfl, by simp, Fra.refl _ _, fun i hi => absurd hi (by omega), H⟩
  case round =>
    obtain ⟨k, K, hk, rfl, rfl, hK0, hK, hs, hm, ho⟩ := hrel
    by_cases hlt : k < n
    · obtain ⟨f, g, h, a1, n1, k1, a2, n2, k2, X, Y, r⟩ := ho k (Nat.le_refl _) hlt
      obtain rfl := ha (by omega)
      have g0 := r.c0
      have g1 := r.c1
      have g2 := r.c2
      have fz : wr.frozen? ⟨b, k * 3, none⟩ = false := by rw [hs.frozen]; exact hf (by omega) _
      have s1 := r.s1
      have s2 := r.s2
      have zK : K k ≤ 1125899906842624000 := by omega
      generalize hKk : K k = Kk at *
      go_wp2_with fail
      have b1 : b < E k := Nat.lt_of_lt_of_le hb (e_mono hE (Nat.zero_le _) hk)
      have M1 : Marked wr (wr.setCell ⟨b, k * 3, none⟩ (.bool ((Kk : Int) % 3 == 0))) b := (Marked.refl wr b).setCell _ _
      have d0 : (wr.setCell ⟨b, k * 3, none⟩ (.bool ((Kk : Int) % 3 == 0))).cell? ⟨b, k * 3, none⟩ = some (.bool (decide (Kk % 3 = 0))) := by
        rw [World.cell?_setCell_same _ _ _ g0]
        have : ((Kk : Int) % 3 == 0) = decide (Kk % 3 = 0) := by
          rw [Bool.eq_iff_iff, beq_iff_eq, decide_eq_true_iff]; omega
        rw [this]
      have d1 : ∀ o, o ≠ k * 3 → (wr.setCell ⟨b, k * 3, none⟩ (.bool ((Kk : Int) % 3 == 0))).cell? ⟨b, o, none⟩ = wr.cell? ⟨b, o, none⟩ := fun o ho =>
        World.cell?_setCell_other _ _ _ _ (fun h => by have := congrArg Addr.off h; simp at this; omega)
      generalize wr.setCell ⟨b, k * 3, none⟩ (.bool ((Kk : Int) % 3 == 0)) = w1 at *
      rw [show ((Kk : Int) + 1) = ((Kk + 1 : Nat) : Int) by omega]
      refine (markU_any a1 g n1 k1 X (Kk + 1) w1 s1 (by omega) (r.L1.marked M1 (fun h0 => by have := (r.lg h0).1; omega)) (fun h0 o => by rw [M1.fr.frozen]; exact (r.lg h0).2.2 o)).mono ?_
      rintro e w2 ⟨rfl, M2, z2, L2⟩
      have F2 := M2.frN z2
      have nb1 : ¬ (0 < n1 ∧ b = g) := fun h0 => by have := (r.lg h0.1).1; omega
      have nb2 : ¬ (0 < n2 ∧ b = h) := fun h0 => by have := (r.lh h0.1).1; omega
      have i2 : w2.cell? ⟨b, k * 3 + 2, none⟩ = some (.slice a2 n2 k2) := by rw [F2.cell (a := ⟨b, k * 3 + 2, none⟩) nb1, d1 _ (by omega)]; exact g2
      go_wp2_with fail
      have Y2 : Limbs w2 a2 h 0 n2 Y := F2.limbs (r.L2.marked M1 (fun h0 => by have := (r.lh h0).1; omega)) (fun h0 h1 => r.ne h1.1 h0 h1.2.symm)
      refine (markU_any a2 h n2 k2 Y (Kk + 1 + n1) w2 s2 (by omega) Y2 (fun h0 o => by rw [F2.frozen, M1.fr.frozen]; exact (r.lh h0).2.2 o)).mono ?_
      rintro e w3 ⟨rfl, M3, z3, L3⟩
      have F3 := M3.frN z3
      go_wp2
      go_roundw
      case rel =>
        have F : Fra wr w3 (fun c => c = b ∨ E k ≤ c ∧ c < E (k + 1)) :=
          ((M1.fr.mono (fun c h0 => .inl h0)).trans (F2.mono (fun c h0 => .inr (by have := r.lg h0.1; rw [h0.2]; exact ⟨this.1, this.2.1⟩)))).trans (F3.mono (fun c h0 => .inr (by have := r.lh h0.1; rw [h0.2]; exact ⟨this.1, this.2.1⟩)))
        have hcb : ∀ o, o ≠ k * 3 → w3.cell? ⟨b, o, none⟩ = wr.cell? ⟨b, o, none⟩ := fun o h0 => by
          rw [F3.cell (a := ⟨b, o, none⟩) nb2, F2.cell (a := ⟨b, o, none⟩) nb1, d1 o h0]
        refine ⟨k + 1, fun i => if i ≤ k then K i else Kk + 1 + n1 + n2, by omega, by go_num, ?_, ?_, ?_, hs.trans (F.mono ?_), fun i hi => ?_, fun i hi hi' => ?_⟩
        · simp only [show ¬ k + 1 ≤ k by omega, if_false]
          go_num
        · simpa using hK0
        · simp only [show ¬ k + 1 ≤ k by omega, if_false]; omega
        · intro c hc
          refine ⟨by omega, ?_⟩
          rcases hc with hc | hc
          · exact .inl hc
          · have := e_mono hE (Nat.zero_le k) hk
            have := e_mono hE (i := k + 1) (j := n) (by omega) (Nat.le_refl _)
            exact .inr ⟨by omega, by omega⟩
        · by_cases e : i = k
          · subst e
            simp only [Nat.le_refl, if_true, show ¬ i + 1 ≤ i by omega, if_false, hKk]
            refine ⟨g, h, a1, n1, k1, a2, n2, k2, ⟨?_, ?_, ?_, F3.limbs L2 (fun h0 h1 => r.ne h0 h1.1 h1.2), L3, s1, s2, fun h0 => ⟨(r.lg h0).1, (r.lg h0).2.1, fun o => by rw [F.frozen]; exact (r.lg h0).2.2 o⟩, fun h0 => ⟨(r.lh h0).1, (r.lh h0).2.1, fun o => by rw [F.frozen]; exact (r.lh h0).2.2 o⟩, r.ne⟩, rfl⟩
            · rw [F3.cell (a := ⟨b, i * 3, none⟩) nb2, F2.cell (a := ⟨b, i * 3, none⟩) nb1]; exact d0
            · rw [hcb _ (by omega)]; exact g1
            · rw [hcb _ (by omega)]; exact g2
          · have hi2 : i < k := by omega
            simp only [show i ≤ k by omega, show i + 1 ≤ k by omega, if_true]
            obtain ⟨g', h', a1', n1', k1', a2', n2', k2', r', e'⟩ := hm i hi2
            have := e_mono hE (Nat.zero_le i) (show i ≤ n by omega)
            have := e_mono hE (i := i + 1) (j := k) (by omega) hk
            exact ⟨g', h', a1', n1', k1', a2', n2', k2', r'.frame F (fun c h1 h2 h3 => by rcases h3 with h3 | h3 <;> omega) (fun o h1 h2 => hcb o (by omega)), e'⟩
        · obtain ⟨f', g', h', a1', n1', k1', a2', n2', k2', X', Y', r'⟩ := ho i (by omega) hi'
          have := e_mono hE (i := k + 1) (j := i) (by omega) (by omega)
          have := e_mono hE (Nat.zero_le i) (show i ≤ n by omega)
          exact ⟨f', g', h', a1', n1', k1', a2', n2', k2', X', Y', r'.frame F (fun c h1 h2 h3 => by rcases h3 with h3 | h3 <;> omega) (fun o h1 h2 => hcb o (by omega))⟩
      case measure => simp [intOf]; omega
    · have e : k = n := by omega
      subst e
      go_wp2
      go_ret
      exact ⟨K, hK0, hK, rfl, hs, hm⟩

set_option maxHeartbeats 1600000 in
set_option maxRecDepth 100000 in
/-- heldRatS at a list whose marks stand. -/
theorem heldRatS_any (a : Option Addr) (b n cap : Nat) (E K : Nat → Nat) (k0 : Nat) (w : World) (hn : n ≤ 1048576) (hk0 : k0 ≤ 576460752303423488) (ha : 0 < n → a = some ⟨b, 0, none⟩) (hK0 : K 0 = k0) (H : MarkE w b n E K) :
    Calls Tryz.prog 16 #[.slice a n cap, .int .i64 k0] w fun e w' => e = .returned (.int .i64 ((K n : Nat) : Int)) ∧ w' = w := by
  go_enter Tryz.func16, Tryz.ntmps16
  go_wp2
  go_loop [1, 5] (fun q i => ∃ k : Nat, k ≤ n ∧ i = .int .i64 k ∧ q = .int .i64 ((K k : Nat) : Int) ∧ K k ≤ k0 + k * 8388609) (fun _ i => n - (intOf i).toNat)
  case atStart => exact ⟨0, Nat.zero_le _, rfl, by rw [hK0], by omega⟩
  case round =>
    obtain ⟨k, hk, rfl, rfl, hK⟩ := hrel
    by_cases hlt : k < n
    · obtain ⟨g, h, a1, n1, k1, a2, n2, k2, r, eK⟩ := H k hlt
      obtain rfl := ha (by omega)
      have g0 := r.c0
      have g1 := r.c1
      have g2 := r.c2
      have s1 := r.s1
      have s2 := r.s2
      have L1 := r.L1
      have L2 := r.L2
      have zK : K k ≤ 1125899906842624000 := by omega
      clear r
      generalize hKk : K k = Kk at *
      have e3 : decide (Kk % 3 = 0) = ((Kk : Int) % 3 == 0) := by
        rw [Bool.eq_iff_iff, beq_iff_eq, decide_eq_true_iff]; omega
      rw [e3] at g0
      go_wp2_with fail
      rw [show ((Kk : Int) + 1) = ((Kk + 1 : Nat) : Int) by omega]
      refine (heldU_any a1 g 0 n1 k1 (Kk + 1) w s1 (by omega) L1).mono ?_
      rintro e w2 ⟨rfl, rfl⟩
      go_wp2_with fail
      refine (heldU_any a2 h 0 n2 k2 (Kk + 1 + n1) _ s2 (by omega) L2).mono ?_
      rintro e w3 ⟨rfl, rfl⟩
      go_wp2
      go_round
      case rel => exact ⟨k + 1, by omega, by go_num, by rw [eK]; go_num, by omega⟩
      case measure => simp [intOf]; omega
    · have e : k = n := by omega
      subst e
      go_wp2
      go_ret
      exact ⟨rfl, rfl⟩

/-- A list of rationals in memory of its own is a list of entries so. -/
theorem RatOs.own {w : World} {b n : Nat} {Q : Nat → Rat} {E : Nat → Nat} (T : RatOs w b n Q E) (hq : ∀ i, i < n → Qb (Q i) 4194304) : OwnFrom w b 0 n E := fun i _ hi => by
  obtain ⟨g, h, a1, n1, k1, a2, n2, k2, X, Y, r⟩ := T.at_ i hi
  have e1 := lv_lim r.R.pX (by rw [r.v1]; exact (hq i hi).1)
  have e2 := lv_lim r.R.pY (by rw [r.v2]; exact (hq i hi).2)
  exact ⟨_, g, h, a1, n1, k1, a2, n2, k2, X, Y, r.c0, r.c1, r.c2, r.R.LX, r.R.LY, by omega, by omega, r.lg, r.lh, r.ne⟩

end Go.Proofs.YthaomfabdghfjaaGreat

namespace Go.Proofs.YthaomfabdghfjaaGreat
open Go.RowKit

theorem OwnE.keep {w w' : World} {lo hi b off : Nat} {f : Bool} {g h : Nat} {a1 : Option Addr} {n1 k1 : Nat} {a2 : Option Addr} {n2 k2 : Nat} {X Y : Nat → Nat} (r : OwnE w lo hi b off f g h a1 n1 k1 a2 n2 k2 X Y) (s : w.Since w.heap.size w') : OwnE w' lo hi b off f g h a1 n1 k1 a2 n2 k2 X Y := by
  have lt : b < w.heap.size := World.block_lt_of_cell? _ _ r.c0
  exact ⟨(s.cell (a := ⟨b, off, none⟩) lt).trans r.c0, (s.cell (a := ⟨b, off + 1, none⟩) lt).trans r.c1, (s.cell (a := ⟨b, off + 2, none⟩) lt).trans r.c2, r.L1.keep s, r.L2.keep s, r.s1, r.s2,
    fun h0 => ⟨(r.lg h0).1, (r.lg h0).2.1, fun o => by rw [s.frozen (a := ⟨g, o, none⟩) (r.L1.lt h0)]; exact (r.lg h0).2.2 o⟩,
    fun h0 => ⟨(r.lh h0).1, (r.lh h0).2.1, fun o => by rw [s.frozen (a := ⟨h, o, none⟩) (r.L2.lt h0)]; exact (r.lh h0).2.2 o⟩, r.ne⟩

theorem OwnFrom.keep {w w' : World} {b k n : Nat} {E : Nat → Nat} (H : OwnFrom w b k n E) (s : w.Since w.heap.size w') : OwnFrom w' b k n E := fun i h1 h2 => by
  obtain ⟨f, g, h, a1, n1, k1, a2, n2, k2, X, Y, r⟩ := H i h1 h2
  exact ⟨f, g, h, a1, n1, k1, a2, n2, k2, X, Y, r.keep s⟩

/-- A list that grows: its first k entries own blocks behind it. -/
structure OwnK (w : World) (c k : Nat) (E : Nat → Nat) : Prop where
  lo : c < E 0
  mono : ∀ i, i < k → E i ≤ E (i + 1)
  hi : E k ≤ w.heap.size
  own : OwnFrom w c 0 k E

theorem OwnK.keep {w w' : World} {c k : Nat} {E : Nat → Nat} (H : OwnK w c k E) (s : w.Since w.heap.size w') : OwnK w' c k E :=
  ⟨H.lo, H.mono, Nat.le_trans H.hi s.size, H.own.keep s⟩

theorem OwnK.put {w w' : World} {c k B n1 n2 g h : Nat} {f : Bool} {E X Y : Nat → Nat} (H : OwnK w c k E) (hB : E k ≤ B) (M : Marked w w' c) (hc : ∀ o, o < k * 3 → w'.cell? ⟨c, o, none⟩ = w.cell? ⟨c, o, none⟩)
    (c0 : w'.cell? ⟨c, k * 3, none⟩ = some (.bool f)) (c1 : w'.cell? ⟨c, k * 3 + 1, none⟩ = some (.slice (some ⟨g, 0, none⟩) n1 n1)) (c2 : w'.cell? ⟨c, k * 3 + 2, none⟩ = some (.slice (some ⟨h, 0, none⟩) n2 n2))
    (L1 : Limbs w (some ⟨g, 0, none⟩) g 0 n1 X) (L2 : Limbs w (some ⟨h, 0, none⟩) h 0 n2 Y) (s1 : n1 ≤ 4194304) (s2 : n2 ≤ 4194304) (l1 : B ≤ g) (l2 : g < h) (l3 : h < w.heap.size)
    (f1 : ∀ o, w.frozen? ⟨g, o, none⟩ = false) (f2 : ∀ o, w.frozen? ⟨h, o, none⟩ = false) : OwnK w' c (k + 1) (fun i => if i ≤ k then E i else w.heap.size) := by
  have b1 : c < E k := Nat.lt_of_lt_of_le H.lo (e_mono H.mono (Nat.zero_le _) (Nat.le_refl _))
  refine ⟨by simpa using H.lo, fun i hi => ?_, ?_, fun i _ hi => ?_⟩
  · by_cases e : i = k
    · subst e
      simp only [Nat.le_refl, if_true, show ¬ i + 1 ≤ i by omega, if_false]
      exact H.hi
    · simp only [show i ≤ k by omega, show i + 1 ≤ k by omega, if_true]
      exact H.mono i (by omega)
  · simp only [show ¬ k + 1 ≤ k by omega, if_false]
    rw [M.size]; exact Nat.le_refl _
  · by_cases e : i = k
    · subst e
      simp only [Nat.le_refl, if_true, show ¬ i + 1 ≤ i by omega, if_false]
      exact ⟨f, g, h, _, n1, n1, _, n2, n2, X, Y, c0, c1, c2, L1.marked M (fun _ => by omega), L2.marked M (fun _ => by omega), s1, s2, fun _ => ⟨by omega, by omega, fun o => by rw [M.fr.frozen]; exact f1 o⟩, fun _ => ⟨by omega, by omega, fun o => by rw [M.fr.frozen]; exact f2 o⟩, fun _ _ => by omega⟩
    · simp only [show i ≤ k by omega, show i + 1 ≤ k by omega, if_true]
      obtain ⟨f', g', h', a1', n1', k1', a2', n2', k2', X', Y', r'⟩ := H.own i (Nat.zero_le _) (by omega)
      have := e_mono H.mono (Nat.zero_le i) (show i ≤ k by omega)
      have := H.lo
      exact ⟨f', g', h', a1', n1', k1', a2', n2', k2', X', Y', r'.frame M.fr (fun c h1 h2 h3 => by omega) (fun o h1 h2 => hc o (by omega))⟩

/-- A list whose memory lies from lo to hi, and may be written. -/
structure OwnL (w : World) (lo hi c n : Nat) : Prop where
  ex : ∃ E : Nat → Nat, lo ≤ c ∧ c < E 0 ∧ (∀ i, i < n → E i ≤ E (i + 1)) ∧ E n ≤ hi ∧ OwnFrom w c 0 n E
  f : ∀ o, w.frozen? ⟨c, o, none⟩ = false
  lt : c < w.heap.size

set_option maxHeartbeats 1600000 in
set_option maxRecDepth 100000 in
/-- toRatS, with what its copy owns. -/
theorem toRatS_own (a : Option Addr) (lo b off n cap : Nat) (R : Nat → RatD) (w : World) (hn : n ≤ 1048576) (hs : szR R n ≤ 1048576) (H : Rats w lo a b off n R) :
    Calls Tryz.prog 10 #[.slice a n cap] w fun e w' => ∃ c, e = .returned (.slice (some ⟨c, 0, none⟩) n n) ∧ w.heap.size ≤ c ∧ c < w'.heap.size ∧ OwnL w' w.heap.size w'.heap.size c n ∧ Rats w' (c + 1) (some ⟨c, 0, none⟩) c 0 n R ∧ w.Since w.heap.size w' := by
  have hmk := run_make_wide (P := Tryz.prog) 28 70 _ 3 56 Tryz.underlying28 info_Rat .i64 .i64 n (by omega) (by omega)
  have sA := (World.Since.refl w.heap.size w).alloc (Nat.le_refl _) (.cells (madeCells #[.bool false, .slice none 0 0, .slice none 0 0] (n * 3)) 70)
  have rA := Room.new w #[.bool false, .slice none 0 0, .slice none 0 0] (n * 3) 70
  go_enter Tryz.func10, Tryz.ntmps10
  go_wp2
  go_loopw [4] (fun i wr => ∃ (k : Nat) (E : Nat → Nat), OwnK wr w.heap.size k E ∧ k ≤ n ∧ i = .int .i64 k ∧ w.Since w.heap.size wr ∧ Room wr w.heap.size (n * 3) ∧ Rats wr (w.heap.size + 1) (some ⟨w.heap.size, 0, none⟩) w.heap.size 0 k R) (fun i _ => n - (intOf i).toNat)
  case atStart => exact ⟨0, fun _ => w.heap.size + 1, ⟨Nat.lt_succ_self _, fun i hi => absurd hi (by omega), by simp, fun i _ hi => absurd hi (by omega)⟩, Nat.zero_le _, rfl, sA, rA, fun i hi => absurd hi (by omega)⟩
  case round =>
    obtain ⟨k, E, ow, hk, rfl, s, r, T⟩ := hrel
    by_cases hlt : k < n
    · obtain ⟨rfl, a1, a2, k1, k2, M⟩ := H k hlt
      have M' := M.keep s
      have g0 := M'.c0
      have g1 := M'.c1
      have g2 := M'.c2
      have hz : (k : Int) < (n : Int) := by omega
      have hsz := szR_at (R := R) hlt
      obtain ⟨ba, oa, -, LX⟩ := M'.L.LX
      obtain ⟨bb, ob, -, LY⟩ := M'.L.LY
      go_wp2_with fail
      refine (toRat_any (R k).neg a1 a2 ba oa (R k).n k1 bb ob (R k).m k2 (R k).X (R k).Y wr (by omega) (by omega) LX LY).mono ?_
      rintro e w2 ⟨g, h, rfl, s2, l1, l2, l3, LX2, LY2, fz1, fz2⟩
      have r2 := r.keep s2
      have T2 := T.keep s2
      have S2 : w.Since w.heap.size w2 := s.trans (sinceMono s2 s.size)
      obtain ⟨v0, u0⟩ := r2.cell (k * 3) (by omega)
      obtain ⟨v1, u1⟩ := r2.cell (k * 3 + 1) (by omega)
      obtain ⟨v2, u2⟩ := r2.cell (k * 3 + 2) (by omega)
      have f0 := r2.f (k * 3)
      have f1 := r2.f (k * 3 + 1)
      have f2 := r2.f (k * 3 + 2)
      have rl := r.lt
      clear g0 g1 g2
      go_wp2
      go_roundw
      case rel =>
        go_light
        obtain ⟨w3, e3, M3, R3, x0, x1, x2, xo⟩ := put3 (q := k * 3) r2 (by omega) (.bool (R k).neg) (.slice (some ⟨g, 0, none⟩) (R k).n (R k).n) (.slice (some ⟨h, 0, none⟩) (R k).m (R k).m)
        rw [← e3]
        exact ⟨k + 1, _, (ow.keep s2).put ow.hi M3 (fun o ho => xo o (by omega)) x0 x1 x2 LX2 LY2 (by omega) (by omega) l1 l2 l3 fz1 fz2, by omega, by go_num, S2.trans (M3.since (Nat.le_refl _)), R3, T2.put M3 (fun o ho => xo o (by omega)) ⟨Nat.le_refl _, Nat.le_refl _, (fun h => by cases h), (fun h => by cases h), ⟨g, 0, fun _ => by omega, LX2⟩, ⟨h, 0, fun _ => by omega, LY2⟩, M.L.lX, M.L.lY, M.L.n63, M.L.m63⟩ x0 x1 x2⟩
      case measure => simp [intOf]; omega
    · have e : k = n := by omega
      subst e
      have rl := r.lt
      go_wp2
      go_ret
      exact ⟨w.heap.size, rfl, Nat.le_refl _, rl, ⟨⟨E, Nat.le_refl _, ow.lo, ow.mono, ow.hi, ow.own⟩, r.f, rl⟩, T, s⟩


end Go.Proofs.YthaomfabdghfjaaGreat

namespace Go.Proofs.YthaomfabdghfjaaGreat
open Go.RowKit

section
variable {w w' : World} {lo hi lo' hi' c n : Nat}
theorem OwnL.span (H : OwnL w lo hi c n) : lo ≤ c ∧ c < hi := by
  obtain ⟨E, h1, h2, h3, h4, -⟩ := H.ex
  have := e_mono h3 (Nat.zero_le n) (Nat.le_refl _)
  exact ⟨h1, by omega⟩
theorem OwnL.wide (H : OwnL w lo hi c n) (h1 : lo' ≤ lo) (h2 : hi ≤ hi') : OwnL w lo' hi' c n := by
  obtain ⟨E, a, b, e, d, o⟩ := H.ex
  exact ⟨⟨E, by omega, b, e, by omega, o⟩, H.f, H.lt⟩
theorem OwnL.keep (H : OwnL w lo hi c n) (s : w.Since w.heap.size w') : OwnL w' lo hi c n := by
  obtain ⟨E, a, b, e, d, o⟩ := H.ex
  exact ⟨⟨E, a, b, e, d, o.keep s⟩, fun o => by rw [s.frozen (a := ⟨c, o, none⟩) H.lt]; exact H.f o, Nat.lt_of_lt_of_le H.lt s.size⟩
theorem OwnL.frame {S : Nat → Prop} (H : OwnL w lo hi c n) (F : Fra w w' S) (hS : ∀ k, lo ≤ k → k < hi → ¬ S k) : OwnL w' lo hi c n := by
  have sp := H.span
  obtain ⟨E, a, b, e, d, o⟩ := H.ex
  refine ⟨⟨E, a, b, e, d, fun i h1 h2 => ?_⟩, fun o => by rw [F.frozen]; exact H.f o, by rw [F.size]; exact H.lt⟩
  obtain ⟨f', g', h', a1', n1', k1', a2', n2', k2', X', Y', r'⟩ := o i h1 h2
  have x1 := e_mono e (Nat.zero_le i) (show i ≤ n by omega)
  have x2 := e_mono e (i := i + 1) (j := n) (by omega) (Nat.le_refl _)
  exact ⟨f', g', h', a1', n1', k1', a2', n2', k2', X', Y', r'.frame F (fun k h1 h2 => hS k (by omega) (by omega)) (fun o _ _ => F.cell (a := ⟨c, o, none⟩) (hS c sp.1 sp.2))⟩
end

/-- markRatS at a list of its own memory. -/
theorem markRatS_own (lo hi c n cap k0 : Nat) (w : World) (hn : n ≤ 1048576) (hk0 : k0 ≤ 576460752303423488) (H : OwnL w lo hi c n) :
    Calls Tryz.prog 15 #[.slice (some ⟨c, 0, none⟩) n cap, .int .i64 k0] w fun e w' => ∃ k1 : Nat, k1 ≤ k0 + n * 8388609 ∧ e = .returned (.int .i64 (k1 : Int)) ∧ Fra w w' (fun k => lo ≤ k ∧ k < hi) := by
  have sp := H.span
  obtain ⟨E, a, b, e, d, o⟩ := H.ex
  refine (markRatS_any _ c n cap E k0 w hn hk0 (fun _ => rfl) e b (fun _ => H.f) o).mono ?_
  rintro e w' ⟨K, -, h2, rfl, F, -⟩
  exact ⟨K n, h2, rfl, F.mono (fun k hk => by omega)⟩

set_option maxHeartbeats 3200000 in
set_option maxRecDepth 100000 in
/-- toAffine, with what its copy owns. -/
theorem toAffine_own (d : AffD) (a1 a2 : Option Addr) (lo k1 k2 : Nat) (w : World) (hd : d.size ≤ 1048576) (H : AffL w lo d a1 a2 k1 k2) :
    Calls Tryz.prog 68 #[.agg #[.int .i64 d.rows, .int .i64 d.cols, .slice a1 d.nw k1, .slice a2 d.nb k2]] w fun e w' => ∃ g1 g3 m, e = .returned (.agg #[.int .i64 d.rows, .int .i64 d.cols, .slice (some ⟨g1, 0, none⟩) d.nw d.nw, .slice (some ⟨g3, 0, none⟩) d.nb d.nb]) ∧ OwnL w' w.heap.size m g1 d.nw ∧ OwnL w' m w'.heap.size g3 d.nb ∧
      AffL w' w.heap.size d (some ⟨g1, 0, none⟩) (some ⟨g3, 0, none⟩) d.nw d.nb ∧ w.Since w.heap.size w' := by
  have ts := hd
  unfold AffD.size at ts
  have e1 : ∃ wA : World, wA = (((w.alloc (.cells #[.int .i64 d.rows, .int .i64 d.cols, .slice a1 d.nw k1, .slice a2 d.nb k2] 103)).alloc (.cells #[.int .i64 0, .int .i64 0, .slice none 0 0, .slice none 0 0] 66)).alloc (.cells #[.int .i64 d.rows, .int .i64 d.cols, .slice none 0 0, .slice none 0 0] 66)) := ⟨_, rfl⟩
  obtain ⟨wA, eA⟩ := e1
  have sA : w.Since w.heap.size wA := by rw [eA]; exact (((World.Since.refl _ _).alloc (Nat.le_refl _) _).alloc (by simp) _).alloc (by simp; omega) _
  have zA : wA.heap.size = w.heap.size + 1 + 1 + 1 := by rw [eA]; simp
  have bA : Box4 wA w.heap.size (.int .i64 d.rows) (.int .i64 d.cols) (.slice a1 d.nw k1) (.slice a2 d.nb k2) := by rw [eA]; exact ((Box4.new w _ _ _ _ _).keep ((World.Since.refl _ _).alloc (Nat.le_refl _) _)).keep ((World.Since.refl _ _).alloc (Nat.le_refl _) _)
  have rA : Box4 wA (w.heap.size + 1) (.int .i64 0) (.int .i64 0) (.slice none 0 0) (.slice none 0 0) := by
    rw [eA]
    have := (Box4.new (w.alloc (.cells #[.int .i64 d.rows, .int .i64 d.cols, .slice a1 d.nw k1, .slice a2 d.nb k2] 103)) (.int .i64 0) (.int .i64 0) (.slice none 0 0) (.slice none 0 0) 66).keep ((World.Since.refl _ _).alloc (Nat.le_refl _) (.cells #[.int .i64 d.rows, .int .i64 d.cols, .slice none 0 0, .slice none 0 0] 66))
    simpa using this
  have oA : Box4 wA (w.heap.size + 1 + 1) (.int .i64 d.rows) (.int .i64 d.cols) (.slice none 0 0) (.slice none 0 0) := by
    rw [eA]
    have := Box4.new ((w.alloc (.cells #[.int .i64 d.rows, .int .i64 d.cols, .slice a1 d.nw k1, .slice a2 d.nb k2] 103)).alloc (.cells #[.int .i64 0, .int .i64 0, .slice none 0 0, .slice none 0 0] 66)) (.int .i64 d.rows) (.int .i64 d.cols) (.slice none 0 0) (.slice none 0 0) 66
    simpa using this
  have HA := H.keep sA
  obtain ⟨ba, oa, -, LW⟩ := HA.LW
  obtain ⟨bb, ob, -, LB⟩ := HA.LB
  have EA := hide eA
  clear eA
  go_enter Tryz.func68, Tryz.ntmps68
  go_wp2_with fail
  rw [← EA.out]
  refine (toRatS_own a1 lo ba oa d.nw k1 d.W wA (by omega) (by omega) LW).mono ?_
  rintro e w1 ⟨g1, rfl, l1, l1', U1, R1, s1⟩
  have S1 : w.Since w.heap.size w1 := sA.trans (sinceMono s1 sA.size)
  have B1 := bA.keep s1
  have Q1 := rA.keep s1
  have O1 := oA.keep s1
  have LB1 := LB.keep s1
  have b3 := B1.c3
  have o2 := O1.c2
  have f2 := O1.f 2
  have ll := B1.lt
  clear bA rA oA LW LB EA
  go_wp2_with fail
  have M2 : Marked w1 (w1.setCell ⟨w.heap.size + 1 + 1, 2, none⟩ (.slice (some ⟨g1, 0, none⟩) d.nw d.nw)) (w.heap.size + 1 + 1) := (Marked.refl w1 _).setCell _ _
  have O2 := O1.set2 (.slice (some ⟨g1, 0, none⟩) d.nw d.nw)
  have Q2 := Q1.marked M2 (by omega)
  have R2 := R1.marked M2 (by omega) (fun _ => by omega)
  have S2 := S1.trans (M2.since (B := w.heap.size) (by omega))
  have LB2 : Rats (w1.setCell ⟨w.heap.size + 1 + 1, 2, none⟩ (.slice (some ⟨g1, 0, none⟩) d.nw d.nw)) lo a2 bb ob d.nb d.B := by
    obtain ⟨bb', ob', -, L'⟩ := (H.keep S2).LB
    intro i hi
    obtain ⟨p1, -⟩ := LB1 i hi
    obtain ⟨q1, x1, x2, y1, y2, m⟩ := L' i hi
    obtain ⟨rfl, rfl⟩ : bb = bb' ∧ ob = ob' := by rw [p1] at q1; simpa using q1
    exact ⟨p1, x1, x2, y1, y2, m⟩
  have z2 := M2.size
  have U2 := U1.frame M2.fr (fun k h1 h2 h3 => by omega)
  have z1 := U1.span
  clear U1
  clear b3 o2 f2 B1 LB1 M2 O1 Q1 R1 S1
  generalize w1.setCell ⟨w.heap.size + 1 + 1, 2, none⟩ (.slice (some ⟨g1, 0, none⟩) d.nw d.nw) = w2 at *
  refine (toRatS_own a2 lo bb ob d.nb k2 d.B w2 (by omega) (by omega) LB2).mono ?_
  rintro e w3 ⟨g3, rfl, l3, l3', U3, R3, s3⟩
  have S3 : w.Since w.heap.size w3 := S2.trans (sinceMono s3 S2.size)
  have Q3 := Q2.keep s3
  have O3 := O2.keep s3
  have R2' := R2.keep s3
  have U2' := U2.keep s3
  have z3 := U3.span
  have o0 := O3.c0
  have o1 := O3.c1
  have o2 := O3.c2
  have o3 := O3.c3
  have of3 := O3.f 3
  have q0 := Q3.c0
  have q1 := Q3.c1
  have q2 := Q3.c2
  have q3 := Q3.c3
  have qf0 := Q3.f 0
  have qf1 := Q3.f 1
  have qf2 := Q3.f 2
  have qf3 := Q3.f 3
  clear LB2 R2 S2 O2 Q2
  have M4 : Marked w3 (w3.setCell ⟨w.heap.size + 1 + 1, 3, none⟩ (.slice (some ⟨g3, 0, none⟩) d.nb d.nb)) (w.heap.size + 1 + 1) := (Marked.refl w3 _).setCell _ _
  go_wp2
  have Q4 := ((((Q3.marked M4 (by omega)).set0 (.int .i64 d.rows)).set1 (.int .i64 d.cols)).set2 (.slice (some ⟨g1, 0, none⟩) d.nw d.nw)).set3 (.slice (some ⟨g3, 0, none⟩) d.nb d.nb)
  refine bodyPost_ret (results_box4T rfl Tryz.underlying66 rfl size_Affine _ _ _ _ _ _ _ rfl Q4) rfl ?_
  have M5 : Marked (w3.setCell ⟨w.heap.size + 1 + 1, 3, none⟩ (.slice (some ⟨g3, 0, none⟩) d.nb d.nb)) _ (w.heap.size + 1) := ((((Marked.refl _ _).setCell 0 (.int .i64 d.rows)).setCell 1 (.int .i64 d.cols)).setCell 2 (.slice (some ⟨g1, 0, none⟩) d.nw d.nw)).setCell 3 (.slice (some ⟨g3, 0, none⟩) d.nb d.nb)
  have z5 := M5.size
  have z4 := M4.size
  refine ⟨_, _, w1.heap.size, rfl, ((U2'.frame M4.fr (fun k h1 h2 h3 => by omega)).frame M5.fr (fun k h1 h2 h3 => by omega)).wide (by omega) (Nat.le_refl _), ((U3.frame M4.fr (fun k h1 h2 h3 => by omega)).frame M5.fr (fun k h1 h2 h3 => by omega)).wide (by omega) (by omega), ⟨Nat.le_refl _, Nat.le_refl _, ⟨g1, 0, fun _ => by omega, ?_⟩, ⟨g3, 0, fun _ => by omega, ?_⟩, H.r0, H.r1, H.q0, H.q1, H.n63, H.m63⟩, (S3.trans (M4.since (by omega))).trans (M5.since (by omega))⟩
  · exact ((R2'.marked M4 (by omega) (fun _ => by omega)).marked M5 (by omega) (fun _ => by omega)).down (by omega)
  · exact ((R3.marked M4 (by omega) (fun _ => by omega)).marked M5 (by omega) (fun _ => by omega)).down (by omega)

end Go.Proofs.YthaomfabdghfjaaGreat

namespace Go.Proofs.YthaomfabdghfjaaGreat
open Go.RowKit

/-- An affine map of four cells whose two lists lie in memory of their own. -/
structure OwnA (w : World) (lo hi b off : Nat) (d : AffD) (v0 v1 : Value) (g1 g3 m : Nat) : Prop where
  c0 : w.cell? ⟨b, off, none⟩ = some v0
  c1 : w.cell? ⟨b, off + 1, none⟩ = some v1
  c2 : w.cell? ⟨b, off + 2, none⟩ = some (.slice (some ⟨g1, 0, none⟩) d.nw d.nw)
  c3 : w.cell? ⟨b, off + 3, none⟩ = some (.slice (some ⟨g3, 0, none⟩) d.nb d.nb)
  U1 : OwnL w lo m g1 d.nw
  U3 : OwnL w m hi g3 d.nb

section
variable {w w' : World} {lo hi b off : Nat} {d : AffD} {v0 v1 : Value} {g1 g3 m : Nat}
theorem OwnA.keep (r : OwnA w lo hi b off d v0 v1 g1 g3 m) (s : w.Since w.heap.size w') : OwnA w' lo hi b off d v0 v1 g1 g3 m := by
  have lt : b < w.heap.size := World.block_lt_of_cell? _ _ r.c0
  exact ⟨(s.cell (a := ⟨b, off, none⟩) lt).trans r.c0, (s.cell (a := ⟨b, off + 1, none⟩) lt).trans r.c1, (s.cell (a := ⟨b, off + 2, none⟩) lt).trans r.c2, (s.cell (a := ⟨b, off + 3, none⟩) lt).trans r.c3, r.U1.keep s, r.U3.keep s⟩
theorem OwnA.frame {S : Nat → Prop} (r : OwnA w lo hi b off d v0 v1 g1 g3 m) (F : Fra w w' S) (hS : ∀ k, lo ≤ k → k < hi → ¬ S k) (hc : ∀ o, off ≤ o → o < off + 4 → w'.cell? ⟨b, o, none⟩ = w.cell? ⟨b, o, none⟩) : OwnA w' lo hi b off d v0 v1 g1 g3 m := by
  have s1 := r.U1.span
  have s3 := r.U3.span
  exact ⟨by rw [hc _ (by omega) (by omega)]; exact r.c0, by rw [hc _ (by omega) (by omega)]; exact r.c1, by rw [hc _ (by omega) (by omega)]; exact r.c2, by rw [hc _ (by omega) (by omega)]; exact r.c3,
    r.U1.frame F (fun k h1 h2 => hS k h1 (by omega)), r.U3.frame F (fun k h1 h2 => hS k (by omega) h2)⟩
end

def OwnAs (w : World) (c k n : Nat) (E : Nat → Nat) (A : Nat → AffD) : Prop := ∀ i, k ≤ i → i < n → ∃ v0 v1 g1 g3 m, OwnA w (E i) (E (i + 1)) c (i * 4) (A i) v0 v1 g1 g3 m

/-- A list of affine maps that grows. -/
structure OwnAK (w : World) (c k : Nat) (E : Nat → Nat) (A : Nat → AffD) : Prop where
  lo : c < E 0
  mono : ∀ i, i < k → E i ≤ E (i + 1)
  hi : E k ≤ w.heap.size
  own : OwnAs w c 0 k E A

theorem OwnAK.keep {w w' : World} {c k : Nat} {E : Nat → Nat} {A : Nat → AffD} (H : OwnAK w c k E A) (s : w.Since w.heap.size w') : OwnAK w' c k E A :=
  ⟨H.lo, H.mono, Nat.le_trans H.hi s.size, fun i h1 h2 => by
    obtain ⟨v0, v1, g1, g3, m, r⟩ := H.own i h1 h2
    exact ⟨v0, v1, g1, g3, m, r.keep s⟩⟩

theorem OwnAK.put {w w' : World} {c k B g1 g3 m : Nat} {E : Nat → Nat} {A : Nat → AffD} {v0 v1 : Value} (H : OwnAK w c k E A) (hB : E k ≤ B) (M : Marked w w' c) (hc : ∀ o, o < k * 4 → w'.cell? ⟨c, o, none⟩ = w.cell? ⟨c, o, none⟩)
    (c0 : w'.cell? ⟨c, k * 4, none⟩ = some v0) (c1 : w'.cell? ⟨c, k * 4 + 1, none⟩ = some v1) (c2 : w'.cell? ⟨c, k * 4 + 2, none⟩ = some (.slice (some ⟨g1, 0, none⟩) (A k).nw (A k).nw)) (c3 : w'.cell? ⟨c, k * 4 + 3, none⟩ = some (.slice (some ⟨g3, 0, none⟩) (A k).nb (A k).nb))
    (U1 : OwnL w B m g1 (A k).nw) (U3 : OwnL w m w.heap.size g3 (A k).nb) : OwnAK w' c (k + 1) (fun i => if i ≤ k then E i else w.heap.size) A := by
  have b1 : c < E k := Nat.lt_of_lt_of_le H.lo (e_mono H.mono (Nat.zero_le _) (Nat.le_refl _))
  have p1 := U1.span
  have p3 := U3.span
  refine ⟨by simpa using H.lo, fun i hi => ?_, ?_, fun i _ hi => ?_⟩
  · by_cases e : i = k
    · subst e
      simp only [Nat.le_refl, if_true, show ¬ i + 1 ≤ i by omega, if_false]
      exact H.hi
    · simp only [show i ≤ k by omega, show i + 1 ≤ k by omega, if_true]
      exact H.mono i (by omega)
  · simp only [show ¬ k + 1 ≤ k by omega, if_false]
    rw [M.size]; exact Nat.le_refl _
  · by_cases e : i = k
    · subst e
      simp only [Nat.le_refl, if_true, show ¬ i + 1 ≤ i by omega, if_false]
      exact ⟨v0, v1, g1, g3, m, c0, c1, c2, c3, (U1.frame M.fr (fun k h1 h2 h3 => by omega)).wide hB (Nat.le_refl _), U3.frame M.fr (fun k h1 h2 h3 => by omega)⟩
    · simp only [show i ≤ k by omega, show i + 1 ≤ k by omega, if_true]
      obtain ⟨v0', v1', g1', g3', m', r'⟩ := H.own i (Nat.zero_le _) (by omega)
      have := e_mono H.mono (Nat.zero_le i) (show i ≤ k by omega)
      have := H.lo
      exact ⟨v0', v1', g1', g3', m', r'.frame M.fr (fun c h1 h2 h3 => by omega) (fun o h1 h2 => hc o (by omega))⟩

/-- A list of affine maps whose memory lies from lo to hi, and may be written. -/
structure OwnM (w : World) (lo hi c n : Nat) (A : Nat → AffD) : Prop where
  ex : ∃ E : Nat → Nat, lo ≤ c ∧ c < E 0 ∧ (∀ i, i < n → E i ≤ E (i + 1)) ∧ E n ≤ hi ∧ OwnAs w c 0 n E A
  f : ∀ o, w.frozen? ⟨c, o, none⟩ = false
  lt : c < w.heap.size

section
variable {w w' : World} {lo hi lo' hi' c n : Nat} {A : Nat → AffD}
theorem OwnM.span (H : OwnM w lo hi c n A) : lo ≤ c ∧ c < hi := by
  obtain ⟨E, h1, h2, h3, h4, -⟩ := H.ex
  have := e_mono h3 (Nat.zero_le n) (Nat.le_refl _)
  exact ⟨h1, by omega⟩
theorem OwnM.wide (H : OwnM w lo hi c n A) (h1 : lo' ≤ lo) (h2 : hi ≤ hi') : OwnM w lo' hi' c n A := by
  obtain ⟨E, a, b, e, d, o⟩ := H.ex
  exact ⟨⟨E, by omega, b, e, by omega, o⟩, H.f, H.lt⟩
theorem OwnM.keep (H : OwnM w lo hi c n A) (s : w.Since w.heap.size w') : OwnM w' lo hi c n A := by
  obtain ⟨E, a, b, e, d, o⟩ := H.ex
  exact ⟨⟨E, a, b, e, d, fun i h1 h2 => by
    obtain ⟨v0, v1, g1, g3, m, r⟩ := o i h1 h2
    exact ⟨v0, v1, g1, g3, m, r.keep s⟩⟩, fun o => by rw [s.frozen (a := ⟨c, o, none⟩) H.lt]; exact H.f o, Nat.lt_of_lt_of_le H.lt s.size⟩
theorem OwnM.frame {S : Nat → Prop} (H : OwnM w lo hi c n A) (F : Fra w w' S) (hS : ∀ k, lo ≤ k → k < hi → ¬ S k) : OwnM w' lo hi c n A := by
  have sp := H.span
  obtain ⟨E, a, b, e, d, o⟩ := H.ex
  refine ⟨⟨E, a, b, e, d, fun i h1 h2 => ?_⟩, fun o => by rw [F.frozen]; exact H.f o, by rw [F.size]; exact H.lt⟩
  obtain ⟨v0, v1, g1, g3, m, r⟩ := o i h1 h2
  have x1 := e_mono e (Nat.zero_le i) (show i ≤ n by omega)
  have x2 := e_mono e (i := i + 1) (j := n) (by omega) (Nat.le_refl _)
  exact ⟨v0, v1, g1, g3, m, r.frame F (fun k h1 h2 => hS k (by omega) (by omega)) (fun o _ _ => F.cell (a := ⟨c, o, none⟩) (hS c sp.1 sp.2))⟩
end

set_option maxHeartbeats 1600000 in
set_option maxRecDepth 100000 in
/-- toAffineS, with what its copy owns. -/
theorem toAffineS_own (a : Option Addr) (lo b off n cap : Nat) (A : Nat → AffD) (w : World) (hn : n ≤ 1048576) (hs : szA A n ≤ 1048576) (H : Affs w lo a b off n A) :
    Calls Tryz.prog 33 #[.slice a n cap] w fun e w' => ∃ c, e = .returned (.slice (some ⟨c, 0, none⟩) n n) ∧ w.heap.size ≤ c ∧ c < w'.heap.size ∧ OwnM w' w.heap.size w'.heap.size c n A ∧ Affs w' (c + 1) (some ⟨c, 0, none⟩) c 0 n A ∧ w.Since w.heap.size w' := by
  have hmk := run_make_wide (P := Tryz.prog) 31 66 _ 4 64 Tryz.underlying31 info_Affine .i64 .i64 n (by omega) (by omega)
  have sA := (World.Since.refl w.heap.size w).alloc (Nat.le_refl _) (.cells (madeCells #[.int .i64 0, .int .i64 0, .slice none 0 0, .slice none 0 0] (n * 4)) 66)
  have rA := Room.new w #[.int .i64 0, .int .i64 0, .slice none 0 0, .slice none 0 0] (n * 4) 66
  go_enter Tryz.func33, Tryz.ntmps33
  go_wp2
  go_loopw [4] (fun i wr => ∃ (k : Nat) (E : Nat → Nat), OwnAK wr w.heap.size k E A ∧ k ≤ n ∧ i = .int .i64 k ∧ w.Since w.heap.size wr ∧ Room wr w.heap.size (n * 4) ∧ Affs wr (w.heap.size + 1) (some ⟨w.heap.size, 0, none⟩) w.heap.size 0 k A) (fun i _ => n - (intOf i).toNat)
  case atStart => exact ⟨0, fun _ => w.heap.size + 1, ⟨Nat.lt_succ_self _, fun i hi => absurd hi (by omega), by simp, fun i _ hi => absurd hi (by omega)⟩, Nat.zero_le _, rfl, sA, rA, fun i hi => absurd hi (by omega)⟩
  case round =>
    obtain ⟨k, E, ow, hk, rfl, s, r, T⟩ := hrel
    by_cases hlt : k < n
    · obtain ⟨rfl, a1, a2, k1, k2, M⟩ := H k hlt
      have M' := M.keep s
      have g0 := M'.c0
      have g1 := M'.c1
      have g2 := M'.c2
      have g3 := M'.c3
      have hz : (k : Int) < (n : Int) := by omega
      have hsz := szA_at (A := A) hlt
      go_wp2_with fail
      refine (toAffine_own (A k) a1 a2 lo k1 k2 wr (by omega) M'.L).mono ?_
      rintro e w2 ⟨y1, y3, m, rfl, U1, U3, L2, s2⟩
      have r2 := r.keep s2
      have T2 := T.keep s2
      have S2 : w.Since w.heap.size w2 := s.trans (sinceMono s2 s.size)
      obtain ⟨v0, u0⟩ := r2.cell (k * 4) (by omega)
      obtain ⟨v1, u1⟩ := r2.cell (k * 4 + 1) (by omega)
      obtain ⟨v2, u2⟩ := r2.cell (k * 4 + 2) (by omega)
      obtain ⟨v3, u3⟩ := r2.cell (k * 4 + 3) (by omega)
      have f0 := r2.f (k * 4)
      have f1 := r2.f (k * 4 + 1)
      have f2 := r2.f (k * 4 + 2)
      have f3 := r2.f (k * 4 + 3)
      have rl := r.lt
      clear g0 g1 g2 g3
      go_wp2
      go_roundw
      case rel =>
        go_light
        obtain ⟨w3, e3, M3, R3, x0, x1, x2, x3, xo⟩ := put4 (q := k * 4) r2 (by omega) (.int .i64 (A k).rows) (.int .i64 (A k).cols) (.slice (some ⟨y1, 0, none⟩) (A k).nw (A k).nw) (.slice (some ⟨y3, 0, none⟩) (A k).nb (A k).nb)
        rw [← e3]
        exact ⟨k + 1, _, (ow.keep s2).put ow.hi M3 (fun o ho => xo o (by omega)) x0 x1 x2 x3 U1 U3, by omega, by go_num, S2.trans (M3.since (Nat.le_refl _)), R3, T2.put M3 (fun o ho => xo o (by omega)) (L2.down (by omega)) x0 x1 x2 x3⟩
      case measure => simp [intOf]; omega
    · have e : k = n := by omega
      subst e
      have rl := r.lt
      go_wp2
      go_ret
      exact ⟨w.heap.size, rfl, Nat.le_refl _, rl, ⟨⟨E, Nat.le_refl _, ow.lo, ow.mono, ow.hi, ow.own⟩, r.f, rl⟩, T, s⟩


set_option maxHeartbeats 1600000 in
set_option maxRecDepth 100000 in
/-- toNet, with what its copy owns. -/
theorem toNet_own (a : Option Addr) (lo b off n cap : Nat) (A : Nat → AffD) (w : World) (hn : n ≤ 1048576) (hs : szA A n ≤ 1048576) (H : Affs w lo a b off n A) :
    Calls Tryz.prog 9 #[.agg #[.slice a n cap]] w fun e w' => ∃ c, e = .returned (.agg #[.slice (some ⟨c, 0, none⟩) n n]) ∧ w.heap.size ≤ c ∧ c < w'.heap.size ∧ OwnM w' w.heap.size w'.heap.size c n A ∧ Affs w' (c + 1) (some ⟨c, 0, none⟩) c 0 n A ∧ w.Since w.heap.size w' := by
  obtain ⟨wA, eA⟩ : ∃ wA : World, wA = ((w.alloc (.cells #[.slice a n cap] 24)).alloc (.cells #[.slice none 0 0] 33)).alloc (.cells #[.slice none 0 0] 33) := ⟨_, rfl⟩
  have sA : w.Since w.heap.size wA := by rw [eA]; exact (((World.Since.refl _ _).alloc (Nat.le_refl _) _).alloc (by simp) _).alloc (by simp; omega) _
  have zA : wA.heap.size = w.heap.size + 1 + 1 + 1 := by rw [eA]; simp
  have rA : Box1 wA (w.heap.size + 1) (.slice none 0 0) := by
    rw [eA]
    have := (Box1.new (w.alloc (.cells #[.slice a n cap] 24)) (.slice none 0 0) 33).keep ((World.Since.refl _ _).alloc (Nat.le_refl _) (.cells #[.slice none 0 0] 33))
    simpa using this
  have oA : Box1 wA (w.heap.size + 1 + 1) (.slice none 0 0) := by
    rw [eA]
    have := Box1.new ((w.alloc (.cells #[.slice a n cap] 24)).alloc (.cells #[.slice none 0 0] 33)) (.slice none 0 0) 33
    simpa using this
  have EA := hide eA
  clear eA
  go_enter Tryz.func9, Tryz.ntmps9
  go_wp2_with fail
  rw [← EA.out]
  refine (toAffineS_own a lo b off n cap A wA hn hs (H.keep sA)).mono ?_
  rintro e w1 ⟨g1, rfl, l1, l1', U1, R1, s1⟩
  have S1 : w.Since w.heap.size w1 := sA.trans (sinceMono s1 sA.size)
  have Q1 := rA.keep s1
  have O1 := oA.keep s1
  have o0 := O1.c0
  have f0 := O1.f 0
  have q0 := Q1.c0
  have qf0 := Q1.f 0
  clear rA oA EA
  have M2 : Marked w1 (w1.setCell ⟨w.heap.size + 1 + 1, 0, none⟩ (.slice (some ⟨g1, 0, none⟩) n n)) (w.heap.size + 1 + 1) := (Marked.refl w1 _).setCell _ _
  go_wp2
  have Q2 := (Q1.marked M2 (by omega)).set0 (.slice (some ⟨g1, 0, none⟩) n n)
  refine bodyPost_ret (results_box1T rfl Tryz.underlying33 rfl size_Net _ _ _ _ rfl Q2) rfl ?_
  have M5 : Marked (w1.setCell ⟨w.heap.size + 1 + 1, 0, none⟩ (.slice (some ⟨g1, 0, none⟩) n n)) _ (w.heap.size + 1) := (Marked.refl _ _).setCell 0 (.slice (some ⟨g1, 0, none⟩) n n)
  have z5 := M5.size
  have z2 := M2.size
  exact ⟨g1, rfl, by omega, by rw [M5.size, M2.size]; exact l1', ((U1.frame M2.fr (fun k h1 h2 h3 => by omega)).frame M5.fr (fun k h1 h2 h3 => by omega)).wide (by omega) (by omega), (R1.marked M2 (by omega) (fun _ => by omega)).marked M5 (by omega) (fun _ => by omega), (S1.trans (M2.since (by omega))).trans (M5.since (by omega))⟩

end Go.Proofs.YthaomfabdghfjaaGreat

namespace Go.Proofs.YthaomfabdghfjaaGreat
open Go.RowKit

set_option maxHeartbeats 1600000 in
set_option maxRecDepth 100000 in
/-- markAffineS at a list of its own memory. -/
theorem markAffineS_own (lo hi c n cap k0 : Nat) (A : Nat → AffD) (w : World) (hn : n ≤ 1048576) (hsz : szA A n ≤ 1048576) (hk0 : k0 ≤ 288230376151711744) (H : OwnM w lo hi c n A) :
    Calls Tryz.prog 42 #[.slice (some ⟨c, 0, none⟩) n cap, .int .i64 k0] w fun e w' => ∃ k1 : Nat, k1 ≤ k0 + 2 * n + szA A n * 8388609 ∧ e = .returned (.int .i64 (k1 : Int)) ∧ Fra w w' (fun k => lo ≤ k ∧ k < hi) := by
  have sp := H.span
  obtain ⟨E, ha, hb, hE, hd, ho⟩ := H.ex
  have hf := H.f
  go_enter Tryz.func42, Tryz.ntmps42
  go_wp2
  go_loopw [1, 5] (fun q i wr => ∃ (k Kk : Nat), k ≤ n ∧ i = .int .i64 k ∧ q = .int .i64 (Kk : Int) ∧ Kk ≤ k0 + 2 * k + szA A k * 8388609 ∧ Fra w wr (fun k => lo ≤ k ∧ k < hi) ∧ OwnAs wr c k n E A) (fun _ i _ => n - (intOf i).toNat)
  case atStart => exact ⟨0, k0, Nat.zero_le _, rfl, rfl, by omega, Fra.refl _ _, ho⟩
  case round =>
    obtain ⟨k, Kk, hk, rfl, rfl, hK, hs, ho⟩ := hrel
    have m1 := szA_mono (A := A) hk
    by_cases hlt : k < n
    · obtain ⟨v0, v1, g1, g3, m, r⟩ := ho k (Nat.le_refl _) hlt
      have e0 := r.c0
      have e1 := r.c1
      have e2 := r.c2
      have e3 := r.c3
      have fz0 : wr.frozen? ⟨c, k * 4, none⟩ = false := by rw [hs.frozen]; exact hf _
      have fz1 : wr.frozen? ⟨c, k * 4 + 1, none⟩ = false := by rw [hs.frozen]; exact hf _
      have p1 := r.U1.span
      have p3 := r.U3.span
      have b1 : c < E k := Nat.lt_of_lt_of_le hb (e_mono hE (Nat.zero_le _) hk)
      have m2 := szA_mono (A := A) (show k + 1 ≤ n by omega)
      rw [szA_succ] at m2
      have m3 : (A k).nw + (A k).nb ≤ (A k).size := by unfold AffD.size; omega
      have q1 := e_mono hE (Nat.zero_le k) hk
      have q2 := e_mono hE (i := k + 1) (j := n) (by omega) (Nat.le_refl _)
      go_wp2_with fail
      have M1 : Marked wr ((wr.setCell ⟨c, k * 4, none⟩ (.int .i64 (Kk : Int))).setCell ⟨c, k * 4 + 1, none⟩ (.int .i64 ((Kk : Int) + 1))) c := ((Marked.refl wr c).setCell _ _).setCell _ _
      have d1 : ∀ o, o ≠ k * 4 → o ≠ k * 4 + 1 → ((wr.setCell ⟨c, k * 4, none⟩ (.int .i64 (Kk : Int))).setCell ⟨c, k * 4 + 1, none⟩ (.int .i64 ((Kk : Int) + 1))).cell? ⟨c, o, none⟩ = wr.cell? ⟨c, o, none⟩ := fun o h1 h2 => by
        rw [cell_else _ _ h2, cell_else _ _ h1]
      generalize (wr.setCell ⟨c, k * 4, none⟩ (.int .i64 (Kk : Int))).setCell ⟨c, k * 4 + 1, none⟩ (.int .i64 ((Kk : Int) + 1)) = w1 at *
      rw [show ((Kk : Int) + 1 + 1) = ((Kk + 1 + 1 : Nat) : Int) by omega]
      refine (markRatS_own (E k) m g1 (A k).nw (A k).nw (Kk + 1 + 1) w1 (by omega) (by omega) (r.U1.frame M1.fr (fun k h1 h2 h3 => by omega))).mono ?_
      rintro e w2 ⟨ka, hka, rfl, F2⟩
      have i3 : w2.cell? ⟨c, k * 4 + 3, none⟩ = some (.slice (some ⟨g3, 0, none⟩) (A k).nb (A k).nb) := by rw [F2.cell (a := ⟨c, k * 4 + 3, none⟩) (fun h0 => by have : E k ≤ c := h0.1; omega), d1 _ (by omega) (by omega)]; exact e3
      go_wp2_with fail
      refine (markRatS_own m (E (k + 1)) g3 (A k).nb (A k).nb ka w2 (by omega) (by omega) ((r.U3.frame M1.fr (fun k h1 h2 h3 => by omega)).frame F2 (fun k h1 h2 h3 => by have := h3.2; omega))).mono ?_
      rintro e w3 ⟨kb, hkb, rfl, F3⟩
      go_wp2
      go_roundw
      case rel =>
        have F : Fra wr w3 (fun x => x = c ∨ E k ≤ x ∧ x < E (k + 1)) :=
          ((M1.fr.mono (fun x h0 => .inl h0)).trans (F2.mono (fun x h0 => .inr ⟨h0.1, by have := h0.2; omega⟩))).trans (F3.mono (fun x h0 => .inr ⟨by have := h0.1; omega, h0.2⟩))
        have hcb : ∀ o, o ≠ k * 4 → o ≠ k * 4 + 1 → w3.cell? ⟨c, o, none⟩ = wr.cell? ⟨c, o, none⟩ := fun o h0 h1 => by
          rw [F3.cell (a := ⟨c, o, none⟩) (fun h0 => by have : m ≤ c := h0.1; omega), F2.cell (a := ⟨c, o, none⟩) (fun h0 => by have : E k ≤ c := h0.1; omega), d1 o h0 h1]
        refine ⟨k + 1, kb, by omega, by go_num, rfl, ?_, hs.trans (F.mono fun x hx => ?_), fun i hi hi' => ?_⟩
        · rw [szA_succ]; omega
        · rcases hx with hx | hx <;> omega
        · obtain ⟨v0', v1', g1', g3', m', r'⟩ := ho i (by omega) hi'
          have := e_mono hE (i := k + 1) (j := i) (by omega) (by omega)
          exact ⟨v0', v1', g1', g3', m', r'.frame F (fun x h1 h2 h3 => by have := hE k hlt; rcases h3 with h3 | h3 <;> omega) (fun o h1 h2 => hcb o (by omega) (by omega))⟩
      case measure => simp [intOf]; omega
    · have e : k = n := by omega
      subst e
      go_wp2
      go_ret
      exact ⟨Kk, hK, rfl, hs⟩

set_option maxHeartbeats 1600000 in
set_option maxRecDepth 100000 in
/-- markNet at a net of its own memory. -/
theorem markNet_own (lo hi c n cap k0 : Nat) (A : Nat → AffD) (w : World) (hn : n ≤ 1048576) (hsz : szA A n ≤ 1048576) (hk0 : k0 ≤ 288230376151711744) (H : OwnM w lo hi c n A) :
    Calls Tryz.prog 14 #[.agg #[.slice (some ⟨c, 0, none⟩) n cap], .int .i64 k0] w fun e w' => ∃ k1 : Nat, k1 ≤ k0 + 2 * n + szA A n * 8388609 ∧ e = .returned (.int .i64 (k1 : Int)) ∧
      ∃ w1, w.Since w.heap.size w1 ∧ Fra w1 w' (fun k => lo ≤ k ∧ k < hi) := by
  have sA : w.Since w.heap.size (w.alloc (.cells #[.slice (some ⟨c, 0, none⟩) n cap] 33)) := (World.Since.refl _ _).alloc (Nat.le_refl _) _
  have oA := Box1.new w (.slice (some ⟨c, 0, none⟩) n cap) 33
  go_enter Tryz.func14, Tryz.ntmps14
  go_wp2_with fail
  generalize w.alloc (.cells #[.slice (some ⟨c, 0, none⟩) n cap] 33) = w1 at *
  refine (markAffineS_own lo hi c n cap k0 A w1 hn hsz hk0 (H.keep sA)).mono ?_
  rintro e w2 ⟨k1, h1, rfl, F⟩
  go_wp2
  go_ret
  exact ⟨k1, h1, rfl, _, sA, F⟩

end Go.Proofs.YthaomfabdghfjaaGreat

namespace Go.Proofs.YthaomfabdghfjaaGreat
open Go.RowKit

theorem sumOf_q {v v' : Value} {p q : Rat} {k l : Nat} {w : World} (hw : 0 ≤ w.heap.size) (hT : Tab w) (hp : Qb p k) (hq : Qb q l) (hk : 2 * k + 2 * l ≤ 16777216) (R : RatR w v p) (R' : RatR w v' q) :
    Calls Tryz.prog 143 #[v, v'] w fun e w' => ∃ u, e = .returned u ∧ RatRP w' (fun g => w.heap.size ≤ g) u (p + q) ∧ w.Since w.heap.size w' := by
  obtain ⟨a, n, ca, b, m, cb, ba, oa, bb, ob, X, Y, rfl, R, x1, x2⟩ := R
  obtain ⟨a', n', ca', b', m', cb', ba', oa', bb', ob', X', Y', rfl, R', y1, y2⟩ := R'
  have n1 := lv_lim R.pX (by rw [x1]; exact hp.1)
  have n2 := lv_lim R.pY (by rw [x2]; exact hp.2)
  have n3 := lv_lim R'.pX (by rw [y1]; exact hq.1)
  have n4 := lv_lim R'.pY (by rw [y2]; exact hq.2)
  have J := sumOf_any (qn p) (qn q) a b a' b' ba oa n ca bb ob m cb ba' oa' n' ca' bb' ob' m' cb' X Y X' Y' w hw hT (by omega) R R' (by rw [x1, x2]; exact p.reduced) (by rw [y1, y2]; exact q.reduced)
  obtain ⟨e1, e2, e3⟩ := q_add p q
  rw [x1, x2, y1, y2, ← e1, ← e2, ← e3] at J
  refine J.mono ?_
  rintro e w' ⟨u, rfl, RV, s⟩
  exact ⟨u, rfl, RV.rp, s⟩

theorem productOf_q {v v' : Value} {p q : Rat} {k l : Nat} {w : World} (hw : 0 ≤ w.heap.size) (hT : Tab w) (hp : Qb p k) (hq : Qb q l) (hk : 2 * k + 2 * l ≤ 16777216) (R : RatR w v p) (R' : RatR w v' q) :
    Calls Tryz.prog 142 #[v, v'] w fun e w' => ∃ u, e = .returned u ∧ RatRP w' (fun g => w.heap.size ≤ g) u (p * q) ∧ w.Since w.heap.size w' := by
  obtain ⟨a, n, ca, b, m, cb, ba, oa, bb, ob, X, Y, rfl, R, x1, x2⟩ := R
  obtain ⟨a', n', ca', b', m', cb', ba', oa', bb', ob', X', Y', rfl, R', y1, y2⟩ := R'
  have n1 := lv_lim R.pX (by rw [x1]; exact hp.1)
  have n2 := lv_lim R.pY (by rw [x2]; exact hp.2)
  have n3 := lv_lim R'.pX (by rw [y1]; exact hq.1)
  have n4 := lv_lim R'.pY (by rw [y2]; exact hq.2)
  have J := productOf_any (qn p) (qn q) a b a' b' ba oa n ca bb ob m cb ba' oa' n' ca' bb' ob' m' cb' X Y X' Y' w hw hT (by omega) (by omega) R R' (by rw [x1, x2]; exact p.reduced) (by rw [y1, y2]; exact q.reduced)
  obtain ⟨e1, e2, e3⟩ := q_mul p q
  rw [x1, x2, y1, y2, ← e1, ← e2, ← e3] at J
  refine J.mono ?_
  rintro e w' ⟨u, rfl, RV, s⟩
  exact ⟨u, rfl, RV.rp, s⟩

theorem quotientOf_q {v v' : Value} {p q : Rat} {k l : Nat} {w : World} (hw : 0 ≤ w.heap.size) (hT : Tab w) (hp : Qb p k) (hq : Qb q l) (hk : 2 * k + 2 * l ≤ 16777216) (h0 : q.num.natAbs ≠ 0) (R : RatR w v p) (R' : RatR w v' q) :
    Calls Tryz.prog 213 #[v, v'] w fun e w' => ∃ u, e = .returned u ∧ RatRP w' (fun g => w.heap.size ≤ g) u (p / q) ∧ w.Since w.heap.size w' := by
  obtain ⟨a, n, ca, b, m, cb, ba, oa, bb, ob, X, Y, rfl, R, x1, x2⟩ := R
  obtain ⟨a', n', ca', b', m', cb', ba', oa', bb', ob', X', Y', rfl, R', y1, y2⟩ := R'
  have n1 := lv_lim R.pX (by rw [x1]; exact hp.1)
  have n2 := lv_lim R.pY (by rw [x2]; exact hp.2)
  have n3 := lv_lim R'.pX (by rw [y1]; exact hq.1)
  have n4 := lv_lim R'.pY (by rw [y2]; exact hq.2)
  have n5 : 0 < n' := by
    rcases Nat.eq_zero_or_pos n' with e | e
    · exact absurd ((lv_zero R'.pX).1 e) (by rw [y1]; exact h0)
    · exact e
  have J := quotientOf_any (qn p) (qn q) a b a' b' ba oa n ca bb ob m cb ba' oa' n' ca' bb' ob' m' cb' X Y X' Y' w hw hT (by omega) (by omega) n5 R R' (by rw [x1, x2]; exact p.reduced) (by rw [y1, y2]; exact q.reduced)
  obtain ⟨e1, e2, e3⟩ := q_div p q h0
  rw [x1, x2, y1, y2, ← e1, ← e2, ← e3] at J
  refine J.mono ?_
  rintro e w' ⟨u, rfl, RV, s⟩
  exact ⟨u, rfl, RV.rp, s⟩

end Go.Proofs.YthaomfabdghfjaaGreat

namespace Go.Proofs.YthaomfabdghfjaaGreat
open Go.RowKit

theorem q_zero {q : Rat} (h : q.num.natAbs = 0) : q = 0 := by
  have h1 : q.num = 0 := Int.natAbs_eq_zero.1 h
  exact Rat.num_eq_zero.1 h1

theorem psum_skip {b : Rat} {W X : Nat → Rat} {k : Nat} (h : W k = 0 ∨ X k = 0) : psum b W X (k + 1) = psum b W X k := by
  show psum b W X k + W k * X k = psum b W X k
  rcases h with h | h
  · rw [h, Rat.zero_mul, Rat.add_zero]
  · rw [h, Rat.mul_zero, Rat.add_zero]

theorem NatAt.lims {w : World} {v : Value} {g N M : Nat} (h : NatAt w v g N M) : ∃ a n cap X, v = .slice a n cap ∧ n ≤ M ∧ Limbs w a g 0 n X ∧ (∀ j, j < n → X j < 4294967296) ∧ lv X n = N := by
  obtain ⟨a, m, cap, Y, h1, h2, h3, h4, h5, h6, h7, h8, h9⟩ := h
  exact ⟨a, m, cap, Y, h1, h3, h5, h7, h9⟩

set_option maxHeartbeats 1600000 in
set_option maxRecDepth 100000 in
theorem plusProduct_any {K : Nat} (s p r : Rat) (vs vp vr : Value) (w : World) (_hw : 0 ≤ w.heap.size) (_hT : Tab w) (S : RatR w vs s) (HP : RatR w vp p) (HR : RatR w vr r)
    (qs : Qb s K) (qp : Qb p K) (qr : Qb r K) (hK : K ≤ 2097152 := by omega) :
    Calls Tryz.prog 118 #[vs, vp, vr] w fun e w' => ∃ v, e = .returned v ∧ RatRP w' (fun g => w.heap.size ≤ g) v (s + p * r) ∧ w.Since w.heap.size w' := by
  have S0 := S
  have P0 := HP
  have R0 := HR
  obtain ⟨a1, n1, c1, a2, n2, c2, baS, oaS, bbS, obS, XS, YS, rfl, RS, vS1, vS2⟩ := S
  obtain ⟨aW, nW, cW, bW, mW, dW, -, -, -, -, -, -, rfl, -⟩ := HP
  obtain ⟨aX, nX, cX, bX, mX, dX, -, -, -, -, -, -, rfl, -⟩ := HR
  have hnz : ((n1 : Int) == 0) = (s.num.natAbs == 0) := by
    have h := lv_zero RS.pX
    rw [vS1] at h
    rw [Bool.eq_iff_iff, beq_iff_eq, beq_iff_eq]
    constructor
    · intro e; exact h.1 (by omega)
    · intro e; have := h.2 e; omega
  obtain ⟨wA, eA⟩ : ∃ wA : World, wA = (((w.alloc (.cells #[.bool (qn s), .slice a1 n1 c1, .slice a2 n2 c2] 70)).alloc (.cells #[.bool (qn p), .slice aW nW cW, .slice bW mW dW] 70)).alloc (.cells #[.bool (qn r), .slice aX nX cX, .slice bX mX dX] 70)).alloc (.cells #[.bool false, .slice none 0 0, .slice none 0 0] 70) := ⟨_, rfl⟩
  have sA : w.Since w.heap.size wA := by rw [eA]; exact ((((World.Since.refl _ _).alloc (Nat.le_refl _) _).alloc (by simp) _).alloc (by simp; omega) _).alloc (by simp; omega) _
  have zA : wA.heap.size = w.heap.size + 1 + 1 + 1 + 1 := by rw [eA]; simp
  have xA : Box3 wA w.heap.size (.bool (qn s)) (.slice a1 n1 c1) (.slice a2 n2 c2) := by
    rw [eA]
    exact (((Box3.new w _ _ _ _).keep ((World.Since.refl _ _).alloc (Nat.le_refl _) _)).keep ((World.Since.refl _ _).alloc (Nat.le_refl _) _)).keep ((World.Since.refl _ _).alloc (Nat.le_refl _) _)
  have rA : Box3 wA (w.heap.size + 1 + 1 + 1) (.bool false) (.slice none 0 0) (.slice none 0 0) := by
    rw [eA]
    have := Box3.new (((w.alloc (.cells #[.bool (qn s), .slice a1 n1 c1, .slice a2 n2 c2] 70)).alloc (.cells #[.bool (qn p), .slice aW nW cW, .slice bW mW dW] 70)).alloc (.cells #[.bool (qn r), .slice aX nX cX, .slice bX mX dX] 70)) (.bool false) (.slice none 0 0) (.slice none 0 0) 70
    simpa using this
  have J1 := productOf_q (Nat.zero_le _) trivial qp qr (by omega) (P0.keep sA) (R0.keep sA)
  rw [eA] at J1
  go_enter Tryz.func118, Tryz.ntmps118
  go_wp2_with fail
  rw [← eA] at J1 ⊢
  clear eA
  refine J1.mono ?_
  rintro e w2 ⟨u2, rfl, R2, s2⟩
  have R2q := R2
  obtain ⟨a3, n3, c3, b3, m3, d3, -, -, -, -, -, -, e3, -⟩ := R2q
  subst e3
  have S2 : w.Since w.heap.size w2 := sA.trans (sinceMono s2 sA.size)
  have z2 := s2.size
  have x2 := xA.keep s2
  have r2 := rA.keep s2
  have t3 : w2.Since w2.heap.size (w2.alloc (.cells #[.bool (qn (p * r)), .slice a3 n3 c3, .slice b3 m3 d3] 70)) := (World.Since.refl _ _).alloc (Nat.le_refl _) _
  have p3 := Box3.new w2 (.bool (qn (p * r))) (.slice a3 n3 c3) (.slice b3 m3 d3) 70
  have x3 := x2.keep t3
  have r3 := r2.keep t3
  have S3 : w.Since w.heap.size (w2.alloc (.cells #[.bool (qn (p * r)), .slice a3 n3 c3, .slice b3 m3 d3] 70)) := S2.trans (sinceMono t3 S2.size)
  have R3 := R2.keep t3
  have k0 := x3.c0
  have k1 := x3.c1
  have k2 := x3.c2
  clear J1 xA rA x2 r2
  go_wp2_with fail
  generalize w2.alloc (.cells #[.bool (qn (p * r)), .slice a3 n3 c3, .slice b3 m3 d3] 70) = w3 at *
  have I1 := isZeroRat_any (qn s) a1 a2 n1 c1 n2 c2 w3
  rw [hnz] at I1
  refine I1.mono ?_
  rintro e w4 ⟨rfl, s4⟩
  have S4 : w.Since w.heap.size w4 := S3.trans (sinceMono s4 S3.size)
  have x4 := x3.keep s4
  have rB := r3.keep s4
  have p4 := p3.keep s4
  have R4 := R3.keep s4
  have z4 := s4.size
  have zz3 := t3.size
  have hb := p3.lt
  have j0 := p4.c0
  have j1 := p4.c1
  have j2 := p4.c2
  clear I1 k0 k1 k2
  by_cases hs : s.num.natAbs = 0
  · have hsb : (s.num.natAbs == 0) = true := by simp [hs]
    rw [hsb]
    have hs0 : s = 0 := q_zero hs
    have hsum : s + p * r = p * r := by rw [hs0, Rat.zero_add]
    have HSU := hide hsum
    clear hsum hs0
    have i0 := rB.c0
    have i1 := rB.c1
    have i2 := rB.c2
    have if0 := rB.f 0
    have if1 := rB.f 1
    have if2 := rB.f 2
    go_wp2
    have r12 := ((rB.set0 (.bool (qn (p * r)))).set1 (.slice a3 n3 c3)).set2 (.slice b3 m3 d3)
    refine bodyPost_ret (results_box3 rfl _ _ _ _ _ _ rfl r12) rfl ?_
    have M : Marked w4 _ (w.heap.size + 1 + 1 + 1) := (((Marked.refl w4 _).setCell 0 (.bool (qn (p * r)))).setCell 1 (.slice a3 n3 c3)).setCell 2 (.slice b3 m3 d3)
    refine ⟨_, rfl, ?_, S4.trans (M.since (by omega))⟩
    rw [HSU.out]
    exact (R4.marked M (fun h => by omega)).imp (p' := fun g => w.heap.size ≤ g) (fun g _ h => by have h' : wA.heap.size ≤ g := h; omega)
  · have hsb : (s.num.natAbs == 0) = false := by simp [hs]
    rw [hsb]
    have l0 := x4.c0
    have l1 := x4.c1
    have l2 := x4.c2
    have J2 := sumOf_q (Nat.zero_le _) trivial qs (qp.mul qr) (by omega) (S0.keep S4) R4.read
    go_wp2_with fail
    refine J2.mono ?_
    rintro e w5 ⟨u5, rfl, R5, s5⟩
    have R5q := R5
    obtain ⟨a5, n5, c5, b5, m5, d5, -, -, -, -, -, -, e5, -⟩ := R5q
    subst e5
    have S5 : w.Since w.heap.size w5 := S4.trans (sinceMono s5 S4.size)
    have rC := rB.keep s5
    have z5 := s5.size
    obtain ⟨q, hq⟩ : ∃ q, s + p * r = q := ⟨_, rfl⟩
    rw [hq] at R5 ⊢
    have HQ := hide hq
    clear hq J2
    have i0 := rC.c0
    have i1 := rC.c1
    have i2 := rC.c2
    have if0 := rC.f 0
    have if1 := rC.f 1
    have if2 := rC.f 2
    go_wp2
    have r12 := ((rC.set0 (.bool (qn q))).set1 (.slice a5 n5 c5)).set2 (.slice b5 m5 d5)
    refine bodyPost_ret (results_box3 rfl _ _ _ _ _ _ rfl r12) rfl ?_
    have M : Marked w5 _ (w.heap.size + 1 + 1 + 1) := (((Marked.refl w5 _).setCell 0 (.bool (qn q))).setCell 1 (.slice a5 n5 c5)).setCell 2 (.slice b5 m5 d5)
    refine ⟨_, rfl, ?_, S5.trans (M.since (by omega))⟩
    first
      | rw [HQ.out]
      | skip
    exact (R5.marked M (fun h => by omega)).imp (p' := fun g => w.heap.size ≤ g) (fun g _ h => by have h' : w4.heap.size ≤ g := h; omega)

set_option maxHeartbeats 6400000 in
set_option maxRecDepth 100000 in
theorem weighedSum_any {K : Nat} (p : Nat → Prop) (b : Rat) (x0 y0 : Value) (aw ax : Option Addr) (bw ow nw cw bx ox nx cx : Nat) (W X : Nat → Rat) (w : World) (hw : 0 ≤ w.heap.size) (hT : Tab w) (hp : ∀ g, w.heap.size ≤ g → p g)
    (S : RatRP w p (.agg #[.bool (qn b), x0, y0]) b) (HW : RatQs w (fun _ => True) aw bw ow nw W) (HX : RatQs w (fun _ => True) ax bx ox nx X) (hx : nw ≤ nx) (hn : nx ≤ 1048576)
    (qb : ∀ k, k ≤ nw → Qb (psum b W X k) K) (qW : ∀ c, c < nw → Qb (W c) K) (qX : ∀ c, c < nw → Qb (X c) K) (hK : K ≤ 2097152 := by omega) :
    Calls Tryz.prog 73 #[.agg #[.bool (qn b), x0, y0], .slice aw nw cw, .slice ax nx cx] w fun e w' => ∃ x y, e = .returned (.agg #[.bool (qn (psum b W X nw)), x, y]) ∧ RatRP w' p (.agg #[.bool (qn (psum b W X nw)), x, y]) (psum b W X nw) ∧ w.Since w.heap.size w' := by
  obtain ⟨wA, eA⟩ : ∃ wA : World, wA = ((w.alloc (.cells #[.bool (qn b), x0, y0] 70)).alloc (.cells #[.bool false, .slice none 0 0, .slice none 0 0] 70)).alloc (.cells #[.bool (qn b), x0, y0] 70) := ⟨_, rfl⟩
  have sA : w.Since w.heap.size wA := by rw [eA]; exact (((World.Since.refl _ _).alloc (Nat.le_refl _) _).alloc (by simp) _).alloc (by simp; omega) _
  have zA : wA.heap.size = w.heap.size + 1 + 1 + 1 := by rw [eA]; simp
  have rA : Box3 wA (w.heap.size + 1) (.bool false) (.slice none 0 0) (.slice none 0 0) := by
    rw [eA]
    have := (Box3.new (w.alloc (.cells #[.bool (qn b), x0, y0] 70)) (.bool false) (.slice none 0 0) (.slice none 0 0) 70).keep ((World.Since.refl _ _).alloc (Nat.le_refl _) (.cells #[.bool (qn b), x0, y0] 70))
    simpa using this
  have oA : Box3 wA (w.heap.size + 1 + 1) (.bool (qn b)) x0 y0 := by
    rw [eA]
    have := Box3.new ((w.alloc (.cells #[.bool (qn b), x0, y0] 70)).alloc (.cells #[.bool false, .slice none 0 0, .slice none 0 0] 70)) (.bool (qn b)) x0 y0 70
    simpa using this
  have SW := S
  obtain ⟨a0, n0, c0, b0, m0, d0, -, -, -, -, -, -, e0, -⟩ := S
  simp only [Value.agg.injEq, Array.mk.injEq, List.cons.injEq, and_true, true_and] at e0
  obtain ⟨rfl, rfl⟩ := e0
  have EA := hide eA
  clear eA
  go_enter Tryz.func73, Tryz.ntmps73
  go_wp2_with fail
  rw [← EA.out]
  clear EA
  have S0 : RatRP wA (fun g => (g < w.heap.size ∨ w.heap.size + 1 + 1 < g) ∧ p g) (.agg #[.bool (qn b), .slice a0 n0 c0, .slice b0 m0 d0]) b := by
    refine (SW.imp (p' := fun g => (g < w.heap.size ∨ w.heap.size + 1 + 1 < g) ∧ p g) (fun g hg hp' => ⟨.inl hg, hp'⟩)).keep sA
  go_loopw [13] (fun i wr => ∃ k : Nat, k ≤ nw ∧ i = .int .i64 k ∧ w.Since w.heap.size wr ∧ w.heap.size + 1 + 1 + 1 ≤ wr.heap.size ∧ Box3 wr (w.heap.size + 1) (.bool false) (.slice none 0 0) (.slice none 0 0) ∧ ∃ a1 n1 c1 a2 n2 c2, Box3 wr (w.heap.size + 1 + 1) (.bool (qn (psum b W X k))) (.slice a1 n1 c1) (.slice a2 n2 c2) ∧
      RatRP wr (fun g => (g < w.heap.size ∨ w.heap.size + 1 + 1 < g) ∧ p g) (.agg #[.bool (qn (psum b W X k)), .slice a1 n1 c1, .slice a2 n2 c2]) (psum b W X k)) (fun i _ => nw - (intOf i).toNat)
  case atStart => exact ⟨0, Nat.zero_le _, rfl, sA, by omega, rA, a0, n0, c0, b0, m0, d0, oA, S0⟩
  case round =>
    obtain ⟨k, hk, rfl, s, hsz, r1, a1, n1, c1, a2, n2, c2, o1, T1⟩ := hrel
    by_cases hlt : k < nw
    · obtain ⟨rfl, xw, yw, CW⟩ := HW k hlt
      obtain ⟨rfl, xx, yx, CX⟩ := HX k (by omega)
      have CW1 := CW.keep s
      have CX1 := CX.keep s
      obtain ⟨aW, nW, cW, bW, mW, dW, baW, oaW, bbW, obW, XW, YW, eW, RW, vW1, vW2, -, -⟩ := CW.R
      obtain ⟨aX, nX, cX, bX, mX, dX, baX, oaX, bbX, obX, XX, YX, eX, RX, vX1, vX2, -, -⟩ := CX.R
      simp only [Value.agg.injEq, Array.mk.injEq, List.cons.injEq, and_true, true_and] at eW eX
      obtain ⟨rfl, rfl⟩ := eW
      obtain ⟨rfl, rfl⟩ := eX
      have g0 := CW1.c0
      have g1 := CW1.c1
      have g2 := CW1.c2
      have hz : (k : Int) < (nw : Int) := by omega
      have hz2 : (k : Int) < (nx : Int) := by omega
      have t1 : wr.Since wr.heap.size (wr.alloc (.cells #[.bool (qn (W k)), .slice aW nW cW, .slice bW mW dW] 70)) := (World.Since.refl _ _).alloc (Nat.le_refl _) _
      have p1 := Box3.new wr (.bool (qn (W k))) (.slice aW nW cW) (.slice bW mW dW) 70
      go_wp2_with fail
      generalize wr.alloc (.cells #[.bool (qn (W k)), .slice aW nW cW, .slice bW mW dW] 70) = w1 at *
      refine (isZeroRat_any (qn (W k)) aW bW nW cW mW dW w1).mono ?_
      rintro e w2 ⟨rfl, s2⟩
      have u2 : wr.Since wr.heap.size w2 := t1.trans (sinceMono s2 t1.size)
      have S2 : w.Since w.heap.size w2 := s.trans (sinceMono u2 s.size)
      clear g0 g1 g2 CW1 CX1
      by_cases hw0 : nW = 0
      · have q1 : ((nW : Int) == 0) = true := by simp [hw0]
        have HS := hide (psum_skip (b := b) (W := W) (X := X) (k := k) (.inl (q_zero (by rw [← vW1, hw0]; rfl))))
        clear hw0
        go_wp2
        go_roundw
        case rel =>
          refine ⟨k + 1, by omega, by go_num, ?_⟩
          rw [HS.out]
          exact ⟨S2, Nat.le_trans hsz u2.size, r1.keep u2, a1, n1, c1, a2, n2, c2, o1.keep u2, T1.keep u2⟩
        case measure => simp [intOf]; omega
      have q1 : ((nW : Int) == 0) = false := by simp; omega
      have CX2 := CX.keep S2
      have h0 := CX2.c0
      have h1 := CX2.c1
      have h2 := CX2.c2
      go_wp2_with fail
      refine (isZeroRat_any (qn (X k)) aX bX nX cX mX dX w2).mono ?_
      rintro e w3 ⟨rfl, s3⟩
      have u3 : wr.Since wr.heap.size w3 := u2.trans (sinceMono s3 u2.size)
      have S3 : w.Since w.heap.size w3 := s.trans (sinceMono u3 s.size)
      clear h0 h1 h2 CX2
      by_cases hx0 : nX = 0
      · have q2 : ((nX : Int) == 0) = true := by simp [hx0]
        have HS := hide (psum_skip (b := b) (W := W) (X := X) (k := k) (.inr (q_zero (by rw [← vX1, hx0]; rfl))))
        clear hx0
        go_wp2
        go_roundw
        case rel =>
          refine ⟨k + 1, by omega, by go_num, ?_⟩
          rw [HS.out]
          exact ⟨S3, Nat.le_trans hsz u3.size, r1.keep u3, a1, n1, c1, a2, n2, c2, o1.keep u3, T1.keep u3⟩
        case measure => simp [intOf]; omega
      have q2 : ((nX : Int) == 0) = false := by simp; omega
      have dr : w3.Since w3.heap.size w3.drew := (World.Since.refl _ _).drew
      have u5 : wr.Since wr.heap.size w3.drew := u3.trans (sinceMono dr u3.size)
      have S5 : w.Since w.heap.size w3.drew := s.trans (sinceMono u5 s.size)
      have p5 := (p1.keep (s2.trans (sinceMono s3 s2.size))).keep dr
      have D5 := o1.keep u5
      have T5 := T1.keep u5
      have CX5 := CX.keep S5
      have J := plusProduct_any (psum b W X k) (W k) (X k) _ _ _ w3.drew (Nat.zero_le _) (hT.stay hw S5) T5.read (CW.keep S5).R.read CX5.R.read (qb k hk) (qW k hlt) (qX k hlt) hK
      have HE := hide (show psum b W X (k + 1) = psum b W X k + W k * X k from rfl)
      clear q1 q2
      go_wp2_with fail
      refine wp_region_held_drew (S := (fun w' => w'.cell? ⟨wr.heap.size, 0, none⟩ = some (.bool (qn (W k))) ∧ w'.cell? ⟨wr.heap.size, 1, none⟩ = some (.slice aW nW cW) ∧ w'.cell? ⟨wr.heap.size, 2, none⟩ = some (.slice bW mW dW) ∧ w'.cell? ⟨bx, ox + k * 3, none⟩ = some (.bool (qn (X k))) ∧ w'.cell? ⟨bx, ox + k * 3 + 1, none⟩ = some (.slice aX nX cX) ∧ w'.cell? ⟨bx, ox + k * 3 + 2, none⟩ = some (.slice bX mX dX))) (by kernel_rfl) ⟨p5.c0, p5.c1, p5.c2, CX5.c0, CX5.c1, CX5.c2⟩ (fun hHeld => ?_)
      refine take_at 1 (some 28) (.agg #[.bool (qn (W k)), .slice aW nW cW, .slice bW mW dW]) rfl (by kernel_rfl) (by kernel_rfl) (by kernel_rfl) (by kernel_rfl) (fun _ _ _ h => h) (by kernel_rfl) (by assumption) ?_ ?_
      · intro w' hSw
        try dsimp only at hSw
        go_simp
      simp only [Act.put, List.setIfInBounds_toArray, List.set_cons_zero, List.set_cons_succ]
      refine take_at 2 (some 29) (.slice (some ⟨bx, ox, none⟩) nx cx) rfl (by kernel_rfl) (by kernel_rfl) (by kernel_rfl) (by kernel_rfl) (fun _ _ _ h => h) (by kernel_rfl) (by assumption) ?_ ?_
      · intro w' hSw
        clear hSw
        kernel_rfl
      simp only [Act.put, List.setIfInBounds_toArray, List.set_cons_zero, List.set_cons_succ]
      refine take_at 3 (some 30) (.int .i64 k) rfl (by kernel_rfl) (by kernel_rfl) (by kernel_rfl) (by kernel_rfl) (fun _ _ _ h => h) (by kernel_rfl) (by assumption) ?_ ?_
      · intro w' hSw
        clear hSw
        kernel_rfl
      simp only [Act.put, List.setIfInBounds_toArray, List.set_cons_zero, List.set_cons_succ]
      refine take_at 4 (some 31) (.pointer (some ⟨bx, ox + k * 3, none⟩)) rfl (by kernel_rfl) (by kernel_rfl) (by kernel_rfl) (by kernel_rfl) (fun _ _ _ h => h) (by kernel_rfl) (by assumption) ?_ ?_
      · intro w' hSw
        try dsimp only at hSw
        go_simp
      simp only [Act.put, List.setIfInBounds_toArray, List.set_cons_zero, List.set_cons_succ]
      refine take_at 5 (some 32) (.agg #[.bool (qn (X k)), .slice aX nX cX, .slice bX mX dX]) rfl (by kernel_rfl) (by kernel_rfl) (by kernel_rfl) (by kernel_rfl) (fun _ _ _ h => h) (by kernel_rfl) (by assumption) ?_ ?_
      · intro w' hSw
        try dsimp only at hSw
        go_simp
      simp only [Act.put, List.setIfInBounds_toArray, List.set_cons_zero, List.set_cons_succ]
      refine wpAnyH_ready (rs := [0]) (by kernel_rfl) (by simp) ?_
      refine AllReadyH.cons rfl (fun K hK => ?_) AllReadyH.nil
      have l0 := D5.c0
      have l1 := D5.c1
      have l2 := D5.c2
      go_simp
      clear l0 l1 l2
      refine hK.out _ _ ⟨p5.c0, p5.c1, p5.c2, CX5.c0, CX5.c1, CX5.c2⟩ (fun h1 => ?_)
      clear hK K hHeld
      refine wpAnyH_ready (rs := [6]) (by kernel_rfl) (by simp) ?_
      refine AllReadyH.cons rfl (fun K hK => ?_) AllReadyH.nil
      go_simp
      go_wp2_with (go_at_call 118; with_reducible refine J.mono ?_; rintro e w11 ⟨v, rfl, RP, s11⟩)
      obtain ⟨a5, n5, c5, b5', m5, d5, -, -, -, -, -, -, e5, -⟩ := id RP
      subst e5
      have u11 : wr.Since wr.heap.size w11 := u5.trans (sinceMono s11 u5.size)
      have S11 : w.Since w.heap.size w11 := s.trans (sinceMono u11 s.size)
      have p11 := p5.keep s11
      have D11 := D5.keep s11
      have r11 := r1.keep u11
      have CX11 := CX.keep S11
      refine hK.out _ _ ⟨p11.c0, p11.c1, p11.c2, CX11.c0, CX11.c1, CX11.c2⟩ (fun h2 => ?_)
      clear hK K h1
      refine wpAnyH_ready (rs := [7]) (by kernel_rfl) (by simp) ?_
      refine AllReadyH.cons rfl (fun K hK => ?_) AllReadyH.nil
      have l0 := D11.c0
      have l1 := D11.c1
      have l2 := D11.c2
      have lf0 := D11.f 0
      have lf1 := D11.f 1
      have lf2 := D11.f 2
      go_simp
      clear l0 l1 l2 lf0 lf1 lf2
      have o12 := ((D11.set0 (.bool (qn (psum b W X k + W k * X k)))).set1 (.slice a5 n5 c5)).set2 (.slice b5' m5 d5)
      have M12 : Marked w11 _ (w.heap.size + 1 + 1) := (((Marked.refl w11 _).setCell 0 (.bool (qn (psum b W X k + W k * X k)))).setCell 1 (.slice a5 n5 c5)).setCell 2 (.slice b5' m5 d5)
      have S12 := S11.trans (M12.since (B := w.heap.size) (by omega))
      have p12 := p11.marked M12 (by omega)
      have CX12 := CX.keep S12
      have z11 := u11.size
      have z5 := u5.size
      refine hK.out _ _ ⟨p12.c0, p12.c1, p12.c2, CX12.c0, CX12.c1, CX12.c2⟩ (fun hH9 => ?_)
      clear hK K hH9 h2
      refine wpAnyH_done (by kernel_rfl) ?_ _
      go_wp2
      go_roundw
      case rel =>
        go_light
        refine ⟨k + 1, by omega, by go_num, S12, by rw [M12.size]; omega, r11.marked M12 (by omega), a5, n5, c5, b5', m5, d5, ?_, ?_⟩
        · rw [HE.out]; exact o12
        · rw [HE.out]; exact (RP.imp (p' := fun g => (g < w.heap.size ∨ w.heap.size + 1 + 1 < g) ∧ p g) (fun g _ hB => by
            have hB' : w3.drew.heap.size ≤ g := hB
            exact ⟨.inr (by omega), hp g (by omega)⟩)).marked M12 (fun h => by have := h.1; omega)
      case measure => simp [intOf]; omega
    · have e : k = nw := by omega
      subst e
      have k0 := o1.c0
      have k1 := o1.c1
      have k2 := o1.c2
      have q0 := r1.c0
      have q1 := r1.c1
      have q2 := r1.c2
      have qf0 := r1.f 0
      have qf1 := r1.f 1
      have qf2 := r1.f 2
      go_wp2
      have r2 := ((r1.set0 (.bool (qn (psum b W X k)))).set1 (.slice a1 n1 c1)).set2 (.slice a2 n2 c2)
      refine bodyPost_ret (results_box3 rfl _ _ _ _ _ _ rfl r2) rfl ?_
      have M : Marked wr _ (w.heap.size + 1) := (((Marked.refl wr _).setCell 0 (.bool (qn (psum b W X k)))).setCell 1 (.slice a1 n1 c1)).setCell 2 (.slice a2 n2 c2)
      exact ⟨_, _, rfl, (T1.marked M (fun h => by have := h.1; omega)).imp (fun g _ h => h.2), s.trans (M.since (by omega))⟩

end Go.Proofs.YthaomfabdghfjaaGreat

namespace Go.Proofs.YthaomfabdghfjaaGreat
open Go.RowKit

theorem size_matrix : (Tryz.prog.info? 110).map (·.size) = some 3 := by kernel_rfl

set_option maxHeartbeats 1600000 in
set_option maxRecDepth 100000 in
theorem weightsOf_any (r q : Int) (a1 a2 : Option Addr) (n1 k1 n2 k2 : Nat) (w : World) :
    Calls Tryz.prog 72 #[.agg #[.int .i64 r, .int .i64 q, .slice a1 n1 k1, .slice a2 n2 k2]] w fun e w' => e = .returned (.agg #[.int .i64 r, .int .i64 q, .slice a1 n1 k1]) ∧ w.Since w.heap.size w' := by
  have sA : w.Since w.heap.size ((w.alloc (.cells #[.int .i64 r, .int .i64 q, .slice a1 n1 k1, .slice a2 n2 k2] 66)).alloc (.cells #[.int .i64 r, .int .i64 q, .slice a1 n1 k1] 110)) := ((World.Since.refl _ _).alloc (Nat.le_refl _) _).alloc (by simp) _
  have rA := Box3.new (w.alloc (.cells #[.int .i64 r, .int .i64 q, .slice a1 n1 k1, .slice a2 n2 k2] 66)) (.int .i64 r) (.int .i64 q) (.slice a1 n1 k1) 110
  go_enter Tryz.func72, Tryz.ntmps72
  go_wp2
  rw [show (w.alloc (.cells #[.int .i64 r, .int .i64 q, .slice a1 n1 k1, .slice a2 n2 k2] 66)).heap.size = w.heap.size + 1 by simp] at rA
  refine bodyPost_ret (results_box3T rfl Tryz.underlying110 rfl size_matrix _ _ _ _ _ _ rfl rA) rfl ?_
  exact ⟨rfl, sA⟩

set_option maxHeartbeats 1600000 in
set_option maxRecDepth 100000 in
theorem row_any (c : Nat) (rows cols r nw k1 b off : Nat) (a1 : Option Addr) (p : Nat → Prop) (W : Nat → Rat) (w : World) (hr : r < rows) (hrw : rows ≤ 20000) (hcl : cols ≤ 20000) (hnw : nw = rows * cols) (hk : nw ≤ k1)
    (B : Box3 w c (.int .i64 rows) (.int .i64 cols) (.slice a1 nw k1)) (H : RatQs w p a1 b off nw W) :
    Calls Tryz.prog 74 #[.pointer (some ⟨c, 0, none⟩), .int .i64 r] w fun e w' => ∃ a' b' off', e = .returned (.slice a' cols cols) ∧ RatQs w' p a' b' off' cols (fun j => W (r * cols + j)) ∧ Same w w' := by
  have k0 := B.c0
  have k1' := B.c1
  have k2 := B.c2
  obtain ⟨F, hF⟩ : ∃ F, F = r * cols := ⟨_, rfl⟩
  obtain ⟨G, hG⟩ : ∃ G, G = (r + 1) * cols := ⟨_, rfl⟩
  have hFG : G = F + cols := by rw [hF, hG, Nat.add_mul, Nat.one_mul]
  have hGn : G ≤ nw := by rw [hG, hnw]; exact Nat.mul_le_mul_right _ hr
  have hnb : nw ≤ 20000 * 20000 := by rw [hnw]; exact Nat.mul_le_mul hrw hcl
  have e1 : (r : Int) * (cols : Int) = (F : Int) := by rw [hF, Int.natCast_mul]
  have e2 : ((r : Int) + 1) * (cols : Int) = (G : Int) := by rw [hG, Int.natCast_mul]; rfl
  have f1 : (F : Int) ≤ (G : Int) := by omega
  have f2 : (G : Int) ≤ (k1 : Int) := by omega
  have f3 : (G : Int) ≤ 400000000 := by omega
  have HF := hide hF
  have HG := hide hFG
  clear hF hG hnw hFG
  go_enter Tryz.func74, Tryz.ntmps74
  go_wp2_with fail
  go_quiet (fail)
  go_wp2
  case inl =>
    go_ret
    have hc : cols = 0 := by have := HG.out; omega
    refine ⟨a1, ?_, ⟨b, off, fun j hj => absurd hj (by omega)⟩, (Same.refl w).drewN _⟩
    show Ending.returned (.slice a1 0 0) = _
    rw [hc]
  case inr =>
    go_ret
    refine ⟨Option.map (fun x => x.add (F * 3)) a1, ?_, ⟨b, off + F * 3, fun j hj => ?_⟩, (Same.refl w).drewN _⟩
    · show Ending.returned (.slice (Option.map (fun x => x.add (F * 3)) a1) (G - F) (G - F)) = _
      rw [HG.out, Nat.add_sub_cancel_left]
    · obtain ⟨rfl, x, y, m⟩ := H (F + j) (by have := HG.out; omega)
      rw [show off + (F + j) * 3 = off + F * 3 + j * 3 by omega] at m
      refine ⟨?_, x, y, ?_⟩
      · rw [Option.map_some, Go.WideShapes.add_plain]
      · rw [← HF.out]; exact m.keep ((Same.refl w).drewN _ |>.since _)

end Go.Proofs.YthaomfabdghfjaaGreat

namespace Go.Proofs.YthaomfabdghfjaaGreat
open Go.RowKit

/-- What an affine map makes of a vector. -/
def qApply (d : AffD) (v : Nat → Rat) (r : Nat) : Rat := psum (d.B r).q (fun c => (d.W (r * d.cols.toNat + c)).q) v d.cols.toNat

/-- Every number that comes up in a row keeps within 2^20 + 1 limbs. -/
structure RowB (d : AffD) (v : Nat → Rat) : Prop where
  s : ∀ r, r < d.rows.toNat → ∀ k, k ≤ d.cols.toNat → Qb (psum (d.B r).q (fun c => (d.W (r * d.cols.toNat + c)).q) v k) 1048577
  W : ∀ i, i < d.nw → Qb (d.W i).q 1048577
  v : ∀ c, c < d.cols.toNat → Qb (v c) 1048577

set_option maxHeartbeats 6400000 in
set_option maxRecDepth 100000 in
theorem imageOf_any (d : AffD) (lo : Nat) (a1 a2 : Option Addr) (k1 k2 : Nat) (ax : Option Addr) (bx ox cx : Nat) (v : Nat → Rat) (w : World) (hw : 0 ≤ w.heap.size) (hT : Tab w) (hd : d.shape) (hv : d.vals) (H : AffL w lo d a1 a2 k1 k2)
    (HX : RatQs w (fun _ => True) ax bx ox d.cols.toNat v) (hB : RowB d v) :
    Calls Tryz.prog 37 #[.agg #[.int .i64 d.rows, .int .i64 d.cols, .slice a1 d.nw k1, .slice a2 d.nb k2], .slice ax d.cols.toNat cx] w fun e w' => ∃ c, e = .returned (.slice (some ⟨c, 0, none⟩) d.rows.toNat d.rows.toNat) ∧ w.heap.size ≤ c ∧
      RatQs w' (fun g => g ≠ c) (some ⟨c, 0, none⟩) c 0 d.rows.toNat (qApply d v) ∧ w.Since w.heap.size w' := by
  obtain ⟨⟨hr0, hr1, hc0, hc1⟩, hnw, hnb⟩ := hd
  obtain ⟨R, hR⟩ : ∃ R, R = d.rows.toNat := ⟨_, rfl⟩
  obtain ⟨C, hC⟩ : ∃ C, C = d.cols.toNat := ⟨_, rfl⟩
  have eR : d.rows = (R : Int) := by omega
  have eC : d.cols = (C : Int) := by omega
  have hnw' : d.nw = R * C := by rw [eR, eC, ← Int.natCast_mul] at hnw; exact Int.ofNat_inj.1 hnw
  have hnb' : d.nb = R := by omega
  have QB := hide hB
  have EQ := hide (show ∀ r, qApply d v r = psum (d.B r).q (fun j => (d.W (r * C + j)).q) v C by intro r; rw [hC]; rfl)
  rw [← hC] at HX
  rw [← hR, ← hC, eR, eC]
  have LV := hide hv
  have HR := hide hR
  have HCc := hide hC
  obtain ⟨b1, o1, -, LW⟩ := H.LW
  obtain ⟨b2, o2, -, LB⟩ := H.LB
  have QW := LW.qs hv.1
  have QQ := LB.qs hv.2
  have nc := H.nc
  rw [hnw'] at QW
  rw [hnb'] at QQ
  have hRb : R ≤ 20000 := by omega
  have hCb : C ≤ 20000 := by omega
  have hRC : R * C ≤ 20000 * 20000 := Nat.mul_le_mul hRb hCb
  have HNW := hide hnw'
  rw [hnb']
  clear hr0 hr1 hc0 hc1 hnw hnb hR hC hB hv eR eC H LW LB hnw' hnb'
  have hmk := run_make_wide (P := Tryz.prog) 28 70 _ 3 56 Tryz.underlying28 info_Rat .i64 .i64 R (by omega) (by omega)
  have sA : w.Since w.heap.size (w.alloc (.cells #[.int .i64 R, .int .i64 C, .slice a1 d.nw k1, .slice a2 R k2] 66)) := (World.Since.refl _ _).alloc (Nat.le_refl _) _
  have bA := Box4.new w (.int .i64 R) (.int .i64 C) (.slice a1 d.nw k1) (.slice a2 R k2) 66
  go_enter Tryz.func37, Tryz.ntmps37
  go_wp2_with fail
  generalize w.alloc (.cells #[.int .i64 R, .int .i64 C, .slice a1 d.nw k1, .slice a2 R k2] 66) = wA at *
  refine (weightsOf_any R C a1 a2 d.nw k1 R k2 wA).mono ?_
  rintro e w1 ⟨rfl, s1⟩
  have S1 : w.Since w.heap.size w1 := sA.trans (sinceMono s1 sA.size)
  have B1 := bA.keep s1
  have t2 : w1.Since w1.heap.size (w1.alloc (.cells #[.int .i64 R, .int .i64 C, .slice a1 d.nw k1] 110)) := (World.Since.refl _ _).alloc (Nat.le_refl _) _
  have M2 := Box3.new w1 (.int .i64 R) (.int .i64 C) (.slice a1 d.nw k1) 110
  have B2 := B1.keep t2
  have b0 := B2.c0
  have sC : w1.Since w1.heap.size ((w1.alloc (.cells #[.int .i64 R, .int .i64 C, .slice a1 d.nw k1] 110)).alloc (.cells (madeCells #[.bool false, .slice none 0 0, .slice none 0 0] (R * 3)) 70)) := t2.alloc t2.size _
  have rC := Room.new (w1.alloc (.cells #[.int .i64 R, .int .i64 C, .slice a1 d.nw k1] 110)) #[.bool false, .slice none 0 0, .slice none 0 0] (R * 3) 70
  have M3 := M2.keep ((World.Since.refl _ _).alloc (Nat.le_refl _) (.cells (madeCells #[.bool false, .slice none 0 0, .slice none 0 0] (R * 3)) 70))
  have B3 := B2.keep ((World.Since.refl _ _).alloc (Nat.le_refl _) (.cells (madeCells #[.bool false, .slice none 0 0, .slice none 0 0] (R * 3)) 70))
  have zc : (w1.alloc (.cells #[.int .i64 R, .int .i64 C, .slice a1 d.nw k1] 110)).heap.size = w1.heap.size + 1 := by simp
  rw [zc] at rC
  have S3 : w.Since w.heap.size ((w1.alloc (.cells #[.int .i64 R, .int .i64 C, .slice a1 d.nw k1] 110)).alloc (.cells (madeCells #[.bool false, .slice none 0 0, .slice none 0 0] (R * 3)) 70)) := S1.trans (sinceMono sC S1.size)
  have z1 := S1.size
  go_wp2_with fail
  clear t2 M2 B2 b0 zc bA B1
  generalize ((w1.alloc (.cells #[.int .i64 R, .int .i64 C, .slice a1 d.nw k1] 110)).alloc (.cells (madeCells #[.bool false, .slice none 0 0, .slice none 0 0] (R * 3)) 70)) = w3 at *
  go_loopw [15] (fun i wr => ∃ k : Nat, k ≤ R ∧ i = .int .i64 k ∧ w.Since w.heap.size wr ∧ Box4 wr w.heap.size (.int .i64 R) (.int .i64 C) (.slice a1 d.nw k1) (.slice a2 R k2) ∧ Box3 wr w1.heap.size (.int .i64 R) (.int .i64 C) (.slice a1 d.nw k1) ∧ Room wr (w1.heap.size + 1) (R * 3) ∧
      RatQs wr (fun g => g ≠ w1.heap.size + 1) (some ⟨w1.heap.size + 1, 0, none⟩) (w1.heap.size + 1) 0 k (qApply d v)) (fun i _ => R - (intOf i).toNat)
  case atStart => exact ⟨0, Nat.zero_le _, rfl, S3, B3, M3, rC, fun i hi => absurd hi (by omega)⟩
  case round =>
    obtain ⟨k, hk, rfl, s, B, M, r, T⟩ := hrel
    by_cases hlt : k < R
    · obtain ⟨rfl, xb, yb, CB⟩ := QQ k hlt
      have hz : (k : Int) < (R : Int) := by omega
      have rl := r.lt
      have dr : wr.Since wr.heap.size wr.drew := (World.Since.refl _ _).drew
      have sd : w.Since w.heap.size wr.drew := s.trans (sinceMono dr s.size)
      have Bd := B.keep dr
      have Md := M.keep dr
      have CBd := CB.keep sd
      have J1 := row_any w1.heap.size R C k d.nw k1 b1 o1 a1 (fun g => lo ≤ g) (fun i => (d.W i).q) wr.drew hlt hRb hCb HNW.out nc Md (by rw [HNW.out]; exact QW.keep sd)
      have p3 := B.c3
      have g0 := (CB.keep s).c0
      have g1 := (CB.keep s).c1
      have g2 := (CB.keep s).c2
      have p3' := Bd.c3
      have g0' := CBd.c0
      have g1' := CBd.c1
      have g2' := CBd.c2
      obtain ⟨a5, n5, c5, b5, m5, d5, -, -, -, -, -, -, e5, -⟩ := CB.R
      simp only [Value.agg.injEq, Array.mk.injEq, List.cons.injEq, and_true, true_and] at e5
      obtain ⟨rfl, rfl⟩ := e5
      have bl := CB.lt
      have ne1 : w1.heap.size + 1 ≠ w.heap.size := by omega
      have ne2 : w1.heap.size + 1 ≠ b2 := by omega
      clear Bd Md CBd
      go_wp2_with fail
      go_region_held3 (fun w' => w'.cell? ⟨w.heap.size, 3, none⟩ = some (.slice (some ⟨b2, o2, none⟩) R k2) ∧ w'.cell? ⟨b2, o2 + k * 3, none⟩ = some (.bool (qn (d.B k).q)) ∧ w'.cell? ⟨b2, o2 + k * 3 + 1, none⟩ = some (.slice a5 n5 c5) ∧ w'.cell? ⟨b2, o2 + k * 3 + 2, none⟩ = some (.slice b5 m5 d5)) (go_keep)
        (first
          | (go_at_call 74
             with_reducible refine J1.mono ?_
             rintro e w4 ⟨aw, bw, ow, rfl, Q4, m4⟩
             have u4 : wr.Since wr.heap.size w4 := dr.trans (m4.since _)
             have S4 : w.Since w.heap.size w4 := s.trans (sinceMono u4 s.size)
             have J2 := weighedSum_any (fun g => g ≠ w1.heap.size + 1) (d.B k).q (.slice a5 n5 c5) (.slice b5 m5 d5) aw ax bw ow C C bx ox C cx (fun j => (d.W (k * C + j)).q) v w4 (Nat.zero_le _) (hT.stay hw S4) (fun g hg => by have := u4.size; omega) ((CB.R.imp (p' := fun g => g ≠ w1.heap.size + 1) (fun g hg _ => by omega)).keep S4) (Q4.imp (fun _ _ _ => trivial)) (HX.keep S4) (Nat.le_refl _) (by omega)
               (fun j hj => by have := QB.out.s k (by rw [← HR.out]; exact hlt) j (by rw [← HCc.out]; exact hj); rw [← HCc.out] at this; exact this) (fun j hj => QB.out.W _ (by rw [HNW.out]; exact Nat.lt_of_lt_of_le (Nat.add_lt_add_left hj (k * C)) (by rw [← Nat.succ_mul]; exact Nat.mul_le_mul_right _ hlt))) (fun j hj => QB.out.v j (by rw [← HCc.out]; exact hj))
             have i3 := (B.keep u4).c3
             have j0 := (CB.keep S4).c0
             have j1 := (CB.keep S4).c1
             have j2 := (CB.keep S4).c2)
          | (go_at_call 73
             with_reducible refine J2.mono ?_
             rintro e w5 ⟨x5, y5, rfl, R5, s5⟩
             have R6 := R5
             obtain ⟨a6, n6, c6, b6, m6, d6, -, -, -, -, -, -, e6, -⟩ := R6
             simp only [Value.agg.injEq, Array.mk.injEq, List.cons.injEq, and_true, true_and] at e6
             obtain ⟨rfl, rfl⟩ := e6
             have u5 : wr.Since wr.heap.size w5 := u4.trans (sinceMono s5 u4.size)
             have S5 : w.Since w.heap.size w5 := s.trans (sinceMono u5 s.size)
             have r5 := r.keep u5
             have i3' := (B.keep u5).c3
             have j0' := (CB.keep S5).c0
             have j1' := (CB.keep S5).c1
             have j2' := (CB.keep S5).c2
             obtain ⟨v0, y0'⟩ := r5.cell (k * 3) (by omega)
             obtain ⟨v1, y1'⟩ := r5.cell (k * 3 + 1) (by omega)
             obtain ⟨v2, y2'⟩ := r5.cell (k * 3 + 2) (by omega)
             have f0 := r5.f (k * 3)
             have f1 := r5.f (k * 3 + 1)
             have f2 := r5.f (k * 3 + 2)))
      all_goals go_wp2
      all_goals go_roundw
      case rel =>
        go_light
        obtain ⟨w7, e7, M7, R7, x0, x1, x2, xo⟩ := put3 (q := k * 3) r5 (by omega) (.bool (qn (psum (d.B k).q (fun j => (d.W (k * C + j)).q) v C))) (.slice a6 n6 c6) (.slice b6 m6 d6)
        rw [← e7]
        rw [← EQ.out k] at R5 x0
        exact ⟨k + 1, by omega, by go_num, S5.trans (M7.since (by omega)), (B.keep u5).marked M7 (by omega), (M.keep u5).marked M7 (by omega), R7, (T.keep u5).put M7 (fun o ho => xo o (by omega)) R5 x0 x1 x2⟩
      case measure => simp [intOf]; omega
    · have e : k = R := by omega
      subst e
      go_wp2
      go_ret
      exact ⟨w1.heap.size + 1, rfl, by omega, T, s⟩

end Go.Proofs.YthaomfabdghfjaaGreat

namespace Go.Proofs.YthaomfabdghfjaaGreat
open Go.RowKit

def qrelu (q : Rat) : Rat := if qn q = true then 0 else q

theorem qrelu_neg {q : Rat} (h : qn q = true) : qrelu q = 0 := by simp [qrelu, h]
theorem qrelu_pos {q : Rat} (h : qn q = false) : qrelu q = q := by simp [qrelu, h]

set_option maxHeartbeats 3200000 in
set_option maxRecDepth 100000 in
theorem rectified_any (ax : Option Addr) (bx ox n cx : Nat) (v : Nat → Rat) (w : World) (hn : n ≤ 1048576) (HX : RatQs w (fun _ => True) ax bx ox n v) :
    Calls Tryz.prog 38 #[.slice ax n cx] w fun e w' => ∃ c, e = .returned (.slice (some ⟨c, 0, none⟩) n n) ∧ w.heap.size ≤ c ∧ RatQs w' (fun g => g ≠ c) (some ⟨c, 0, none⟩) c 0 n (fun i => qrelu (v i)) ∧ w.Since w.heap.size w' := by
  have hmk := run_make_wide (P := Tryz.prog) 28 70 _ 3 56 Tryz.underlying28 info_Rat .i64 .i64 n (by omega) (by omega)
  have sA := (World.Since.refl w.heap.size w).alloc (Nat.le_refl _) (.cells (madeCells #[.bool false, .slice none 0 0, .slice none 0 0] (n * 3)) 70)
  have rA := Room.new w #[.bool false, .slice none 0 0, .slice none 0 0] (n * 3) 70
  go_enter Tryz.func38, Tryz.ntmps38
  go_wp2
  go_loopw [10] (fun i wr => ∃ k : Nat, k ≤ n ∧ i = .int .i64 k ∧ w.Since w.heap.size wr ∧ Room wr w.heap.size (n * 3) ∧ RatQs wr (fun g => g ≠ w.heap.size) (some ⟨w.heap.size, 0, none⟩) w.heap.size 0 k (fun i => qrelu (v i))) (fun i _ => n - (intOf i).toNat)
  case atStart => exact ⟨0, Nat.zero_le _, rfl, sA, rA, fun i hi => absurd hi (by omega)⟩
  case round =>
    obtain ⟨k, hk, rfl, s, r, T⟩ := hrel
    by_cases hlt : k < n
    · obtain ⟨rfl, x, y, M⟩ := HX k hlt
      obtain ⟨a6, n6, c6, b6, m6, d6, -, -, -, -, -, -, e6, -⟩ := M.R
      simp only [Value.agg.injEq, Array.mk.injEq, List.cons.injEq, and_true, true_and] at e6
      obtain ⟨rfl, rfl⟩ := e6
      have M' := M.keep s
      have g0 := M'.c0
      have g1 := M'.c1
      have g2 := M'.c2
      have hz : (k : Int) < (n : Int) := by omega
      have rl := r.lt
      have bl := M.lt
      cases hq : qn (v k)
      · have HQ := hide hq
        rw [hq] at g0
        obtain ⟨v0, u0⟩ := r.cell (k * 3) (by omega)
        obtain ⟨v1, u1⟩ := r.cell (k * 3 + 1) (by omega)
        obtain ⟨v2, u2⟩ := r.cell (k * 3 + 2) (by omega)
        have f0 := r.f (k * 3)
        have f1 := r.f (k * 3 + 1)
        have f2 := r.f (k * 3 + 2)
        clear hq
        go_wp2
        go_roundw
        case rel =>
          go_light
          obtain ⟨w3, e3, M3, R3, x0, x1, x2, xo⟩ := put3 (q := k * 3) r (by omega) (.bool false) (.slice a6 n6 c6) (.slice b6 m6 d6)
          rw [← e3]
          have e : qrelu (v k) = v k := qrelu_pos HQ.out
          refine ⟨k + 1, by omega, by go_num, s.trans (M3.since (Nat.le_refl _)), R3, T.put M3 (fun o ho => xo o (by omega)) ?_ ?_ x1 x2⟩
          · rw [e]; exact (M.R.imp (p' := fun g => g ≠ w.heap.size) (fun g hg _ => by omega)).keep s
          · rw [e, HQ.out]; exact x0
        case measure => simp [intOf]; omega
      · have HQ := hide hq
        rw [hq] at g0
        clear hq
        go_wp2_with fail
        refine (zeroRat_any wr).mono ?_
        rintro e w2 ⟨u, rfl, RV, s2⟩
        have RP : RatRP w2 (fun g => wr.heap.size ≤ g) u (0 : Rat) := RatV.rp (q := 0) RV
        have RQ := RP
        obtain ⟨a7, n7, c7, b7, m7, d7, -, -, -, -, -, -, e7, -⟩ := RQ
        subst e7
        have r2 := r.keep s2
        have S2 : w.Since w.heap.size w2 := s.trans (sinceMono s2 s.size)
        obtain ⟨v0, u0⟩ := r2.cell (k * 3) (by omega)
        obtain ⟨v1, u1⟩ := r2.cell (k * 3 + 1) (by omega)
        obtain ⟨v2, u2⟩ := r2.cell (k * 3 + 2) (by omega)
        have f0 := r2.f (k * 3)
        have f1 := r2.f (k * 3 + 1)
        have f2 := r2.f (k * 3 + 2)
        clear g0 g1 g2
        go_wp2
        go_roundw
        case rel =>
          go_light
          obtain ⟨w3, e3, M3, R3, x0, x1, x2, xo⟩ := put3 (q := k * 3) r2 (by omega) (.bool (qn 0)) (.slice a7 n7 c7) (.slice b7 m7 d7)
          rw [← e3]
          have e : qrelu (v k) = 0 := qrelu_neg HQ.out
          refine ⟨k + 1, by omega, by go_num, S2.trans (M3.since (Nat.le_refl _)), R3, (T.keep s2).put M3 (fun o ho => xo o (by omega)) ?_ ?_ x1 x2⟩
          · rw [e]; exact RP.imp (fun g _ hg => by omega)
          · rw [e]; exact x0
        case measure => simp [intOf]; omega
    · have e : k = n := by omega
      subst e
      go_wp2
      go_ret
      exact ⟨w.heap.size, rfl, Nat.le_refl _, T, s⟩

end Go.Proofs.YthaomfabdghfjaaGreat

namespace Go.Proofs.YthaomfabdghfjaaGreat
open Go.RowKit

/-- The limbs of a Rat are limbs. -/
def RatD.lim (r : RatD) : Prop := (∀ j, j < r.n → r.X j < 4294967296) ∧ ∀ j, j < r.m → r.Y j < 4294967296

theorem Rats.lim {w : World} {lo b off n : Nat} {a : Option Addr} {R : Nat → RatD} (h : Rats w lo a b off n R) : ∀ i, i < n → (R i).lim := fun i hi => by
  obtain ⟨-, a1, a2, k1, k2, m⟩ := h i hi
  exact ⟨m.L.lX, m.L.lY⟩

theorem q_small {r : RatD} (ok : r.ok = true) (l : r.lim) : r.q.num.natAbs + 1 ≤ 4294967296 ^ r.n ∧ r.q.den ≤ 4294967296 ^ r.m := by
  obtain ⟨-, e2, e3, -⟩ := RatD.q_ok ok
  have h1 := lv_lt r.X r.n l.1
  have h2 := lv_lt r.Y r.m l.2
  rw [Nat.pow_mul, show (2 : Nat) ^ 32 = 4294967296 by decide] at h1 h2
  rw [e2, e3]
  omega

/-- The product of all numerators and denominators of a list is no longer than the list. -/
theorem list_small {R : Nat → RatD} {n : Nat} (ok : RatsOk R n) (l : ∀ i, i < n → (R i).lim) : nums (fun i => (R i).q) n * dens (fun i => (R i).q) n ≤ 4294967296 ^ szR R n := by
  induction n with
  | zero => exact Nat.le_refl _
  | succ n ih =>
    have h := ih (fun i hi => ok i (by omega)) (fun i hi => l i (by omega))
    obtain ⟨h1, h2⟩ := q_small (ok n (by omega)) (l n (by omega))
    rw [szR_succ, Nat.pow_add, Nat.pow_add]
    show nums _ n * ((R n).q.num.natAbs + 1) * (dens _ n * (R n).q.den) ≤ _
    rw [Nat.mul_mul_mul_comm]
    exact Nat.mul_le_mul h (Nat.mul_le_mul h1 h2)

theorem qb_of {q : Rat} {n m K : Nat} (h1 : q.num.natAbs + 1 ≤ 4294967296 ^ n) (h2 : q.den ≤ 4294967296 ^ m) (hn : n ≤ K) (hm : m < K) : Qb q K :=
  ⟨Nat.lt_of_lt_of_le (Nat.lt_of_succ_le h1) (Nat.pow_le_pow_right (by decide) hn), Nat.lt_of_le_of_lt h2 (Nat.pow_lt_pow_right (by decide) hm)⟩

end Go.Proofs.YthaomfabdghfjaaGreat

namespace Go.Proofs.YthaomfabdghfjaaGreat

/-- What a chain of affine maps makes of a vector, before the last ReLU. -/
def qLay (A : Nat → AffD) (x : Nat → Rat) : Nat → Nat → Rat
  | 0 => qApply (A 0) x
  | k + 1 => qApply (A (k + 1)) (fun i => qrelu (qLay A x k i))

/-- What enters map k. -/
def qIn (A : Nat → AffD) (x : Nat → Rat) : Nat → Nat → Rat
  | 0 => x
  | k + 1 => fun i => qrelu (qLay A x k i)

theorem qLay_eq (A : Nat → AffD) (x : Nat → Rat) (k : Nat) : qLay A x k = qApply (A k) (qIn A x k) := by cases k <;> rfl

def layE (d : AffD) : Nat := dens (fun i => (d.W i).q) d.nw * dens (fun i => (d.B i).q) d.nb
def layN (d : AffD) : Nat := nums (fun i => (d.W i).q) d.nw * nums (fun i => (d.B i).q) d.nb

def DK (A : Nat → AffD) (x : Nat → Rat) (nx : Nat) : Nat → Nat
  | 0 => dens x nx
  | k + 1 => DK A x nx k * layE (A k)

def TK (A : Nat → AffD) (x : Nat → Rat) (nx : Nat) : Nat → Nat
  | 0 => nums x nx * 1 * dens x nx
  | k + 1 => layN (A k) * TK A x nx k * layE (A k)

theorem layE_pos (d : AffD) : 0 < layE d := Nat.mul_pos (dens_pos _ _) (dens_pos _ _)
theorem layN_pos (d : AffD) : 0 < layN d := Nat.mul_pos (nums_pos _ _) (nums_pos _ _)

theorem DK_pos (A : Nat → AffD) (x : Nat → Rat) (nx k : Nat) : 0 < DK A x nx k := by
  induction k with
  | zero => exact dens_pos _ _
  | succ k ih => exact Nat.mul_pos ih (layE_pos _)

theorem DK_TK (A : Nat → AffD) (x : Nat → Rat) (nx k : Nat) : DK A x nx k ≤ TK A x nx k := by
  induction k with
  | zero =>
    show dens x nx ≤ nums x nx * 1 * dens x nx
    rw [Nat.mul_one]
    exact Nat.le_mul_of_pos_left _ (nums_pos _ _)
  | succ k ih =>
    show DK A x nx k * layE (A k) ≤ layN (A k) * TK A x nx k * layE (A k)
    exact Nat.mul_le_mul_right _ (Nat.le_trans ih (Nat.le_mul_of_pos_left _ (layN_pos _)))

theorem sumN_shift (q : Nat → Rat) (a j : Nat) : sumN (fun c => q (a + c)) 0 j = sumN q a j := by
  induction j with
  | zero => rfl
  | succ j ih => rw [sumN, sumN, ih, Nat.zero_add]

/-- One layer keeps within its bounds. -/
theorem layer_rep {d : AffD} (hd : d.shape) {v : Nat → Rat} {T D : Nat} (hDT : D ≤ T) (hv : ∀ c, c < d.cols.toNat → Rep (v c) T D) {r : Nat} (hr : r < d.rows.toNat) {j : Nat} (hj : j ≤ d.cols.toNat) :
    Rep (psum (d.B r).q (fun c => (d.W (r * d.cols.toNat + c)).q) v j) (layN d * T * layE d) (D * layE d) := by
  obtain ⟨⟨h0, h1, h2, h3⟩, hnw, hnb⟩ := hd
  have eR : d.rows = (d.rows.toNat : Int) := by omega
  have eC : d.cols = (d.cols.toNat : Int) := by omega
  have hw : d.nw = d.rows.toNat * d.cols.toNat := by rw [eR, eC, ← Int.natCast_mul] at hnw; exact Int.ofNat_inj.1 hnw
  have hb : r < d.nb := by omega
  have hlast : r * d.cols.toNat + d.cols.toNat ≤ d.nw := by rw [hw, ← Nat.succ_mul]; exact Nat.mul_le_mul_right _ hr
  refine Rep.row hDT ?_ j (fun c hc => ?_) (fun c hc => hv c (by omega)) ?_
  · exact Nat.dvd_trans (dens_dvd (fun i => (d.B i).q) hb) ⟨_, Nat.mul_comm _ _⟩
  · exact Nat.dvd_trans (dens_dvd (fun i => (d.W i).q) (show r * d.cols.toNat + c < d.nw by omega)) ⟨_, rfl⟩
  · have e1 := sumN_shift (fun i => (d.W i).q) (r * d.cols.toNat) j
    have e2 := sumN_part (fun i => (d.W i).q) (show r * d.cols.toNat + j ≤ d.nw by omega)
    have e3 := sumN_nums (fun i => (d.W i).q) d.nw
    have e4 := nums_le (fun i => (d.B i).q) hb
    have p1 := nums_pos (fun i => (d.W i).q) d.nw
    have p2 := nums_pos (fun i => (d.B i).q) d.nb
    rw [e1]
    unfold layN
    generalize nums (fun i => (d.W i).q) d.nw = a at *
    generalize nums (fun i => (d.B i).q) d.nb = b at *
    have : a + b ≤ a * b + 1 := by
      obtain ⟨a', rfl⟩ : ∃ a', a = a' + 1 := ⟨a - 1, by omega⟩
      obtain ⟨b', rfl⟩ : ∃ b', b = b' + 1 := ⟨b - 1, by omega⟩
      rw [Nat.add_mul, Nat.mul_add]
      omega
    omega

theorem Rep.zero (T D : Nat) : Rep 0 T D := ⟨0, by rw [Rat.zero_mul]; rfl, Nat.zero_le _⟩

theorem Rep.relu {q : Rat} {T D : Nat} (h : Rep q T D) : Rep (qrelu q) T D := by
  unfold qrelu
  split
  · exact Rep.zero T D
  · exact h

/-- All that enters map k keeps within its bounds. -/
theorem in_rep {A : Nat → AffD} {x : Nat → Rat} {n : Nat} (P : NetP n A) {k : Nat} (hk : k < n) : ∀ c, c < (A k).cols.toNat → Rep (qIn A x k c) (TK A x (A 0).cols.toNat k) (DK A x (A 0).cols.toNat k) := by
  induction k with
  | zero =>
    intro c hc
    have h := Rep.term (p := x c) (q := 1) (T := 1) (D := 1) (E := dens x (A 0).cols.toNat) ⟨1, by rw [Rat.one_mul]; rfl, Nat.le_refl _⟩ (dens_dvd x hc)
    rw [Rat.mul_one, Nat.one_mul] at h
    refine h.more ?_
    exact Nat.mul_le_mul_right _ (Nat.mul_le_mul_right _ (by have := nums_le x hc; omega))
  | succ k ih =>
    intro c hc
    have hch := P.chain (k + 1) hk (by omega)
    rw [Nat.add_sub_cancel] at hch
    rw [hch] at hc
    have ih := ih (by omega)
    have h := layer_rep (P.shape k (by omega)) (DK_TK A x (A 0).cols.toNat k) ih hc (Nat.le_refl _)
    show Rep (qrelu (qLay A x k c)) _ _
    rw [qLay_eq]
    exact h.relu

structure AffD.lim (d : AffD) : Prop where
  W : ∀ i, i < d.nw → (d.W i).lim
  B : ∀ i, i < d.nb → (d.B i).lim

theorem AffL.lim {w : World} {lo : Nat} {d : AffD} {a1 a2 : Option Addr} {k1 k2 : Nat} (h : AffL w lo d a1 a2 k1 k2) : d.lim := by
  obtain ⟨_, _, _, x⟩ := h.LW
  obtain ⟨_, _, _, y⟩ := h.LB
  exact ⟨x.lim, y.lim⟩

theorem lay_small {d : AffD} (hv : d.vals) (l : d.lim) : layN d * layE d ≤ 4294967296 ^ d.size := by
  have h1 := list_small hv.1 l.W
  have h2 := list_small hv.2 l.B
  unfold layN layE AffD.size
  rw [Nat.mul_mul_mul_comm]
  refine Nat.le_trans (Nat.mul_le_mul h1 h2) ?_
  rw [← Nat.pow_add]
  exact Nat.pow_le_pow_right (by decide) (by omega)

theorem TK_small {A : Nat → AffD} {X : Nat → RatD} {nx n : Nat} (P : NetP n A) (l : ∀ k, k < n → (A k).lim) (ok : RatsOk X nx) (lx : ∀ i, i < nx → (X i).lim) {k : Nat} (hk : k ≤ n) : TK A (fun i => (X i).q) nx k ≤ 4294967296 ^ (szR X nx + szA A k) := by
  induction k with
  | zero =>
    have := list_small ok lx
    show nums _ nx * 1 * dens _ nx ≤ _
    rw [Nat.mul_one]
    exact this
  | succ k ih =>
    have h := ih (by omega)
    have h2 := lay_small (P.vals k (by omega)) (l k (by omega))
    rw [szA_succ, ← Nat.add_assoc, Nat.pow_add]
    show layN (A k) * TK _ _ nx k * layE (A k) ≤ _
    rw [Nat.mul_comm (layN (A k)), Nat.mul_assoc]
    exact Nat.mul_le_mul h h2

/-- A net and an input that were counted: every number that comes up keeps within 2^20 + 1 limbs. -/
theorem net_rowB {A : Nat → AffD} {X : Nat → RatD} {n : Nat} (P : NetP n A) (l : ∀ k, k < n → (A k).lim) (ok : RatsOk X (A 0).cols.toNat) (lx : ∀ i, i < (A 0).cols.toNat → (X i).lim) (hz : szR X (A 0).cols.toNat + szA A n ≤ 1048576) {k : Nat} (hk : k < n) :
    RowB (A k) (qIn A (fun i => (X i).q) k) := by
  have big : ∀ K, 1048577 ≤ K → ∀ j, j ≤ n → TK A (fun i => (X i).q) (A 0).cols.toNat j < 4294967296 ^ K := fun K hK j hj => by
    have h1 := TK_small P l ok lx hj
    have h2 := szA_mono (A := A) hj
    exact Nat.lt_of_le_of_lt h1 (Nat.pow_lt_pow_right (by decide) (by omega))
  have hin := in_rep (x := fun i => (X i).q) P hk
  refine ⟨fun r hr j hj => ?_, fun i hi => ?_, fun c hc => ?_⟩
  · have h := layer_rep (P.shape k hk) (DK_TK A (fun i => (X i).q) (A 0).cols.toNat k) hin hr hj
    exact Rep.qb (T := TK A (fun i => (X i).q) (A 0).cols.toNat (k + 1)) (D := DK A (fun i => (X i).q) (A 0).cols.toNat (k + 1)) h (DK_pos _ _ _ _) (big _ (Nat.le_refl _) _ hk) (Nat.lt_of_le_of_lt (DK_TK _ _ _ _) (big _ (Nat.le_refl _) _ hk))
  · obtain ⟨h1, h2⟩ := q_small ((P.vals k hk).1 i hi) ((l k hk).W i hi)
    have h3 := szR_at (R := (A k).W) hi
    have h4 := szA_at (A := A) hk
    unfold AffD.size at h4
    exact qb_of h1 h2 (by omega) (by omega)
  · exact (hin c hc).qb (DK_pos _ _ _ _) (big _ (Nat.le_refl _) _ (by omega)) (Nat.lt_of_le_of_lt (DK_TK _ _ _ _) (big _ (Nat.le_refl _) _ (by omega)))

end Go.Proofs.YthaomfabdghfjaaGreat
