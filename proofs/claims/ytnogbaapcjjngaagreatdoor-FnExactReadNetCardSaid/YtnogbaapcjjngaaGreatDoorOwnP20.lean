import Derived.Test.YtnogbaapcjjngaaGreatDoorOwnP18
import Derived.Laws.ResultCell
import Derived.Test.YtnogbaapcjjngaaGreatDoorOwnP2
import Derived.Test.YtnogbaapcjjngaaGreatDoorOwnP3
import Derived.Test.YtnogbaapcjjngaaGreatDoorOwnP16
import Derived.Laws.AppendOwnNone
import Derived.Test.YtnogbaapcjjngaaGreatDoorOwnP17
import Derived.Test.YtnogbaapcjjngaaGreatDoorOwnP4
namespace Go.Proofs.YtnogbaapcjjngaaGreatDoor
open Go.RowKit

/-- A struct in a box and a plain second result. -/
theorem results_box3_tmp {fn : Func} {p u : Tmp} (h : fn.results = #[.cell p 61, .tmp u]) (tmps : Array Value) (w : World) (c : Nat) (x y z : Value) (hp : tmps.getD p undef = .pointer (some ⟨c, 0, none⟩)) (B : Box3 w c x y z) :
    (results fn tmps).run Tryz.prog w = .ok (.tuple #[.agg #[x, y, z], tmps.getD u undef]) w := by
  have hl := run_loadVar_mid (P := Tryz.prog) w c 0 61 [x, y, z] _ (fun j v hv => by
    rcases j with _ | _ | _ | j
    · simp at hv; subst hv; exact B.c0
    · simp at hv; subst hv; exact B.c1
    · simp at hv; subst hv; exact B.c2
    · simp at hv) Tryz.underlying61 rfl ratInfo
  rw [results_cell_tmp h, hp]
  simp [asAddr, hl, Result.andThen]

end Go.Proofs.YtnogbaapcjjngaaGreatDoor

namespace Go.Proofs.YtnogbaapcjjngaaGreatDoor
open Go.RowKit

end Go.Proofs.YtnogbaapcjjngaaGreatDoor

namespace Go.Proofs.YtnogbaapcjjngaaGreatDoor
open Go.RowKit

end Go.Proofs.YtnogbaapcjjngaaGreatDoor

namespace Go.Proofs.YtnogbaapcjjngaaGreatDoor
open Go.RowKit

end Go.Proofs.YtnogbaapcjjngaaGreatDoor

namespace Go.Proofs.YtnogbaapcjjngaaGreatDoor
open Go.RowKit

end Go.Proofs.YtnogbaapcjjngaaGreatDoor

namespace Go.Proofs.YtnogbaapcjjngaaGreatDoor
open Go.RowKit

end Go.Proofs.YtnogbaapcjjngaaGreatDoor

namespace Go.Proofs.YtnogbaapcjjngaaGreatDoor
open Go.RowKit

end Go.Proofs.YtnogbaapcjjngaaGreatDoor

namespace Go.Proofs.YtnogbaapcjjngaaGreatDoor
open Go.RowKit

end Go.Proofs.YtnogbaapcjjngaaGreatDoor

namespace Go.Proofs.YtnogbaapcjjngaaGreatDoor
open Go.RowKit

end Go.Proofs.YtnogbaapcjjngaaGreatDoor

namespace Go.Proofs.YtnogbaapcjjngaaGreatDoor
open Go.RowKit

end Go.Proofs.YtnogbaapcjjngaaGreatDoor

namespace Go.Proofs.YtnogbaapcjjngaaGreatDoor
open Go.RowKit

end Go.Proofs.YtnogbaapcjjngaaGreatDoor

namespace Go.Proofs.YtnogbaapcjjngaaGreatDoor
open Go.RowKit

end Go.Proofs.YtnogbaapcjjngaaGreatDoor

namespace Go.Proofs.YtnogbaapcjjngaaGreatDoor
open Go.RowKit

end Go.Proofs.YtnogbaapcjjngaaGreatDoor

namespace Go.Proofs.YtnogbaapcjjngaaGreatDoor
open Go.RowKit

end Go.Proofs.YtnogbaapcjjngaaGreatDoor

namespace Go.Proofs.YtnogbaapcjjngaaGreatDoor

end Go.Proofs.YtnogbaapcjjngaaGreatDoor

namespace Go.Proofs.YtnogbaapcjjngaaGreatDoor
open Go.RowKit

section
variable {w w' : World} {p p' : Nat → Prop} {v : Value} {q : Rat} {a : Option Addr} {b off n c : Nat} {Q : Nat → Rat}
end

end Go.Proofs.YtnogbaapcjjngaaGreatDoor

namespace Go.Proofs.YtnogbaapcjjngaaGreatDoor
open Go.RowKit

section
variable {w w' : World} {lo hi b off : Nat} {q : Rat} {g h : Nat} {a1 : Option Addr} {n1 k1 : Nat} {a2 : Option Addr} {n2 k2 : Nat} {X Y : Nat → Nat}
end

end Go.Proofs.YtnogbaapcjjngaaGreatDoor

namespace Go.Proofs.YtnogbaapcjjngaaGreatDoor
open Go.RowKit

set_option maxHeartbeats 800000 in
set_option maxRecDepth 100000 in
/-- markUint32S, the marks taken modulo 2^32. -/
theorem markU_any (a : Option Addr) (b n cap : Nat) (X : Nat → Nat) (k0 : Nat) (w : World) (hn : n ≤ 4194304) (hk0 : k0 ≤ 1152921504606846976) (hX : Limbs w a b 0 n X) (hf : 0 < n → ∀ o, w.frozen? ⟨b, o, none⟩ = false) :
    Calls Tryz.prog 76 #[.slice a n cap, .int .i64 k0] w fun e w' => e = .returned (.int .i64 ((k0 + n : Nat) : Int)) ∧ Marked w w' b ∧ (n = 0 → w' = w) ∧ Limbs w' a b 0 n (fun j => (k0 + j) % 4294967296) := by
  go_enter Tryz.func76, Tryz.ntmps76
  go_wp2
  go_loopw [1, 5] (fun q i wr => ∃ k : Nat, k ≤ n ∧ i = .int .i64 k ∧ q = .int .i64 ((k0 + k : Nat) : Int) ∧ Marked w wr b ∧ (k = 0 → wr = w) ∧ Limbs wr a b 0 n (fun j => if j < k then (k0 + j) % 4294967296 else X j)) (fun _ i _ => n - (intOf i).toNat)
  case atStart => exact ⟨0, Nat.zero_le _, rfl, rfl, Marked.refl _ _, fun _ => rfl, fun j hj => by simpa using hX j hj⟩
  case round =>
    obtain ⟨k, hk, rfl, rfl, hs, hz, hr⟩ := hrel
    by_cases hlt : k < n
    · obtain ⟨rfl, hc⟩ := hr k hlt
      have g0 : wr.cell? ⟨b, k, none⟩ = some (.int .u32 ((X k : Nat) : Int)) := by simpa using hc
      have g1 : wr.frozen? ⟨b, k, none⟩ = false := by rw [hs.frozen]; exact hf (by omega) k
      have em : ((k0 + k : Nat) : Int) % 4294967296 = (((k0 + k) % 4294967296 : Nat) : Int) := by omega
      clear hc
      go_wp2
      go_roundw
      case rel =>
        refine ⟨k + 1, by omega, by go_num, by go_num, hs.setCell _ _, fun h0 => absurd h0 (by omega), fun j hj => ⟨rfl, ?_⟩⟩
        go_light
        by_cases e : j = k
        · subst e
          rw [Nat.zero_add, World.cell?_setCell_same _ _ _ g0]
          simp
        · rw [World.cell?_setCell_other _ _ _ _ (fun h => by have := congrArg Addr.off h; simp at this; omega)]
          have := (hr j hj).2
          simp only [this]
          by_cases e2 : j < k
          · rw [if_pos e2, if_pos (by omega)]
          · rw [if_neg e2, if_neg (by omega)]
      case measure => simp [intOf]; omega
    · have e : k = n := by omega
      subst e
      go_wp2
      go_ret
      exact ⟨rfl, hs, hz, fun j hj => by have := hr j hj; simpa [hj] using this⟩

set_option maxHeartbeats 800000 in
set_option maxRecDepth 100000 in
theorem heldU_any (a : Option Addr) (b off n cap : Nat) (k0 : Nat) (w : World) (hn : n ≤ 4194304) (hk0 : k0 ≤ 1152921504606846976) (hX : Limbs w a b off n (fun j => (k0 + j) % 4294967296)) :
    Calls Tryz.prog 77 #[.slice a n cap, .int .i64 k0] w fun e w' => e = .returned (.int .i64 ((k0 + n : Nat) : Int)) ∧ w' = w := by
  go_enter Tryz.func77, Tryz.ntmps77
  go_wp2
  go_loop [1, 5] (fun q i => ∃ k : Nat, k ≤ n ∧ i = .int .i64 k ∧ q = .int .i64 ((k0 + k : Nat) : Int)) (fun _ i => n - (intOf i).toNat)
  case atStart => exact ⟨0, Nat.zero_le _, rfl, rfl⟩
  case round =>
    obtain ⟨k, hk, rfl, rfl⟩ := hrel
    by_cases hlt : k < n
    · obtain ⟨rfl, hc⟩ := hX k hlt
      go_wp2
      go_round
      case rel => exact ⟨k + 1, by omega, by go_num, by go_num⟩
      case measure => simp [intOf]; omega
    · have e : k = n := by omega
      subst e
      go_wp2
      go_ret
      exact ⟨rfl, rfl⟩

end Go.Proofs.YtnogbaapcjjngaaGreatDoor

namespace Go.Proofs.YtnogbaapcjjngaaGreatDoor
open Go.RowKit

/-- What writes into the blocks of S leave. -/
structure Fra (w w' : World) (S : Nat → Prop) : Prop where
  os : w'.os = w.os
  tape : w'.tape = w.tape
  output : w'.output = w.output
  size : w'.heap.size = w.heap.size
  other : ∀ k, ¬ S k → w'.heap[k]? = w.heap[k]?
  frozen : ∀ b o, w'.frozen? ⟨b, o, none⟩ = w.frozen? ⟨b, o, none⟩

section
variable {w w' w'' : World} {S S' : Nat → Prop} {b n : Nat}
theorem Fra.refl (w : World) (S : Nat → Prop) : Fra w w S := ⟨rfl, rfl, rfl, rfl, fun _ _ => rfl, fun _ _ => rfl⟩
theorem Fra.mono (f : Fra w w' S) (h : ∀ k, S k → S' k) : Fra w w' S' := ⟨f.os, f.tape, f.output, f.size, fun k hk => f.other k (fun h0 => hk (h k h0)), f.frozen⟩
theorem Fra.trans (f : Fra w w' S) (g : Fra w' w'' S) : Fra w w'' S :=
  ⟨g.os.trans f.os, g.tape.trans f.tape, g.output.trans f.output, g.size.trans f.size, fun k hk => (g.other k hk).trans (f.other k hk), fun b o => (g.frozen b o).trans (f.frozen b o)⟩
theorem Marked.fr (M : Marked w w' b) : Fra w w' (fun k => k = b) :=
  ⟨M.os, M.tape, M.output, M.size, fun k hk => M.other k hk, fun c o => by
    by_cases e : c = b
    · subst e; exact M.frozen o
    · exact M.frozenO (a := ⟨c, o, none⟩) e⟩
theorem Marked.frN (M : Marked w w' b) (h : n = 0 → w' = w) : Fra w w' (fun k => 0 < n ∧ k = b) := by
  by_cases e : n = 0
  · rw [h e]; exact Fra.refl _ _
  · exact M.fr.mono (fun k hk => ⟨by omega, hk⟩)
theorem Fra.cell (f : Fra w w' S) {a : Addr} (h : ¬ S a.block) : w'.cell? a = w.cell? a := World.cell?_of_block (w := w) (f.other _ h)
theorem Fra.limbs {a : Option Addr} {off : Nat} {X : Nat → Nat} (f : Fra w w' S) (L : Limbs w a b off n X) (h : 0 < n → ¬ S b) : Limbs w' a b off n X :=
  fun j hj => ⟨(L j hj).1, by rw [f.cell (a := ⟨b, off + j, none⟩) (h (by omega))]; exact (L j hj).2⟩
end

theorem Fra.since {w w' : World} {S : Nat → Prop} {B : Nat} (F : Fra w w' S) (h : ∀ k, S k → B ≤ k) : w.Since B w' :=
  ⟨F.os, F.tape, F.output, by rw [F.size]; exact Nat.le_refl _, fun k hk => F.other k (fun h0 => by have := h k h0; omega)⟩

end Go.Proofs.YtnogbaapcjjngaaGreatDoor

namespace Go.Proofs.YtnogbaapcjjngaaGreatDoor
open Go.RowKit

/-- An entry of three cells whose two lists lie in blocks of p. -/
structure OwnQ (w : World) (p : Nat → Prop) (b off : Nat) (f : Bool) (g h : Nat) (a1 : Option Addr) (n1 k1 : Nat) (a2 : Option Addr) (n2 k2 : Nat) (X Y : Nat → Nat) : Prop where
  c0 : w.cell? ⟨b, off, none⟩ = some (.bool f)
  c1 : w.cell? ⟨b, off + 1, none⟩ = some (.slice a1 n1 k1)
  c2 : w.cell? ⟨b, off + 2, none⟩ = some (.slice a2 n2 k2)
  L1 : Limbs w a1 g 0 n1 X
  L2 : Limbs w a2 h 0 n2 Y
  s1 : n1 ≤ 4194304
  s2 : n2 ≤ 4194304
  lg : 0 < n1 → p g ∧ ∀ o, w.frozen? ⟨g, o, none⟩ = false
  lh : 0 < n2 → p h ∧ ∀ o, w.frozen? ⟨h, o, none⟩ = false
  ne : 0 < n1 → 0 < n2 → g ≠ h

theorem OwnQ.frame {w w' : World} {S p : Nat → Prop} {b off : Nat} {f : Bool} {g h : Nat} {a1 : Option Addr} {n1 k1 : Nat} {a2 : Option Addr} {n2 k2 : Nat} {X Y : Nat → Nat} (r : OwnQ w p b off f g h a1 n1 k1 a2 n2 k2 X Y) (F : Fra w w' S)
    (hS : ∀ k, p k → ¬ S k) (hc : ∀ o, off ≤ o → o < off + 3 → w'.cell? ⟨b, o, none⟩ = w.cell? ⟨b, o, none⟩) : OwnQ w' p b off f g h a1 n1 k1 a2 n2 k2 X Y :=
  ⟨by rw [hc _ (by omega) (by omega)]; exact r.c0, by rw [hc _ (by omega) (by omega)]; exact r.c1, by rw [hc _ (by omega) (by omega)]; exact r.c2,
    F.limbs r.L1 (fun h0 => hS g (r.lg h0).1), F.limbs r.L2 (fun h0 => hS h (r.lh h0).1), r.s1, r.s2,
    fun h0 => ⟨(r.lg h0).1, fun o => by rw [F.frozen]; exact (r.lg h0).2 o⟩, fun h0 => ⟨(r.lh h0).1, fun o => by rw [F.frozen]; exact (r.lh h0).2 o⟩, r.ne⟩

/-- Entries in blocks of their own: entry i has those of p i. -/
def QFrom (w : World) (b k n : Nat) (p : Nat → Nat → Prop) : Prop := ∀ i, k ≤ i → i < n → ∃ f g h a1 n1 k1 a2 n2 k2 X Y, OwnQ w (p i) b (i * 3) f g h a1 n1 k1 a2 n2 k2 X Y

/-- The marks of a list: entry i is marked from K i on. -/
def MarkQ (w : World) (b n : Nat) (p : Nat → Nat → Prop) (K : Nat → Nat) : Prop := ∀ i, i < n → ∃ g h a1 n1 k1 a2 n2 k2, OwnQ w (p i) b (i * 3) (decide (K i % 3 = 0)) g h a1 n1 k1 a2 n2 k2 (fun j => (K i + 1 + j) % 4294967296) (fun j => (K i + 1 + n1 + j) % 4294967296) ∧ K (i + 1) = K i + 1 + n1 + n2

/-- No block is two entries', none is b. -/
structure DisP (n : Nat) (p : Nat → Nat → Prop) (b : Nat) : Prop where
  one : ∀ i j q, i < n → j < n → p i q → p j q → i = j
  nb : ∀ i q, i < n → p i q → q ≠ b

/-- The blocks of a list. -/
def setQ (b n : Nat) (p : Nat → Nat → Prop) (q : Nat) : Prop := 0 < n ∧ (q = b ∨ ∃ i, i < n ∧ p i q)

set_option maxHeartbeats 1600000 in
set_option maxRecDepth 100000 in
/-- markRatS writes into the list and its entries' blocks alone. -/
theorem markRatS_p (a : Option Addr) (b n cap : Nat) (p : Nat → Nat → Prop) (k0 : Nat) (w : World) (hn : n ≤ 1048576) (hk0 : k0 ≤ 576460752303423488) (ha : 0 < n → a = some ⟨b, 0, none⟩) (D : DisP n p b) (hf : 0 < n → ∀ o, w.frozen? ⟨b, o, none⟩ = false) (H : QFrom w b 0 n p) :
    Calls Tryz.prog 38 #[.slice a n cap, .int .i64 k0] w fun e w' => ∃ K : Nat → Nat, K 0 = k0 ∧ K n ≤ k0 + n * 8388609 ∧ e = .returned (.int .i64 ((K n : Nat) : Int)) ∧ Fra w w' (setQ b n p) ∧ MarkQ w' b n p K := by
  go_enter Tryz.func38, Tryz.ntmps38
  go_wp2
  go_loopw [1, 5] (fun q i wr => ∃ (k : Nat) (K : Nat → Nat), k ≤ n ∧ i = .int .i64 k ∧ q = .int .i64 ((K k : Nat) : Int) ∧ K 0 = k0 ∧ K k ≤ k0 + k * 8388609 ∧ Fra w wr (setQ b n p) ∧ MarkQ wr b k p K ∧ QFrom wr b k n p) (fun _ i _ => n - (intOf i).toNat)
  case atStart => exact ⟨0, fun _ => k0, Nat.zero_le _, rfl, rfl, rfl, by simp, Fra.refl _ _, fun i hi => absurd hi (by omega), H⟩
  case round =>
    obtain ⟨k, K, hk, rfl, rfl, hK0, hK, hs, hm, ho⟩ := hrel
    by_cases hlt : k < n
    · obtain ⟨f, g, h, a1, n1, k1, a2, n2, k2, X, Y, r⟩ := ho k (Nat.le_refl _) hlt
      obtain rfl := ha (by omega)
      have g0 := r.c0
      have g1 := r.c1
      have g2 := r.c2
      have fz : wr.frozen? ⟨b, k * 3, none⟩ = false := by rw [hs.frozen]; exact hf (by omega) _
      have s1 := r.s1
      have s2 := r.s2
      have zK : K k ≤ 1125899906842624000 := by omega
      generalize hKk : K k = Kk at *
      go_wp2_with fail
      have M1 : Marked wr (wr.setCell ⟨b, k * 3, none⟩ (.bool ((Kk : Int) % 3 == 0))) b := (Marked.refl wr b).setCell _ _
      have d0 : (wr.setCell ⟨b, k * 3, none⟩ (.bool ((Kk : Int) % 3 == 0))).cell? ⟨b, k * 3, none⟩ = some (.bool (decide (Kk % 3 = 0))) := by
        rw [World.cell?_setCell_same _ _ _ g0]
        have : ((Kk : Int) % 3 == 0) = decide (Kk % 3 = 0) := by
          rw [Bool.eq_iff_iff, beq_iff_eq, decide_eq_true_iff]; omega
        rw [this]
      have d1 : ∀ o, o ≠ k * 3 → (wr.setCell ⟨b, k * 3, none⟩ (.bool ((Kk : Int) % 3 == 0))).cell? ⟨b, o, none⟩ = wr.cell? ⟨b, o, none⟩ := fun o ho =>
        World.cell?_setCell_other _ _ _ _ (fun h => by have := congrArg Addr.off h; simp at this; omega)
      generalize wr.setCell ⟨b, k * 3, none⟩ (.bool ((Kk : Int) % 3 == 0)) = w1 at *
      rw [show ((Kk : Int) + 1) = ((Kk + 1 : Nat) : Int) by omega]
      refine (markU_any a1 g n1 k1 X (Kk + 1) w1 s1 (by omega) (r.L1.marked M1 (fun h0 => by have := D.nb k g hlt (r.lg h0).1; omega)) (fun h0 o => by rw [M1.fr.frozen]; exact (r.lg h0).2 o)).mono ?_
      rintro e w2 ⟨rfl, M2, z2, L2⟩
      have F2 := M2.frN z2
      have nb1 : ¬ (0 < n1 ∧ b = g) := fun h0 => by have := D.nb k g hlt (r.lg h0.1).1; omega
      have nb2 : ¬ (0 < n2 ∧ b = h) := fun h0 => by have := D.nb k h hlt (r.lh h0.1).1; omega
      have i2 : w2.cell? ⟨b, k * 3 + 2, none⟩ = some (.slice a2 n2 k2) := by rw [F2.cell (a := ⟨b, k * 3 + 2, none⟩) nb1, d1 _ (by omega)]; exact g2
      go_wp2_with fail
      have Y2 : Limbs w2 a2 h 0 n2 Y := F2.limbs (r.L2.marked M1 (fun h0 => by have := D.nb k h hlt (r.lh h0).1; omega)) (fun h0 h1 => r.ne h1.1 h0 h1.2.symm)
      refine (markU_any a2 h n2 k2 Y (Kk + 1 + n1) w2 s2 (by omega) Y2 (fun h0 o => by rw [F2.frozen, M1.fr.frozen]; exact (r.lh h0).2 o)).mono ?_
      rintro e w3 ⟨rfl, M3, z3, L3⟩
      have F3 := M3.frN z3
      go_wp2
      go_roundw
      case rel =>
        have F : Fra wr w3 (fun c => c = b ∨ p k c) :=
          ((M1.fr.mono (fun c h0 => .inl h0)).trans (F2.mono (fun c h0 => .inr (by rw [h0.2]; exact (r.lg h0.1).1)))).trans (F3.mono (fun c h0 => .inr (by rw [h0.2]; exact (r.lh h0.1).1)))
        have hcb : ∀ o, o ≠ k * 3 → w3.cell? ⟨b, o, none⟩ = wr.cell? ⟨b, o, none⟩ := fun o h0 => by
          rw [F3.cell (a := ⟨b, o, none⟩) nb2, F2.cell (a := ⟨b, o, none⟩) nb1, d1 o h0]
        refine ⟨k + 1, fun i => if i ≤ k then K i else Kk + 1 + n1 + n2, by omega, by go_num, ?_, ?_, ?_, hs.trans (F.mono ?_), fun i hi => ?_, fun i hi hi' => ?_⟩
        · simp only [show ¬ k + 1 ≤ k by omega, if_false]
          go_num
        · simpa using hK0
        · simp only [show ¬ k + 1 ≤ k by omega, if_false]; omega
        · intro c hc
          refine ⟨by omega, ?_⟩
          rcases hc with hc | hc
          · exact .inl hc
          · exact .inr ⟨k, hlt, hc⟩
        · by_cases e : i = k
          · subst e
            simp only [Nat.le_refl, if_true, show ¬ i + 1 ≤ i by omega, if_false, hKk]
            refine ⟨g, h, a1, n1, k1, a2, n2, k2, ⟨?_, ?_, ?_, F3.limbs L2 (fun h0 h1 => r.ne h0 h1.1 h1.2), L3, s1, s2, fun h0 => ⟨(r.lg h0).1, fun o => by rw [F.frozen]; exact (r.lg h0).2 o⟩, fun h0 => ⟨(r.lh h0).1, fun o => by rw [F.frozen]; exact (r.lh h0).2 o⟩, r.ne⟩, rfl⟩
            · rw [F3.cell (a := ⟨b, i * 3, none⟩) nb2, F2.cell (a := ⟨b, i * 3, none⟩) nb1]; exact d0
            · rw [hcb _ (by omega)]; exact g1
            · rw [hcb _ (by omega)]; exact g2
          · have hi2 : i < k := by omega
            simp only [show i ≤ k by omega, show i + 1 ≤ k by omega, if_true]
            obtain ⟨g', h', a1', n1', k1', a2', n2', k2', r', e'⟩ := hm i hi2
            exact ⟨g', h', a1', n1', k1', a2', n2', k2', r'.frame F (fun c h1 h3 => by
              rcases h3 with h3 | h3
              · exact D.nb i c (by omega) h1 h3
              · exact e (D.one i k c (by omega) hlt h1 h3)) (fun o h1 h2 => hcb o (by omega)), e'⟩
        · obtain ⟨f', g', h', a1', n1', k1', a2', n2', k2', X', Y', r'⟩ := ho i (by omega) hi'
          exact ⟨f', g', h', a1', n1', k1', a2', n2', k2', X', Y', r'.frame F (fun c h1 h3 => by
            rcases h3 with h3 | h3
            · exact D.nb i c hi' h1 h3
            · have := D.one i k c hi' hlt h1 h3; omega) (fun o h1 h2 => hcb o (by omega))⟩
      case measure => simp [intOf]; omega
    · have e : k = n := by omega
      subst e
      go_wp2
      go_ret
      exact ⟨K, hK0, hK, rfl, hs, hm⟩

set_option maxHeartbeats 1600000 in
set_option maxRecDepth 100000 in
/-- heldRatS at a list whose marks stand. -/
theorem heldRatS_p (a : Option Addr) (b n cap : Nat) (p : Nat → Nat → Prop) (K : Nat → Nat) (k0 : Nat) (w : World) (hn : n ≤ 1048576) (hk0 : k0 ≤ 576460752303423488) (ha : 0 < n → a = some ⟨b, 0, none⟩) (hK0 : K 0 = k0) (H : MarkQ w b n p K) :
    Calls Tryz.prog 40 #[.slice a n cap, .int .i64 k0] w fun e w' => e = .returned (.int .i64 ((K n : Nat) : Int)) ∧ w' = w := by
  go_enter Tryz.func40, Tryz.ntmps40
  go_wp2
  go_loop [1, 5] (fun q i => ∃ k : Nat, k ≤ n ∧ i = .int .i64 k ∧ q = .int .i64 ((K k : Nat) : Int) ∧ K k ≤ k0 + k * 8388609) (fun _ i => n - (intOf i).toNat)
  case atStart => exact ⟨0, Nat.zero_le _, rfl, by rw [hK0], by omega⟩
  case round =>
    obtain ⟨k, hk, rfl, rfl, hK⟩ := hrel
    by_cases hlt : k < n
    · obtain ⟨g, h, a1, n1, k1, a2, n2, k2, r, eK⟩ := H k hlt
      obtain rfl := ha (by omega)
      have g0 := r.c0
      have g1 := r.c1
      have g2 := r.c2
      have s1 := r.s1
      have s2 := r.s2
      have L1 := r.L1
      have L2 := r.L2
      have zK : K k ≤ 1125899906842624000 := by omega
      clear r
      generalize hKk : K k = Kk at *
      have e3 : decide (Kk % 3 = 0) = ((Kk : Int) % 3 == 0) := by
        rw [Bool.eq_iff_iff, beq_iff_eq, decide_eq_true_iff]; omega
      rw [e3] at g0
      go_wp2_with fail
      rw [show ((Kk : Int) + 1) = ((Kk + 1 : Nat) : Int) by omega]
      refine (heldU_any a1 g 0 n1 k1 (Kk + 1) w s1 (by omega) L1).mono ?_
      rintro e w2 ⟨rfl, rfl⟩
      go_wp2_with fail
      refine (heldU_any a2 h 0 n2 k2 (Kk + 1 + n1) _ s2 (by omega) L2).mono ?_
      rintro e w3 ⟨rfl, rfl⟩
      go_wp2
      go_round
      case rel => exact ⟨k + 1, by omega, by go_num, by rw [eK]; go_num, by omega⟩
      case measure => simp [intOf]; omega
    · have e : k = n := by omega
      subst e
      go_wp2
      go_ret
      exact ⟨rfl, rfl⟩

/-- A list in blocks of its own. -/
structure LQ (w : World) (a : Option Addr) (g n : Nat) (p : Nat → Nat → Prop) : Prop where
  ha : 0 < n → a = some ⟨g, 0, none⟩
  f : 0 < n → ∀ o, w.frozen? ⟨g, o, none⟩ = false
  Q : QFrom w g 0 n p
  D : DisP n p g
/-- .. whose marks stand. -/
structure LM (w : World) (a : Option Addr) (g n : Nat) (p : Nat → Nat → Prop) (K : Nat → Nat) : Prop where
  ha : 0 < n → a = some ⟨g, 0, none⟩
  M : MarkQ w g n p K

section
variable {w w' : World} {S : Nat → Prop} {a : Option Addr} {g n : Nat} {p : Nat → Nat → Prop} {K : Nat → Nat}
theorem LQ.frame (h : LQ w a g n p) (F : Fra w w' S) (hS : ∀ q, setQ g n p q → ¬ S q) : LQ w' a g n p :=
  ⟨h.ha, fun h0 o => by rw [F.frozen]; exact h.f h0 o, fun i h1 h2 => by
    obtain ⟨f', g', h', a1', n1', k1', a2', n2', k2', X', Y', r'⟩ := h.Q i h1 h2
    exact ⟨f', g', h', a1', n1', k1', a2', n2', k2', X', Y', r'.frame F (fun c hc => hS c ⟨by omega, .inr ⟨i, h2, hc⟩⟩) (fun o _ _ => F.cell (a := ⟨g, o, none⟩) (hS g ⟨by omega, .inl rfl⟩))⟩, h.D⟩
theorem LM.frame (h : LM w a g n p K) (F : Fra w w' S) (hS : ∀ q, setQ g n p q → ¬ S q) : LM w' a g n p K :=
  ⟨h.ha, fun i h2 => by
    obtain ⟨g', h', a1', n1', k1', a2', n2', k2', r', e'⟩ := h.M i h2
    exact ⟨g', h', a1', n1', k1', a2', n2', k2', r'.frame F (fun c hc => hS c ⟨by omega, .inr ⟨i, h2, hc⟩⟩) (fun o _ _ => F.cell (a := ⟨g, o, none⟩) (hS g ⟨by omega, .inl rfl⟩)), e'⟩⟩
theorem LQ.keep (h : LQ w a g n p) (s : w.Since w.heap.size w') : LQ w' a g n p := by
  refine ⟨h.ha, fun h0 o => ?_, fun i h1 h2 => ?_, h.D⟩
  · obtain ⟨f', g', h', a1', n1', k1', a2', n2', k2', X', Y', r'⟩ := h.Q 0 (Nat.le_refl _) h0
    have lt : g < w.heap.size := World.block_lt_of_cell? _ _ r'.c0
    rw [s.frozen (a := ⟨g, o, none⟩) lt]; exact h.f h0 o
  · obtain ⟨f', g', h', a1', n1', k1', a2', n2', k2', X', Y', r'⟩ := h.Q i h1 h2
    have lt : g < w.heap.size := World.block_lt_of_cell? _ _ r'.c0
    refine ⟨f', g', h', a1', n1', k1', a2', n2', k2', X', Y', (s.cell (a := ⟨g, i * 3, none⟩) lt).trans r'.c0, (s.cell (a := ⟨g, i * 3 + 1, none⟩) lt).trans r'.c1, (s.cell (a := ⟨g, i * 3 + 2, none⟩) lt).trans r'.c2, r'.L1.keep s, r'.L2.keep s, r'.s1, r'.s2, fun h0 => ⟨(r'.lg h0).1, fun o => ?_⟩, fun h0 => ⟨(r'.lh h0).1, fun o => ?_⟩, r'.ne⟩
    · have lt' : g' < w.heap.size := World.block_lt_of_cell? _ _ (r'.L1 0 h0).2
      rw [s.frozen (a := ⟨g', o, none⟩) lt']; exact (r'.lg h0).2 o
    · have lt' : h' < w.heap.size := World.block_lt_of_cell? _ _ (r'.L2 0 h0).2
      rw [s.frozen (a := ⟨h', o, none⟩) lt']; exact (r'.lh h0).2 o
end

theorem markRatS_q {a : Option Addr} {g n : Nat} {p : Nat → Nat → Prop} (cap k0 : Nat) {w : World} (hn : n ≤ 1048576) (hk0 : k0 ≤ 576460752303423488) (H : LQ w a g n p) :
    Calls Tryz.prog 38 #[.slice a n cap, .int .i64 k0] w fun e w' => ∃ K : Nat → Nat, K 0 = k0 ∧ K n ≤ k0 + n * 8388609 ∧ e = .returned (.int .i64 ((K n : Nat) : Int)) ∧ Fra w w' (setQ g n p) ∧ LM w' a g n p K := by
  refine (markRatS_p a g n cap p k0 w hn hk0 H.ha H.D H.f H.Q).mono ?_
  rintro e w' ⟨K, h1, h2, h3, h4, h5⟩
  exact ⟨K, h1, h2, h3, h4, H.ha, h5⟩

end Go.Proofs.YtnogbaapcjjngaaGreatDoor

namespace Go.Proofs.YtnogbaapcjjngaaGreatDoor
open Go.RowKit

/-- An affine map of four cells whose two lists lie in blocks of their own, those of p. -/
structure AQ (w : World) (p : Nat → Prop) (c i : Nat) (v0 v1 : Value) (aW : Option Addr) (gW nW cW : Nat) (pW : Nat → Nat → Prop) (aB : Option Addr) (gB nB cB : Nat) (pB : Nat → Nat → Prop) : Prop where
  c0 : w.cell? ⟨c, i * 4, none⟩ = some v0
  c1 : w.cell? ⟨c, i * 4 + 1, none⟩ = some v1
  c2 : w.cell? ⟨c, i * 4 + 2, none⟩ = some (.slice aW nW cW)
  c3 : w.cell? ⟨c, i * 4 + 3, none⟩ = some (.slice aB nB cB)
  W : LQ w aW gW nW pW
  B : LQ w aB gB nB pB
  dis : ∀ q, setQ gW nW pW q → ¬ setQ gB nB pB q
  inW : ∀ q, setQ gW nW pW q → p q
  inB : ∀ q, setQ gB nB pB q → p q
  sz : nW + nB ≤ 1048576

/-- .. whose marks stand, from K to K'. -/
structure AM (w : World) (p : Nat → Prop) (c i K K' : Nat) (aW : Option Addr) (gW nW cW : Nat) (pW : Nat → Nat → Prop) (kW : Nat → Nat) (aB : Option Addr) (gB nB cB : Nat) (pB : Nat → Nat → Prop) (kB : Nat → Nat) : Prop where
  c0 : w.cell? ⟨c, i * 4, none⟩ = some (.int .i64 (K : Int))
  c1 : w.cell? ⟨c, i * 4 + 1, none⟩ = some (.int .i64 ((K : Int) + 1))
  c2 : w.cell? ⟨c, i * 4 + 2, none⟩ = some (.slice aW nW cW)
  c3 : w.cell? ⟨c, i * 4 + 3, none⟩ = some (.slice aB nB cB)
  W : LM w aW gW nW pW kW
  B : LM w aB gB nB pB kB
  inW : ∀ q, setQ gW nW pW q → p q
  inB : ∀ q, setQ gB nB pB q → p q
  sz : nW + nB ≤ 1048576
  k0 : kW 0 = K + 2
  k1 : kB 0 = kW nW
  k2 : K' = kB nB
  z1 : kW nW ≤ K + 2 + nW * 8388609
  z2 : K' ≤ K + 2 + (nW + nB) * 8388609

def NQ (w : World) (c k n : Nat) (p : Nat → Nat → Prop) (z : Nat → Nat) : Prop := ∀ i, k ≤ i → i < n → ∃ v0 v1 aW gW nW cW pW aB gB nB cB pB, AQ w (p i) c i v0 v1 aW gW nW cW pW aB gB nB cB pB ∧ nW + nB ≤ z i
def NM (w : World) (c n : Nat) (p : Nat → Nat → Prop) (K : Nat → Nat) : Prop := ∀ i, i < n → ∃ aW gW nW cW pW kW aB gB nB cB pB kB, AM w (p i) c i (K i) (K (i + 1)) aW gW nW cW pW kW aB gB nB cB pB kB

section
variable {w w' : World} {S p : Nat → Prop} {c i K K' : Nat} {v0 v1 : Value} {aW aB : Option Addr} {gW nW cW gB nB cB : Nat} {pW pB : Nat → Nat → Prop} {kW kB : Nat → Nat}
theorem AQ.frame (h : AQ w p c i v0 v1 aW gW nW cW pW aB gB nB cB pB) (F : Fra w w' S) (hS : ∀ q, p q → ¬ S q) (hc : ∀ o, i * 4 ≤ o → o < i * 4 + 4 → w'.cell? ⟨c, o, none⟩ = w.cell? ⟨c, o, none⟩) : AQ w' p c i v0 v1 aW gW nW cW pW aB gB nB cB pB :=
  ⟨by rw [hc _ (by omega) (by omega)]; exact h.c0, by rw [hc _ (by omega) (by omega)]; exact h.c1, by rw [hc _ (by omega) (by omega)]; exact h.c2, by rw [hc _ (by omega) (by omega)]; exact h.c3, h.W.frame F (fun q hq => hS q (h.inW q hq)), h.B.frame F (fun q hq => hS q (h.inB q hq)), h.dis, h.inW, h.inB, h.sz⟩
theorem AM.frame (h : AM w p c i K K' aW gW nW cW pW kW aB gB nB cB pB kB) (F : Fra w w' S) (hS : ∀ q, p q → ¬ S q) (hc : ∀ o, i * 4 ≤ o → o < i * 4 + 4 → w'.cell? ⟨c, o, none⟩ = w.cell? ⟨c, o, none⟩) : AM w' p c i K K' aW gW nW cW pW kW aB gB nB cB pB kB :=
  ⟨by rw [hc _ (by omega) (by omega)]; exact h.c0, by rw [hc _ (by omega) (by omega)]; exact h.c1, by rw [hc _ (by omega) (by omega)]; exact h.c2, by rw [hc _ (by omega) (by omega)]; exact h.c3, h.W.frame F (fun q hq => hS q (h.inW q hq)), h.B.frame F (fun q hq => hS q (h.inB q hq)), h.inW, h.inB, h.sz, h.k0, h.k1, h.k2, h.z1, h.z2⟩
end

theorem cell_els {w : World} (c : Nat) {o o' : Nat} (v : Value) (h : o' ≠ o) : (w.setCell ⟨c, o, none⟩ v).cell? ⟨c, o', none⟩ = w.cell? ⟨c, o', none⟩ :=
  World.cell?_setCell_other _ _ _ _ (fun e => by have := congrArg Addr.off e; simp at this; omega)

/-- A sum of the first i. -/
def psN (z : Nat → Nat) : Nat → Nat
  | 0 => 0
  | i + 1 => psN z i + z i

set_option maxHeartbeats 3200000 in
set_option maxRecDepth 100000 in
/-- markAffineS at a list of maps in blocks of their own. -/
theorem markAffineS_p (a : Option Addr) (c n cap k0 : Nat) (p : Nat → Nat → Prop) (z : Nat → Nat) (w : World) (hn : n ≤ 1048576) (hk0 : k0 ≤ 1000000) (hz : ∀ i, i ≤ n → psN z i ≤ 16777216) (ha : 0 < n → a = some ⟨c, 0, none⟩) (D : DisP n p c) (hf : 0 < n → ∀ o, w.frozen? ⟨c, o, none⟩ = false) (H : NQ w c 0 n p z) :
    Calls Tryz.prog 29 #[.slice a n cap, .int .i64 k0] w fun e w' => ∃ K : Nat → Nat, K 0 = k0 ∧ (∀ i, i ≤ n → K i ≤ 141000000000000) ∧ e = .returned (.int .i64 ((K n : Nat) : Int)) ∧ Fra w w' (setQ c n p) ∧ NM w' c n p K := by
  go_enter Tryz.func29, Tryz.ntmps29
  go_wp2
  go_loopw [1, 5] (fun q i wr => ∃ (k : Nat) (K : Nat → Nat), k ≤ n ∧ i = .int .i64 k ∧ q = .int .i64 ((K k : Nat) : Int) ∧ K 0 = k0 ∧ K k ≤ k0 + 2 * k + psN z k * 8388609 ∧ Fra w wr (setQ c n p) ∧ NM wr c k p K ∧ NQ wr c k n p z ∧ Hid (∀ i, i ≤ k → K i ≤ 141000000000000)) (fun _ i _ => n - (intOf i).toNat)
  case atStart => exact ⟨0, fun _ => k0, Nat.zero_le _, rfl, rfl, rfl, by simp [psN], Fra.refl _ _, fun i hi => absurd hi (by omega), H, hide (fun _ _ => by show k0 ≤ 141000000000000; omega)⟩
  case round =>
    obtain ⟨k, K, hk, rfl, rfl, hK0, hK, hs, hm, ho, HKI⟩ := hrel
    have hzk := hz k hk
    by_cases hlt : k < n
    · obtain ⟨v0, v1, aW, gW, nW, cW, pW, aB, gB, nB, cB, pB, r, hzz⟩ := ho k (Nat.le_refl _) hlt
      obtain rfl := ha (by omega)
      have hz1 := hz (k + 1) (by omega)
      have hpz : psN z (k + 1) = psN z k + z k := rfl
      have e0 := r.c0
      have e1 := r.c1
      have e2 := r.c2
      have e3 := r.c3
      have hsz := r.sz
      have fz0 : wr.frozen? ⟨c, k * 4, none⟩ = false := by rw [hs.frozen]; exact hf (by omega) _
      have fz1 : wr.frozen? ⟨c, k * 4 + 1, none⟩ = false := by rw [hs.frozen]; exact hf (by omega) _
      have HKz := hide hK
      have zK : K k ≤ 141000000000000 := by omega
      have ncW : ¬ setQ gW nW pW c := fun h0 => D.nb k c hlt (r.inW c h0) rfl
      have ncB : ¬ setQ gB nB pB c := fun h0 => D.nb k c hlt (r.inB c h0) rfl
      have HPZ := hide hpz
      have HZ1 := hide hz1
      have HZK := hide hzk
      generalize hKk : K k = Kk at *
      clear hK hpz hz1 hzk
      go_wp2_with fail
      have M1 : Marked wr ((wr.setCell ⟨c, k * 4, none⟩ (.int .i64 (Kk : Int))).setCell ⟨c, k * 4 + 1, none⟩ (.int .i64 ((Kk : Int) + 1))) c := ((Marked.refl wr c).setCell _ _).setCell _ _
      have d1 : ∀ o, o ≠ k * 4 → o ≠ k * 4 + 1 → ((wr.setCell ⟨c, k * 4, none⟩ (.int .i64 (Kk : Int))).setCell ⟨c, k * 4 + 1, none⟩ (.int .i64 ((Kk : Int) + 1))).cell? ⟨c, o, none⟩ = wr.cell? ⟨c, o, none⟩ := fun o h1 h2 => by
        rw [cell_els _ _ h2, cell_els _ _ h1]
      have d2 : ((wr.setCell ⟨c, k * 4, none⟩ (.int .i64 (Kk : Int))).setCell ⟨c, k * 4 + 1, none⟩ (.int .i64 ((Kk : Int) + 1))).cell? ⟨c, k * 4, none⟩ = some (.int .i64 (Kk : Int)) := by
        rw [cell_els _ _ (by omega), World.cell?_setCell_same _ _ _ e0]
      have d3 : ((wr.setCell ⟨c, k * 4, none⟩ (.int .i64 (Kk : Int))).setCell ⟨c, k * 4 + 1, none⟩ (.int .i64 ((Kk : Int) + 1))).cell? ⟨c, k * 4 + 1, none⟩ = some (.int .i64 ((Kk : Int) + 1)) := by
        have h9 : (wr.setCell ⟨c, k * 4, none⟩ (.int .i64 (Kk : Int))).cell? ⟨c, k * 4 + 1, none⟩ = some v1 := by rw [cell_els _ _ (by omega)]; exact e1
        rw [World.cell?_setCell_same _ _ _ h9]
      have D1 := hide d1
      have D2 := hide d2
      have D3 := hide d3
      clear d1 d2 d3
      generalize (wr.setCell ⟨c, k * 4, none⟩ (.int .i64 (Kk : Int))).setCell ⟨c, k * 4 + 1, none⟩ (.int .i64 ((Kk : Int) + 1)) = w1 at *
      rw [show ((Kk : Int) + 1 + 1) = ((Kk + 2 : Nat) : Int) by omega]
      refine (markRatS_q cW (Kk + 2) (by omega) (by omega) (r.W.frame M1.fr (fun q h0 h1 => ncW (h1 ▸ h0)))).mono ?_
      rintro e w2 ⟨kW, hkW0, hkW, rfl, F2, LM2⟩
      have i3 : w2.cell? ⟨c, k * 4 + 3, none⟩ = some (.slice aB nB cB) := by rw [F2.cell (a := ⟨c, k * 4 + 3, none⟩) ncW, D1.out _ (by omega) (by omega)]; exact e3
      obtain ⟨kw, hkw⟩ : ∃ x, kW nW = x := ⟨_, rfl⟩
      rw [hkw] at hkW ⊢
      have HKW := hide hkw
      have HKW0 := hide hkW0
      clear hkw hkW0
      go_wp2_with fail
      refine (markRatS_q cB kw (by omega) (by omega) ((r.B.frame M1.fr (fun q h0 h1 => ncB (h1 ▸ h0))).frame F2 (fun q h0 h1 => r.dis q h1 h0))).mono ?_
      rintro e w3 ⟨kB, hkB0, hkB, rfl, F3, LM3⟩
      obtain ⟨kb, hkb⟩ : ∃ x, kB nB = x := ⟨_, rfl⟩
      rw [hkb] at hkB ⊢
      have HKB := hide hkb
      have HKB0 := hide hkB0
      clear hkb hkB0
      go_wp2
      go_roundw
      case rel =>
        have F : Fra wr w3 (fun x => x = c ∨ p k x) :=
          ((M1.fr.mono (fun x h0 => .inl h0)).trans (F2.mono (fun x h0 => .inr (r.inW x h0)))).trans (F3.mono (fun x h0 => .inr (r.inB x h0)))
        have hcc : ∀ o, w3.cell? ⟨c, o, none⟩ = w1.cell? ⟨c, o, none⟩ := fun o => by
          rw [F3.cell (a := ⟨c, o, none⟩) ncB, F2.cell (a := ⟨c, o, none⟩) ncW]
        have hcb : ∀ o, o ≠ k * 4 → o ≠ k * 4 + 1 → w3.cell? ⟨c, o, none⟩ = wr.cell? ⟨c, o, none⟩ := fun o h0 h1 => by
          rw [hcc, D1.out o h0 h1]
        refine ⟨k + 1, fun i => if i ≤ k then K i else kb, by omega, by go_num, ?_, ?_, ?_, hs.trans (F.mono ?_), fun i hi => ?_, fun i hi hi' => ?_, hide (fun i hi => ?_)⟩
        · simp only [show ¬ k + 1 ≤ k by omega, if_false]
        · simpa using hK0
        · simp only [show ¬ k + 1 ≤ k by omega, if_false]
          have h1 := HKz.out
          have h2 := HPZ.out
          have h3 : (psN z k + z k) * 8388609 = psN z k * 8388609 + z k * 8388609 := Nat.add_mul _ _ _
          rw [h2, h3]
          have h4 : (nW + nB) * 8388609 ≤ z k * 8388609 := Nat.mul_le_mul_right _ hzz
          omega
        · intro x hx
          refine ⟨by omega, ?_⟩
          rcases hx with hx | hx
          · exact .inl hx
          · exact .inr ⟨k, hlt, hx⟩
        · by_cases e : i = k
          · subst e
            simp only [Nat.le_refl, if_true, show ¬ i + 1 ≤ i by omega, if_false, hKk]
            refine ⟨aW, gW, nW, cW, pW, kW, aB, gB, nB, cB, pB, kB, ⟨?_, ?_, ?_, ?_, LM2.frame F3 (fun q h0 h1 => r.dis q h0 h1), LM3, r.inW, r.inB, hsz, HKW0.out, by rw [HKB0.out, HKW.out], HKB.out.symm, by rw [HKW.out]; exact hkW, by omega⟩⟩
            · rw [hcc]; exact D2.out
            · rw [hcc]; exact D3.out
            · rw [hcb _ (by omega) (by omega)]; exact e2
            · rw [hcb _ (by omega) (by omega)]; exact e3
          · have hi2 : i < k := by omega
            simp only [show i ≤ k by omega, show i + 1 ≤ k by omega, if_true]
            obtain ⟨aW', gW', nW', cW', pW', kW', aB', gB', nB', cB', pB', kB', r'⟩ := hm i hi2
            exact ⟨aW', gW', nW', cW', pW', kW', aB', gB', nB', cB', pB', kB', r'.frame F (fun x h1 h3 => by
              rcases h3 with h3 | h3
              · exact D.nb i x (by omega) h1 h3
              · exact e (D.one i k x (by omega) hlt h1 h3)) (fun o h1 h2 => hcb o (by omega) (by omega))⟩
        · obtain ⟨v0', v1', aW', gW', nW', cW', pW', aB', gB', nB', cB', pB', r', z'⟩ := ho i (by omega) hi'
          exact ⟨v0', v1', aW', gW', nW', cW', pW', aB', gB', nB', cB', pB', r'.frame F (fun x h1 h3 => by
            rcases h3 with h3 | h3
            · exact D.nb i x hi' h1 h3
            · have := D.one i k x hi' hlt h1 h3; omega) (fun o h1 h2 => hcb o (by omega) (by omega)), z'⟩
        · by_cases e : i ≤ k
          · simp only [e, if_true]; exact HKI.out i e
          · simp only [e, if_false]
            have h1 := HKz.out
            have h2 := HZ1.out
            have h5 := HPZ.out
            have h4 : (nW + nB) * 8388609 ≤ z k * 8388609 := Nat.mul_le_mul_right _ hzz
            omega
      case measure => simp [intOf]; omega
    · have e : k = n := by omega
      subst e
      clear hK
      go_wp2
      go_ret
      exact ⟨K, hK0, HKI.out, rfl, hs, hm⟩

set_option maxHeartbeats 3200000 in
set_option maxRecDepth 100000 in
/-- heldAffineS at a list whose marks stand. -/
theorem heldAffineS_p (a : Option Addr) (c n cap k0 : Nat) (p : Nat → Nat → Prop) (K : Nat → Nat) (w : World) (hn : n ≤ 1048576) (hK0 : K 0 = k0) (ha : 0 < n → a = some ⟨c, 0, none⟩) (hKn : ∀ i, i ≤ n → K i ≤ 141000000000000) (H : NM w c n p K) :
    Calls Tryz.prog 30 #[.slice a n cap, .int .i64 k0] w fun e w' => e = .returned (.int .i64 ((K n : Nat) : Int)) ∧ w' = w := by
  go_enter Tryz.func30, Tryz.ntmps30
  go_wp2
  go_loop [1, 5] (fun q i => ∃ k : Nat, k ≤ n ∧ i = .int .i64 k ∧ q = .int .i64 ((K k : Nat) : Int)) (fun _ i => n - (intOf i).toNat)
  case atStart => exact ⟨0, Nat.zero_le _, rfl, by rw [hK0]⟩
  case round =>
    obtain ⟨k, hk, rfl, rfl⟩ := hrel
    by_cases hlt : k < n
    · obtain ⟨aW, gW, nW, cW, pW, kW, aB, gB, nB, cB, pB, kB, r⟩ := H k hlt
      obtain rfl := ha (by omega)
      have g0 := r.c0
      have g1 := r.c1
      have g2 := r.c2
      have g3 := r.c3
      have zK := hKn k hk
      have zK1 := hKn (k + 1) (by omega)
      have hsz := r.sz
      have LW := r.W
      have LB := r.B
      have h0 := hide r.k0
      have h1 := hide r.k1
      have h2 := hide r.k2
      have hz1 := r.z1
      clear r
      generalize hKk : K k = Kk at *
      obtain ⟨kw, hkw⟩ : ∃ x, kW nW = x := ⟨_, rfl⟩
      rw [hkw] at hz1
      have HKW := hide hkw
      clear hkw
      go_wp2_with fail
      rw [show ((Kk : Int) + 1 + 1) = ((Kk + 2 : Nat) : Int) by omega]
      refine (heldRatS_p aW gW nW cW pW kW (Kk + 2) w (by omega) (by omega) LW.ha h0.out LW.M).mono ?_
      rintro e w2 ⟨rfl, rfl⟩
      rw [HKW.out]
      go_wp2_with fail
      refine (heldRatS_p aB gB nB cB pB kB kw _ (by omega) (by omega) LB.ha (by rw [h1.out, HKW.out]) LB.M).mono ?_
      rintro e w3 ⟨rfl, rfl⟩
      obtain ⟨kb, hkb⟩ : ∃ x, kB nB = x := ⟨_, rfl⟩
      rw [hkb]
      have HKB := hide hkb
      clear hkb
      go_wp2
      go_round
      case rel => exact ⟨k + 1, by omega, by go_num, by rw [h2.out, HKB.out]⟩
      case measure => simp [intOf]; omega
    · have e : k = n := by omega
      subst e
      go_wp2
      go_ret
      exact ⟨rfl, rfl⟩

end Go.Proofs.YtnogbaapcjjngaaGreatDoor
