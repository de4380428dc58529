import Derived.Test.YtnogbaapcjjngaaGreatDoorOwnP18
import Derived.Laws.ResultCell
import Derived.Test.YtnogbaapcjjngaaGreatDoorOwnP2
import Derived.Test.YtnogbaapcjjngaaGreatDoorOwnP3
import Derived.Test.YtnogbaapcjjngaaGreatDoorOwnP17
import Derived.Laws.AppendOwnNone
import Derived.Test.YtnogbaapcjjngaaGreatDoorOwnP4
namespace Go.Proofs.YtnogbaapcjjngaaGreatDoor
open Go.RowKit

/-- A struct in a box and a plain second result. -/
theorem results_box3_tmp {fn : Func} {p u : Tmp} (h : fn.results = #[.cell p 61, .tmp u]) (tmps : Array Value) (w : World) (c : Nat) (x y z : Value) (hp : tmps.getD p undef = .pointer (some ⟨c, 0, none⟩)) (B : Box3 w c x y z) :
    (results fn tmps).run Tryz.prog w = .ok (.tuple #[.agg #[x, y, z], tmps.getD u undef]) w := by
  have hl := run_loadVar_mid (P := Tryz.prog) w c 0 61 [x, y, z] _ (fun j v hv => by
    rcases j with _ | _ | _ | j
    · simp at hv; subst hv; exact B.c0
    · simp at hv; subst hv; exact B.c1
    · simp at hv; subst hv; exact B.c2
    · simp at hv) Tryz.underlying61 rfl ratInfo
  rw [results_cell_tmp h, hp]
  simp [asAddr, hl, Result.andThen]

end Go.Proofs.YtnogbaapcjjngaaGreatDoor

namespace Go.Proofs.YtnogbaapcjjngaaGreatDoor
open Go.RowKit

end Go.Proofs.YtnogbaapcjjngaaGreatDoor

namespace Go.Proofs.YtnogbaapcjjngaaGreatDoor
open Go.RowKit

end Go.Proofs.YtnogbaapcjjngaaGreatDoor

namespace Go.Proofs.YtnogbaapcjjngaaGreatDoor
open Go.RowKit

end Go.Proofs.YtnogbaapcjjngaaGreatDoor

namespace Go.Proofs.YtnogbaapcjjngaaGreatDoor
open Go.RowKit

end Go.Proofs.YtnogbaapcjjngaaGreatDoor

namespace Go.Proofs.YtnogbaapcjjngaaGreatDoor
open Go.RowKit

end Go.Proofs.YtnogbaapcjjngaaGreatDoor

namespace Go.Proofs.YtnogbaapcjjngaaGreatDoor
open Go.RowKit

end Go.Proofs.YtnogbaapcjjngaaGreatDoor

namespace Go.Proofs.YtnogbaapcjjngaaGreatDoor
open Go.RowKit

end Go.Proofs.YtnogbaapcjjngaaGreatDoor

namespace Go.Proofs.YtnogbaapcjjngaaGreatDoor
open Go.RowKit

end Go.Proofs.YtnogbaapcjjngaaGreatDoor

namespace Go.Proofs.YtnogbaapcjjngaaGreatDoor
open Go.RowKit

end Go.Proofs.YtnogbaapcjjngaaGreatDoor

namespace Go.Proofs.YtnogbaapcjjngaaGreatDoor
open Go.RowKit

end Go.Proofs.YtnogbaapcjjngaaGreatDoor

namespace Go.Proofs.YtnogbaapcjjngaaGreatDoor
open Go.RowKit

end Go.Proofs.YtnogbaapcjjngaaGreatDoor

namespace Go.Proofs.YtnogbaapcjjngaaGreatDoor
open Go.RowKit

end Go.Proofs.YtnogbaapcjjngaaGreatDoor

namespace Go.Proofs.YtnogbaapcjjngaaGreatDoor
open Go.RowKit

end Go.Proofs.YtnogbaapcjjngaaGreatDoor

namespace Go.Proofs.YtnogbaapcjjngaaGreatDoor

def nums (q : Nat → Rat) : Nat → Nat
  | 0 => 1
  | n + 1 => nums q n * ((q n).num.natAbs + 1)

end Go.Proofs.YtnogbaapcjjngaaGreatDoor

namespace Go.Proofs.YtnogbaapcjjngaaGreatDoor
open Go.RowKit

section
variable {w w' : World} {p p' : Nat → Prop} {v : Value} {q : Rat} {a : Option Addr} {b off n c : Nat} {Q : Nat → Rat}
end

end Go.Proofs.YtnogbaapcjjngaaGreatDoor

namespace Go.Proofs.YtnogbaapcjjngaaGreatDoor
open Go.RowKit

section
variable {w w' : World} {lo hi b off : Nat} {q : Rat} {g h : Nat} {a1 : Option Addr} {n1 k1 : Nat} {a2 : Option Addr} {n2 k2 : Nat} {X Y : Nat → Nat}
end

end Go.Proofs.YtnogbaapcjjngaaGreatDoor

namespace Go.Proofs.YtnogbaapcjjngaaGreatDoor
open Go.RowKit

set_option maxHeartbeats 800000 in
set_option maxRecDepth 100000 in
/-- markUint32S, the marks taken modulo 2^32. -/
theorem markU_any (a : Option Addr) (b n cap : Nat) (X : Nat → Nat) (k0 : Nat) (w : World) (hn : n ≤ 4194304) (hk0 : k0 ≤ 1152921504606846976) (hX : Limbs w a b 0 n X) (hf : 0 < n → ∀ o, w.frozen? ⟨b, o, none⟩ = false) :
    Calls Tryz.prog 76 #[.slice a n cap, .int .i64 k0] w fun e w' => e = .returned (.int .i64 ((k0 + n : Nat) : Int)) ∧ Marked w w' b ∧ (n = 0 → w' = w) ∧ Limbs w' a b 0 n (fun j => (k0 + j) % 4294967296) := by
  go_enter Tryz.func76, Tryz.ntmps76
  go_wp2
  go_loopw [1, 5] (fun q i wr => ∃ k : Nat, k ≤ n ∧ i = .int .i64 k ∧ q = .int .i64 ((k0 + k : Nat) : Int) ∧ Marked w wr b ∧ (k = 0 → wr = w) ∧ Limbs wr a b 0 n (fun j => if j < k then (k0 + j) % 4294967296 else X j)) (fun _ i _ => n - (intOf i).toNat)
  case atStart => exact ⟨0, Nat.zero_le _, rfl, rfl, Marked.refl _ _, fun _ => rfl, fun j hj => by simpa using hX j hj⟩
  case round =>
    obtain ⟨k, hk, rfl, rfl, hs, hz, hr⟩ := hrel
    by_cases hlt : k < n
    · obtain ⟨rfl, hc⟩ := hr k hlt
      have g0 : wr.cell? ⟨b, k, none⟩ = some (.int .u32 ((X k : Nat) : Int)) := by simpa using hc
      have g1 : wr.frozen? ⟨b, k, none⟩ = false := by rw [hs.frozen]; exact hf (by omega) k
      have em : ((k0 + k : Nat) : Int) % 4294967296 = (((k0 + k) % 4294967296 : Nat) : Int) := by omega
      clear hc
      go_wp2
      go_roundw
      case rel =>
        refine ⟨k + 1, by omega, by go_num, by go_num, hs.setCell _ _, fun h0 => absurd h0 (by omega), fun j hj => ⟨rfl, ?_⟩⟩
        go_light
        by_cases e : j = k
        · subst e
          rw [Nat.zero_add, World.cell?_setCell_same _ _ _ g0]
          simp
        · rw [World.cell?_setCell_other _ _ _ _ (fun h => by have := congrArg Addr.off h; simp at this; omega)]
          have := (hr j hj).2
          simp only [this]
          by_cases e2 : j < k
          · rw [if_pos e2, if_pos (by omega)]
          · rw [if_neg e2, if_neg (by omega)]
      case measure => simp [intOf]; omega
    · have e : k = n := by omega
      subst e
      go_wp2
      go_ret
      exact ⟨rfl, hs, hz, fun j hj => by have := hr j hj; simpa [hj] using this⟩

set_option maxHeartbeats 800000 in
set_option maxRecDepth 100000 in
theorem heldU_any (a : Option Addr) (b off n cap : Nat) (k0 : Nat) (w : World) (hn : n ≤ 4194304) (hk0 : k0 ≤ 1152921504606846976) (hX : Limbs w a b off n (fun j => (k0 + j) % 4294967296)) :
    Calls Tryz.prog 77 #[.slice a n cap, .int .i64 k0] w fun e w' => e = .returned (.int .i64 ((k0 + n : Nat) : Int)) ∧ w' = w := by
  go_enter Tryz.func77, Tryz.ntmps77
  go_wp2
  go_loop [1, 5] (fun q i => ∃ k : Nat, k ≤ n ∧ i = .int .i64 k ∧ q = .int .i64 ((k0 + k : Nat) : Int)) (fun _ i => n - (intOf i).toNat)
  case atStart => exact ⟨0, Nat.zero_le _, rfl, rfl⟩
  case round =>
    obtain ⟨k, hk, rfl, rfl⟩ := hrel
    by_cases hlt : k < n
    · obtain ⟨rfl, hc⟩ := hX k hlt
      go_wp2
      go_round
      case rel => exact ⟨k + 1, by omega, by go_num, by go_num⟩
      case measure => simp [intOf]; omega
    · have e : k = n := by omega
      subst e
      go_wp2
      go_ret
      exact ⟨rfl, rfl⟩

end Go.Proofs.YtnogbaapcjjngaaGreatDoor

namespace Go.Proofs.YtnogbaapcjjngaaGreatDoor
open Go.RowKit

/-- What writes into the blocks of S leave. -/
structure Fra (w w' : World) (S : Nat → Prop) : Prop where
  os : w'.os = w.os
  tape : w'.tape = w.tape
  output : w'.output = w.output
  size : w'.heap.size = w.heap.size
  other : ∀ k, ¬ S k → w'.heap[k]? = w.heap[k]?
  frozen : ∀ b o, w'.frozen? ⟨b, o, none⟩ = w.frozen? ⟨b, o, none⟩

section
variable {w w' w'' : World} {S S' : Nat → Prop} {b n : Nat}
theorem Fra.refl (w : World) (S : Nat → Prop) : Fra w w S := ⟨rfl, rfl, rfl, rfl, fun _ _ => rfl, fun _ _ => rfl⟩
theorem Fra.mono (f : Fra w w' S) (h : ∀ k, S k → S' k) : Fra w w' S' := ⟨f.os, f.tape, f.output, f.size, fun k hk => f.other k (fun h0 => hk (h k h0)), f.frozen⟩
theorem Fra.trans (f : Fra w w' S) (g : Fra w' w'' S) : Fra w w'' S :=
  ⟨g.os.trans f.os, g.tape.trans f.tape, g.output.trans f.output, g.size.trans f.size, fun k hk => (g.other k hk).trans (f.other k hk), fun b o => (g.frozen b o).trans (f.frozen b o)⟩
theorem Marked.fr (M : Marked w w' b) : Fra w w' (fun k => k = b) :=
  ⟨M.os, M.tape, M.output, M.size, fun k hk => M.other k hk, fun c o => by
    by_cases e : c = b
    · subst e; exact M.frozen o
    · exact M.frozenO (a := ⟨c, o, none⟩) e⟩
theorem Marked.frN (M : Marked w w' b) (h : n = 0 → w' = w) : Fra w w' (fun k => 0 < n ∧ k = b) := by
  by_cases e : n = 0
  · rw [h e]; exact Fra.refl _ _
  · exact M.fr.mono (fun k hk => ⟨by omega, hk⟩)
theorem Fra.cell (f : Fra w w' S) {a : Addr} (h : ¬ S a.block) : w'.cell? a = w.cell? a := World.cell?_of_block (w := w) (f.other _ h)
theorem Fra.limbs {a : Option Addr} {off : Nat} {X : Nat → Nat} (f : Fra w w' S) (L : Limbs w a b off n X) (h : 0 < n → ¬ S b) : Limbs w' a b off n X :=
  fun j hj => ⟨(L j hj).1, by rw [f.cell (a := ⟨b, off + j, none⟩) (h (by omega))]; exact (L j hj).2⟩
end

theorem Fra.since {w w' : World} {S : Nat → Prop} {B : Nat} (F : Fra w w' S) (h : ∀ k, S k → B ≤ k) : w.Since B w' :=
  ⟨F.os, F.tape, F.output, by rw [F.size]; exact Nat.le_refl _, fun k hk => F.other k (fun h0 => by have := h k h0; omega)⟩

end Go.Proofs.YtnogbaapcjjngaaGreatDoor

namespace Go.Proofs.YtnogbaapcjjngaaGreatDoor
open Go.RowKit

/-- An entry of three cells whose two lists lie in blocks of p. -/
structure OwnQ (w : World) (p : Nat → Prop) (b off : Nat) (f : Bool) (g h : Nat) (a1 : Option Addr) (n1 k1 : Nat) (a2 : Option Addr) (n2 k2 : Nat) (X Y : Nat → Nat) : Prop where
  c0 : w.cell? ⟨b, off, none⟩ = some (.bool f)
  c1 : w.cell? ⟨b, off + 1, none⟩ = some (.slice a1 n1 k1)
  c2 : w.cell? ⟨b, off + 2, none⟩ = some (.slice a2 n2 k2)
  L1 : Limbs w a1 g 0 n1 X
  L2 : Limbs w a2 h 0 n2 Y
  s1 : n1 ≤ 4194304
  s2 : n2 ≤ 4194304
  lg : 0 < n1 → p g ∧ ∀ o, w.frozen? ⟨g, o, none⟩ = false
  lh : 0 < n2 → p h ∧ ∀ o, w.frozen? ⟨h, o, none⟩ = false
  ne : 0 < n1 → 0 < n2 → g ≠ h

theorem OwnQ.frame {w w' : World} {S p : Nat → Prop} {b off : Nat} {f : Bool} {g h : Nat} {a1 : Option Addr} {n1 k1 : Nat} {a2 : Option Addr} {n2 k2 : Nat} {X Y : Nat → Nat} (r : OwnQ w p b off f g h a1 n1 k1 a2 n2 k2 X Y) (F : Fra w w' S)
    (hS : ∀ k, p k → ¬ S k) (hc : ∀ o, off ≤ o → o < off + 3 → w'.cell? ⟨b, o, none⟩ = w.cell? ⟨b, o, none⟩) : OwnQ w' p b off f g h a1 n1 k1 a2 n2 k2 X Y :=
  ⟨by rw [hc _ (by omega) (by omega)]; exact r.c0, by rw [hc _ (by omega) (by omega)]; exact r.c1, by rw [hc _ (by omega) (by omega)]; exact r.c2,
    F.limbs r.L1 (fun h0 => hS g (r.lg h0).1), F.limbs r.L2 (fun h0 => hS h (r.lh h0).1), r.s1, r.s2,
    fun h0 => ⟨(r.lg h0).1, fun o => by rw [F.frozen]; exact (r.lg h0).2 o⟩, fun h0 => ⟨(r.lh h0).1, fun o => by rw [F.frozen]; exact (r.lh h0).2 o⟩, r.ne⟩

/-- Entries in blocks of their own: entry i has those of p i. -/
def QFrom (w : World) (b k n : Nat) (p : Nat → Nat → Prop) : Prop := ∀ i, k ≤ i → i < n → ∃ f g h a1 n1 k1 a2 n2 k2 X Y, OwnQ w (p i) b (i * 3) f g h a1 n1 k1 a2 n2 k2 X Y

/-- The marks of a list: entry i is marked from K i on. -/
def MarkQ (w : World) (b n : Nat) (p : Nat → Nat → Prop) (K : Nat → Nat) : Prop := ∀ i, i < n → ∃ g h a1 n1 k1 a2 n2 k2, OwnQ w (p i) b (i * 3) (decide (K i % 3 = 0)) g h a1 n1 k1 a2 n2 k2 (fun j => (K i + 1 + j) % 4294967296) (fun j => (K i + 1 + n1 + j) % 4294967296) ∧ K (i + 1) = K i + 1 + n1 + n2

/-- No block is two entries', none is b. -/
structure DisP (n : Nat) (p : Nat → Nat → Prop) (b : Nat) : Prop where
  one : ∀ i j q, i < n → j < n → p i q → p j q → i = j
  nb : ∀ i q, i < n → p i q → q ≠ b

/-- The blocks of a list. -/
def setQ (b n : Nat) (p : Nat → Nat → Prop) (q : Nat) : Prop := 0 < n ∧ (q = b ∨ ∃ i, i < n ∧ p i q)

set_option maxHeartbeats 1600000 in
set_option maxRecDepth 100000 in
/-- markRatS writes into the list and its entries' blocks alone. -/
theorem markRatS_p (a : Option Addr) (b n cap : Nat) (p : Nat → Nat → Prop) (k0 : Nat) (w : World) (hn : n ≤ 1048576) (hk0 : k0 ≤ 576460752303423488) (ha : 0 < n → a = some ⟨b, 0, none⟩) (D : DisP n p b) (hf : 0 < n → ∀ o, w.frozen? ⟨b, o, none⟩ = false) (H : QFrom w b 0 n p) :
    Calls Tryz.prog 38 #[.slice a n cap, .int .i64 k0] w fun e w' => ∃ K : Nat → Nat, K 0 = k0 ∧ K n ≤ k0 + n * 8388609 ∧ e = .returned (.int .i64 ((K n : Nat) : Int)) ∧ Fra w w' (setQ b n p) ∧ MarkQ w' b n p K := by
  go_enter Tryz.func38, Tryz.ntmps38
  go_wp2
  go_loopw [1, 5] (fun q i wr => ∃ (k : Nat) (K : Nat → Nat), k ≤ n ∧ i = .int .i64 k ∧ q = .int .i64 ((K k : Nat) : Int) ∧ K 0 = k0 ∧ K k ≤ k0 + k * 8388609 ∧ Fra w wr (setQ b n p) ∧ MarkQ wr b k p K ∧ QFrom wr b k n p) (fun _ i _ => n - (intOf i).toNat)
  case atStart => exact ⟨0, fun _ => k0, Nat.zero_le _, rfl, rfl, rfl, by simp, Fra.refl _ _, fun i hi => absurd hi (by omega), H⟩
  case round =>
    obtain ⟨k, K, hk, rfl, rfl, hK0, hK, hs, hm, ho⟩ := hrel
    by_cases hlt : k < n
    · obtain ⟨f, g, h, a1, n1, k1, a2, n2, k2, X, Y, r⟩ := ho k (Nat.le_refl _) hlt
      obtain rfl := ha (by omega)
      have g0 := r.c0
      have g1 := r.c1
      have g2 := r.c2
      have fz : wr.frozen? ⟨b, k * 3, none⟩ = false := by rw [hs.frozen]; exact hf (by omega) _
      have s1 := r.s1
      have s2 := r.s2
      have zK : K k ≤ 1125899906842624000 := by omega
      generalize hKk : K k = Kk at *
      go_wp2_with fail
      have M1 : Marked wr (wr.setCell ⟨b, k * 3, none⟩ (.bool ((Kk : Int) % 3 == 0))) b := (Marked.refl wr b).setCell _ _
      have d0 : (wr.setCell ⟨b, k * 3, none⟩ (.bool ((Kk : Int) % 3 == 0))).cell? ⟨b, k * 3, none⟩ = some (.bool (decide (Kk % 3 = 0))) := by
        rw [World.cell?_setCell_same _ _ _ g0]
        have : ((Kk : Int) % 3 == 0) = decide (Kk % 3 = 0) := by
          rw [Bool.eq_iff_iff, beq_iff_eq, decide_eq_true_iff]; omega
        rw [this]
      have d1 : ∀ o, o ≠ k * 3 → (wr.setCell ⟨b, k * 3, none⟩ (.bool ((Kk : Int) % 3 == 0))).cell? ⟨b, o, none⟩ = wr.cell? ⟨b, o, none⟩ := fun o ho =>
        World.cell?_setCell_other _ _ _ _ (fun h => by have := congrArg Addr.off h; simp at this; omega)
      generalize wr.setCell ⟨b, k * 3, none⟩ (.bool ((Kk : Int) % 3 == 0)) = w1 at *
      rw [show ((Kk : Int) + 1) = ((Kk + 1 : Nat) : Int) by omega]
      refine (markU_any a1 g n1 k1 X (Kk + 1) w1 s1 (by omega) (r.L1.marked M1 (fun h0 => by have := D.nb k g hlt (r.lg h0).1; omega)) (fun h0 o => by rw [M1.fr.frozen]; exact (r.lg h0).2 o)).mono ?_
      rintro e w2 ⟨rfl, M2, z2, L2⟩
      have F2 := M2.frN z2
      have nb1 : ¬ (0 < n1 ∧ b = g) := fun h0 => by have := D.nb k g hlt (r.lg h0.1).1; omega
      have nb2 : ¬ (0 < n2 ∧ b = h) := fun h0 => by have := D.nb k h hlt (r.lh h0.1).1; omega
      have i2 : w2.cell? ⟨b, k * 3 + 2, none⟩ = some (.slice a2 n2 k2) := by rw [F2.cell (a := ⟨b, k * 3 + 2, none⟩) nb1, d1 _ (by omega)]; exact g2
      go_wp2_with fail
      have Y2 : Limbs w2 a2 h 0 n2 Y := F2.limbs (r.L2.marked M1 (fun h0 => by have := D.nb k h hlt (r.lh h0).1; omega)) (fun h0 h1 => r.ne h1.1 h0 h1.2.symm)
      refine (markU_any a2 h n2 k2 Y (Kk + 1 + n1) w2 s2 (by omega) Y2 (fun h0 o => by rw [F2.frozen, M1.fr.frozen]; exact (r.lh h0).2 o)).mono ?_
      rintro e w3 ⟨rfl, M3, z3, L3⟩
      have F3 := M3.frN z3
      go_wp2
      go_roundw
      case rel =>
        have F : Fra wr w3 (fun c => c = b ∨ p k c) :=
          ((M1.fr.mono (fun c h0 => .inl h0)).trans (F2.mono (fun c h0 => .inr (by rw [h0.2]; exact (r.lg h0.1).1)))).trans (F3.mono (fun c h0 => .inr (by rw [h0.2]; exact (r.lh h0.1).1)))
        have hcb : ∀ o, o ≠ k * 3 → w3.cell? ⟨b, o, none⟩ = wr.cell? ⟨b, o, none⟩ := fun o h0 => by
          rw [F3.cell (a := ⟨b, o, none⟩) nb2, F2.cell (a := ⟨b, o, none⟩) nb1, d1 o h0]
        refine ⟨k + 1, fun i => if i ≤ k then K i else Kk + 1 + n1 + n2, by omega, by go_num, ?_, ?_, ?_, hs.trans (F.mono ?_), fun i hi => ?_, fun i hi hi' => ?_⟩
        · simp only [show ¬ k + 1 ≤ k by omega, if_false]
          go_num
        · simpa using hK0
        · simp only [show ¬ k + 1 ≤ k by omega, if_false]; omega
        · intro c hc
          refine ⟨by omega, ?_⟩
          rcases hc with hc | hc
          · exact .inl hc
          · exact .inr ⟨k, hlt, hc⟩
        · by_cases e : i = k
          · subst e
            simp only [Nat.le_refl, if_true, show ¬ i + 1 ≤ i by omega, if_false, hKk]
            refine ⟨g, h, a1, n1, k1, a2, n2, k2, ⟨?_, ?_, ?_, F3.limbs L2 (fun h0 h1 => r.ne h0 h1.1 h1.2), L3, s1, s2, fun h0 => ⟨(r.lg h0).1, fun o => by rw [F.frozen]; exact (r.lg h0).2 o⟩, fun h0 => ⟨(r.lh h0).1, fun o => by rw [F.frozen]; exact (r.lh h0).2 o⟩, r.ne⟩, rfl⟩
            · rw [F3.cell (a := ⟨b, i * 3, none⟩) nb2, F2.cell (a := ⟨b, i * 3, none⟩) nb1]; exact d0
            · rw [hcb _ (by omega)]; exact g1
            · rw [hcb _ (by omega)]; exact g2
          · have hi2 : i < k := by omega
            simp only [show i ≤ k by omega, show i + 1 ≤ k by omega, if_true]
            obtain ⟨g', h', a1', n1', k1', a2', n2', k2', r', e'⟩ := hm i hi2
            exact ⟨g', h', a1', n1', k1', a2', n2', k2', r'.frame F (fun c h1 h3 => by
              rcases h3 with h3 | h3
              · exact D.nb i c (by omega) h1 h3
              · exact e (D.one i k c (by omega) hlt h1 h3)) (fun o h1 h2 => hcb o (by omega)), e'⟩
        · obtain ⟨f', g', h', a1', n1', k1', a2', n2', k2', X', Y', r'⟩ := ho i (by omega) hi'
          exact ⟨f', g', h', a1', n1', k1', a2', n2', k2', X', Y', r'.frame F (fun c h1 h3 => by
            rcases h3 with h3 | h3
            · exact D.nb i c hi' h1 h3
            · have := D.one i k c hi' hlt h1 h3; omega) (fun o h1 h2 => hcb o (by omega))⟩
      case measure => simp [intOf]; omega
    · have e : k = n := by omega
      subst e
      go_wp2
      go_ret
      exact ⟨K, hK0, hK, rfl, hs, hm⟩

set_option maxHeartbeats 1600000 in
set_option maxRecDepth 100000 in
/-- heldRatS at a list whose marks stand. -/
theorem heldRatS_p (a : Option Addr) (b n cap : Nat) (p : Nat → Nat → Prop) (K : Nat → Nat) (k0 : Nat) (w : World) (hn : n ≤ 1048576) (hk0 : k0 ≤ 576460752303423488) (ha : 0 < n → a = some ⟨b, 0, none⟩) (hK0 : K 0 = k0) (H : MarkQ w b n p K) :
    Calls Tryz.prog 40 #[.slice a n cap, .int .i64 k0] w fun e w' => e = .returned (.int .i64 ((K n : Nat) : Int)) ∧ w' = w := by
  go_enter Tryz.func40, Tryz.ntmps40
  go_wp2
  go_loop [1, 5] (fun q i => ∃ k : Nat, k ≤ n ∧ i = .int .i64 k ∧ q = .int .i64 ((K k : Nat) : Int) ∧ K k ≤ k0 + k * 8388609) (fun _ i => n - (intOf i).toNat)
  case atStart => exact ⟨0, Nat.zero_le _, rfl, by rw [hK0], by omega⟩
  case round =>
    obtain ⟨k, hk, rfl, rfl, hK⟩ := hrel
    by_cases hlt : k < n
    · obtain ⟨g, h, a1, n1, k1, a2, n2, k2, r, eK⟩ := H k hlt
      obtain rfl := ha (by omega)
      have g0 := r.c0
      have g1 := r.c1
      have g2 := r.c2
      have s1 := r.s1
      have s2 := r.s2
      have L1 := r.L1
      have L2 := r.L2
      have zK : K k ≤ 1125899906842624000 := by omega
      clear r
      generalize hKk : K k = Kk at *
      have e3 : decide (Kk % 3 = 0) = ((Kk : Int) % 3 == 0) := by
        rw [Bool.eq_iff_iff, beq_iff_eq, decide_eq_true_iff]; omega
      rw [e3] at g0
      go_wp2_with fail
      rw [show ((Kk : Int) + 1) = ((Kk + 1 : Nat) : Int) by omega]
      refine (heldU_any a1 g 0 n1 k1 (Kk + 1) w s1 (by omega) L1).mono ?_
      rintro e w2 ⟨rfl, rfl⟩
      go_wp2_with fail
      refine (heldU_any a2 h 0 n2 k2 (Kk + 1 + n1) _ s2 (by omega) L2).mono ?_
      rintro e w3 ⟨rfl, rfl⟩
      go_wp2
      go_round
      case rel => exact ⟨k + 1, by omega, by go_num, by rw [eK]; go_num, by omega⟩
      case measure => simp [intOf]; omega
    · have e : k = n := by omega
      subst e
      go_wp2
      go_ret
      exact ⟨rfl, rfl⟩

/-- A list in blocks of its own. -/
structure LQ (w : World) (a : Option Addr) (g n : Nat) (p : Nat → Nat → Prop) : Prop where
  ha : 0 < n → a = some ⟨g, 0, none⟩
  f : 0 < n → ∀ o, w.frozen? ⟨g, o, none⟩ = false
  Q : QFrom w g 0 n p
  D : DisP n p g
/-- .. whose marks stand. -/
structure LM (w : World) (a : Option Addr) (g n : Nat) (p : Nat → Nat → Prop) (K : Nat → Nat) : Prop where
  ha : 0 < n → a = some ⟨g, 0, none⟩
  M : MarkQ w g n p K

section
variable {w w' : World} {S : Nat → Prop} {a : Option Addr} {g n : Nat} {p : Nat → Nat → Prop} {K : Nat → Nat}
theorem LQ.frame (h : LQ w a g n p) (F : Fra w w' S) (hS : ∀ q, setQ g n p q → ¬ S q) : LQ w' a g n p :=
  ⟨h.ha, fun h0 o => by rw [F.frozen]; exact h.f h0 o, fun i h1 h2 => by
    obtain ⟨f', g', h', a1', n1', k1', a2', n2', k2', X', Y', r'⟩ := h.Q i h1 h2
    exact ⟨f', g', h', a1', n1', k1', a2', n2', k2', X', Y', r'.frame F (fun c hc => hS c ⟨by omega, .inr ⟨i, h2, hc⟩⟩) (fun o _ _ => F.cell (a := ⟨g, o, none⟩) (hS g ⟨by omega, .inl rfl⟩))⟩, h.D⟩
theorem LM.frame (h : LM w a g n p K) (F : Fra w w' S) (hS : ∀ q, setQ g n p q → ¬ S q) : LM w' a g n p K :=
  ⟨h.ha, fun i h2 => by
    obtain ⟨g', h', a1', n1', k1', a2', n2', k2', r', e'⟩ := h.M i h2
    exact ⟨g', h', a1', n1', k1', a2', n2', k2', r'.frame F (fun c hc => hS c ⟨by omega, .inr ⟨i, h2, hc⟩⟩) (fun o _ _ => F.cell (a := ⟨g, o, none⟩) (hS g ⟨by omega, .inl rfl⟩)), e'⟩⟩
theorem LQ.keep (h : LQ w a g n p) (s : w.Since w.heap.size w') : LQ w' a g n p := by
  refine ⟨h.ha, fun h0 o => ?_, fun i h1 h2 => ?_, h.D⟩
  · obtain ⟨f', g', h', a1', n1', k1', a2', n2', k2', X', Y', r'⟩ := h.Q 0 (Nat.le_refl _) h0
    have lt : g < w.heap.size := World.block_lt_of_cell? _ _ r'.c0
    rw [s.frozen (a := ⟨g, o, none⟩) lt]; exact h.f h0 o
  · obtain ⟨f', g', h', a1', n1', k1', a2', n2', k2', X', Y', r'⟩ := h.Q i h1 h2
    have lt : g < w.heap.size := World.block_lt_of_cell? _ _ r'.c0
    refine ⟨f', g', h', a1', n1', k1', a2', n2', k2', X', Y', (s.cell (a := ⟨g, i * 3, none⟩) lt).trans r'.c0, (s.cell (a := ⟨g, i * 3 + 1, none⟩) lt).trans r'.c1, (s.cell (a := ⟨g, i * 3 + 2, none⟩) lt).trans r'.c2, r'.L1.keep s, r'.L2.keep s, r'.s1, r'.s2, fun h0 => ⟨(r'.lg h0).1, fun o => ?_⟩, fun h0 => ⟨(r'.lh h0).1, fun o => ?_⟩, r'.ne⟩
    · have lt' : g' < w.heap.size := World.block_lt_of_cell? _ _ (r'.L1 0 h0).2
      rw [s.frozen (a := ⟨g', o, none⟩) lt']; exact (r'.lg h0).2 o
    · have lt' : h' < w.heap.size := World.block_lt_of_cell? _ _ (r'.L2 0 h0).2
      rw [s.frozen (a := ⟨h', o, none⟩) lt']; exact (r'.lh h0).2 o
end

theorem markRatS_q {a : Option Addr} {g n : Nat} {p : Nat → Nat → Prop} (cap k0 : Nat) {w : World} (hn : n ≤ 1048576) (hk0 : k0 ≤ 576460752303423488) (H : LQ w a g n p) :
    Calls Tryz.prog 38 #[.slice a n cap, .int .i64 k0] w fun e w' => ∃ K : Nat → Nat, K 0 = k0 ∧ K n ≤ k0 + n * 8388609 ∧ e = .returned (.int .i64 ((K n : Nat) : Int)) ∧ Fra w w' (setQ g n p) ∧ LM w' a g n p K := by
  refine (markRatS_p a g n cap p k0 w hn hk0 H.ha H.D H.f H.Q).mono ?_
  rintro e w' ⟨K, h1, h2, h3, h4, h5⟩
  exact ⟨K, h1, h2, h3, h4, H.ha, h5⟩

end Go.Proofs.YtnogbaapcjjngaaGreatDoor

namespace Go.Proofs.YtnogbaapcjjngaaGreatDoor
open Go.RowKit

/-- An affine map of four cells whose two lists lie in blocks of their own, those of p. -/
structure AQ (w : World) (p : Nat → Prop) (c i : Nat) (v0 v1 : Value) (aW : Option Addr) (gW nW cW : Nat) (pW : Nat → Nat → Prop) (aB : Option Addr) (gB nB cB : Nat) (pB : Nat → Nat → Prop) : Prop where
  c0 : w.cell? ⟨c, i * 4, none⟩ = some v0
  c1 : w.cell? ⟨c, i * 4 + 1, none⟩ = some v1
  c2 : w.cell? ⟨c, i * 4 + 2, none⟩ = some (.slice aW nW cW)
  c3 : w.cell? ⟨c, i * 4 + 3, none⟩ = some (.slice aB nB cB)
  W : LQ w aW gW nW pW
  B : LQ w aB gB nB pB
  dis : ∀ q, setQ gW nW pW q → ¬ setQ gB nB pB q
  inW : ∀ q, setQ gW nW pW q → p q
  inB : ∀ q, setQ gB nB pB q → p q
  sz : nW + nB ≤ 1048576

def NQ (w : World) (c k n : Nat) (p : Nat → Nat → Prop) (z : Nat → Nat) : Prop := ∀ i, k ≤ i → i < n → ∃ v0 v1 aW gW nW cW pW aB gB nB cB pB, AQ w (p i) c i v0 v1 aW gW nW cW pW aB gB nB cB pB ∧ nW + nB ≤ z i
section
variable {w w' : World} {S p : Nat → Prop} {c i K K' : Nat} {v0 v1 : Value} {aW aB : Option Addr} {gW nW cW gB nB cB : Nat} {pW pB : Nat → Nat → Prop} {kW kB : Nat → Nat}
end

theorem cell_els {w : World} (c : Nat) {o o' : Nat} (v : Value) (h : o' ≠ o) : (w.setCell ⟨c, o, none⟩ v).cell? ⟨c, o', none⟩ = w.cell? ⟨c, o', none⟩ :=
  World.cell?_setCell_other _ _ _ _ (fun e => by have := congrArg Addr.off e; simp at this; omega)

/-- A sum of the first i. -/
def psN (z : Nat → Nat) : Nat → Nat
  | 0 => 0
  | i + 1 => psN z i + z i

end Go.Proofs.YtnogbaapcjjngaaGreatDoor

namespace Go.Proofs.YtnogbaapcjjngaaGreatDoor
open Go.RowKit

def usesB (op : Int) : Bool := op == 4

/-- The sources of node i are known. -/
def SrcOk (d : NodeD) (i : Nat) : Prop := 0 ≤ d.a ∧ d.a < i ∧ (usesB d.op = true → 0 ≤ d.b ∧ d.b < i)

/-- The code of a node's shape over its source's dimension. -/
def shapeCode (D : Nat → Int) (d : NodeD) : Int :=
  if d.op = 1 ∧ (d.nv : Int) ≠ d.k * (D d.a.toNat + 1) then 14
  else if d.op = 4 ∧ D d.b.toNat ≠ D d.a.toNat then 14
  else if d.op = 5 ∧ D d.a.toNat % d.k ≠ 0 then 14
  else if d.op = 6 ∧ (d.k > D d.a.toNat ∨ (d.nv : Int) ≠ d.k + 1) then 14
  else if d.op = 7 ∧ (d.V 2).n = 0 then 15
  else 0

/-- The dimension of a node. -/
def nodeDim (D : Nat → Int) (d : NodeD) : Int :=
  if d.op = 1 then d.k else if d.op = 5 then D d.a.toNat / d.k else if d.op = 6 then (D d.a.toNat - d.k) / d.s + 1 else D d.a.toNat

/-- The dimensions of the first nodes: of node 0 .. k. -/
def dimA (g : GraphD) : Nat → Nat → Int
  | 0 => fun _ => g.inn
  | i + 1 => fun j => if j ≤ i then dimA g i j else nodeDim (dimA g i) (g.N i)

end Go.Proofs.YtnogbaapcjjngaaGreatDoor

namespace Go.Proofs.YtnogbaapcjjngaaGreatDoor
open Go.RowKit

/-- The entries of the map of kinds. -/
def kindsE : Array MapEntry := #[⟨.string ⟨#[100, 101, 110, 115, 101]⟩, .func (.func 108) #[] #[], 0⟩, ⟨.string ⟨#[114, 101, 108, 117]⟩, .func (.func 109) #[] #[], 1⟩,
  ⟨.string ⟨#[108, 101, 97, 107, 121]⟩, .func (.func 110) #[] #[], 2⟩, ⟨.string ⟨#[97, 100, 100]⟩, .func (.func 111) #[] #[], 3⟩, ⟨.string ⟨#[109, 97, 120, 112, 111, 111, 108]⟩, .func (.func 112) #[] #[], 4⟩,
  ⟨.string ⟨#[99, 111, 110, 118]⟩, .func (.func 113) #[] #[], 5⟩, ⟨.string ⟨#[110, 111, 114, 109]⟩, .func (.func 114) #[] #[], 6⟩]

/-- Block m is the map of kinds. -/
def Kinds (w : World) (m : Nat) : Prop := w.heap[m]? = some (.map kindsE 7)

theorem Kinds.lt {w : World} {m : Nat} (h : Kinds w m) : m < w.heap.size := (Array.getElem?_eq_some_iff.1 h).1
theorem Kinds.keep {w w' : World} {m : Nat} (h : Kinds w m) (s : w.Since w.heap.size w') : Kinds w' m := by
  unfold Kinds
  rw [s.block m h.lt]
  exact h

/-- A new entry of a map that is keyed by strings. -/
theorem run_insert_new {P : Program} {w : World} {mty kt et : TypeId} {r clock : Nat} {es : Array MapEntry} {s : ByteArray} {val : Value} (hm : P.underlying mty = some (.map kt et)) (hk : P.underlying kt = some .string) (hb : w.heap[r]? = some (.map es clock)) (hf : Instr.findNow .string (.string s) es.toList 0 = some none) :
    ∃ w', (Instr.mapUpdate mty (.map (some r)) (.string s) val).run P w = .ok () w' ∧ w'.heap[r]? = some (.map (es.push { key := .string s, val := val, born := clock }) (clock + 1)) ∧ w'.heap.size = w.heap.size ∧ w'.os = w.os ∧ w'.tape = w.tape ∧ w'.output = w.output ∧ ∀ k, k ≠ r → w'.heap[k]? = w.heap[k]? := by
  refine ⟨{ w with heap := w.heap.setIfInBounds r (.map (es.push { key := .string s, val := val, born := clock }) (clock + 1)) }, ?_, (MapKept.heap_set hb).1, by simp, rfl, rfl, rfl, fun k hk => (MapKept.heap_set hb).2 k hk⟩
  have hc : (Instr.checkKey false 10000 kt (.string s)).run P w = .ok () w := MapKept.run_checkKey (k := .string s) hk (by simp [MapKept.IsKey]) false 9999
  simp [Instr.mapUpdate, run_underlying hm, MapKept.run_getObj_map hb, hc, MapKept.run_findKey hk hf, MapKept.run_setObj_map _ hb, Result.andThen]

/-- A look-up in a map that is keyed by strings. -/
theorem run_look_has {P : Program} {w : World} {mty kt et : TypeId} {r clock i : Nat} {es : Array MapEntry} {s : ByteArray} {val : Value} (hm : P.underlying mty = some (.map kt et)) (hk : P.underlying kt = some .string) (hb : w.heap[r]? = some (.map es clock)) (hf : Instr.findNow .string (.string s) es.toList 0 = some (some (i, val))) :
    (Instr.lookup mty (.map (some r)) (.string s) true).run P w = .ok (.tuple #[val, .bool true]) w := by
  have hc : (Instr.checkKey es.isEmpty 10000 kt (.string s)).run P w = .ok () w := MapKept.run_checkKey (k := .string s) hk (by simp [MapKept.IsKey]) _ 9999
  simp [Instr.lookup, run_underlying hm, MapKept.run_getObj_map hb, hc, MapKept.run_findKey hk hf, Result.andThen]
theorem run_look_no {P : Program} {w : World} {mty kt et : TypeId} {r clock : Nat} {es : Array MapEntry} {s : ByteArray} {z : Value} (hm : P.underlying mty = some (.map kt et)) (hk : P.underlying kt = some .string) (hb : w.heap[r]? = some (.map es clock)) (hf : Instr.findNow .string (.string s) es.toList 0 = some none) (hz : (zeroValue et).run P w = .ok z w) :
    (Instr.lookup mty (.map (some r)) (.string s) true).run P w = .ok (.tuple #[z, .bool false]) w := by
  have hc : (Instr.checkKey es.isEmpty 10000 kt (.string s)).run P w = .ok () w := MapKept.run_checkKey (k := .string s) hk (by simp [MapKept.IsKey]) _ 9999
  simp [Instr.lookup, run_underlying hm, MapKept.run_getObj_map hb, hc, MapKept.run_findKey hk hf, hz, Result.andThen]

set_option maxHeartbeats 1600000 in
set_option maxRecDepth 100000 in
/-- impl.allKinds lays the map of kinds. -/
theorem allKinds_any (w : World) : Calls Tryz.prog 72 #[] w fun e w' => e = .returned (.map (some w.heap.size)) ∧ Kinds w' w.heap.size ∧ w.Since w.heap.size w' := by
  have hmm := @run_makeMap Tryz.prog
  have hm : Tryz.prog.underlying 102 = some (.map 9 143) := by kernel_rfl
  have hk : Tryz.prog.underlying 9 = some .string := by kernel_rfl
  have b0 : (w.alloc (.map #[] 0)).heap[w.heap.size]? = some (.map #[] 0) := (MapKept.heap_alloc w _).1
  have s0 := (World.Since.refl w.heap.size w).alloc (Nat.le_refl _) (.map #[] 0)
  obtain ⟨w1, e1, b1, z1, o1, t1, p1, h1⟩ := run_insert_new (w := (w.alloc (.map #[] 0))) (s := ⟨#[100, 101, 110, 115, 101]⟩) (val := .func (.func 108) #[] #[]) hm hk b0 (by kernel_rfl)
  obtain ⟨w2, e2, b2, z2, o2, t2, p2, h2⟩ := run_insert_new (w := w1) (s := ⟨#[114, 101, 108, 117]⟩) (val := .func (.func 109) #[] #[]) hm hk b1 (by kernel_rfl)
  obtain ⟨w3, e3, b3, z3, o3, t3, p3, h3⟩ := run_insert_new (w := w2) (s := ⟨#[108, 101, 97, 107, 121]⟩) (val := .func (.func 110) #[] #[]) hm hk b2 (by kernel_rfl)
  obtain ⟨w4, e4, b4, z4, o4, t4, p4, h4⟩ := run_insert_new (w := w3) (s := ⟨#[97, 100, 100]⟩) (val := .func (.func 111) #[] #[]) hm hk b3 (by kernel_rfl)
  obtain ⟨w5, e5, b5, z5, o5, t5, p5, h5⟩ := run_insert_new (w := w4) (s := ⟨#[109, 97, 120, 112, 111, 111, 108]⟩) (val := .func (.func 112) #[] #[]) hm hk b4 (by kernel_rfl)
  obtain ⟨w6, e6, b6, z6, o6, t6, p6, h6⟩ := run_insert_new (w := w5) (s := ⟨#[99, 111, 110, 118]⟩) (val := .func (.func 113) #[] #[]) hm hk b5 (by kernel_rfl)
  obtain ⟨w7, e7, b7, z7, o7, t7, p7, h7⟩ := run_insert_new (w := w6) (s := ⟨#[110, 111, 114, 109]⟩) (val := .func (.func 114) #[] #[]) hm hk b6 (by kernel_rfl)
  have S : w.Since w.heap.size w7 := ⟨by rw [o7, o6, o5, o4, o3, o2, o1]; exact s0.os, by rw [t7, t6, t5, t4, t3, t2, t1]; exact s0.tape, by rw [p7, p6, p5, p4, p3, p2, p1]; exact s0.output, by rw [z7, z6, z5, z4, z3, z2, z1]; exact s0.size, fun k hk => by
    rw [h7 k (by omega), h6 k (by omega), h5 k (by omega), h4 k (by omega), h3 k (by omega), h2 k (by omega), h1 k (by omega)]; exact s0.block k hk⟩
  have K : Kinds w7 w.heap.size := b7
  clear h1 h2 h3 h4 h5 h6 h7 p1 p2 p3 p4 p5 p6 p7 t1 t2 t3 t4 t5 t6 t7 o1 o2 o3 o4 o5 o6 o7 z1 z2 z3 z4 z5 z6 z7 b0 b1 b2 b3 b4 b5 b6 b7 s0
  go_enter Tryz.func72, Tryz.ntmps72
  go_wp2
  go_ret
  exact ⟨rfl, K, S⟩

set_option maxHeartbeats 1600000 in
set_option maxRecDepth 100000 in
theorem become1 (v0 v1 v2 v3 v4 : Int) (a1 : Option Addr) (nv k1 : Nat) (w : World) : Calls Tryz.prog 108 #[.agg #[.int .i64 v0, .int .i64 v1, .int .i64 v2, .int .i64 v3, .int .i64 v4, .slice a1 nv k1]] w fun e w' => e = .returned (.iface 142 (.agg #[.int .i64 v0, .int .i64 v1, .int .i64 v2, .int .i64 v3, .int .i64 v4, .slice a1 nv k1])) ∧ w.Since w.heap.size w' := by
  have sA : w.Since w.heap.size (w.alloc (.cells #[.int .i64 v0, .int .i64 v1, .int .i64 v2, .int .i64 v3, .int .i64 v4, .slice a1 nv k1] 64)) := (World.Since.refl _ _).alloc (Nat.le_refl _) _
  go_enter Tryz.func108, Tryz.ntmps108
  go_wp2
  go_ret
  exact ⟨rfl, sA⟩

set_option maxHeartbeats 1600000 in
set_option maxRecDepth 100000 in
theorem become2 (v0 v1 v2 v3 v4 : Int) (a1 : Option Addr) (nv k1 : Nat) (w : World) : Calls Tryz.prog 109 #[.agg #[.int .i64 v0, .int .i64 v1, .int .i64 v2, .int .i64 v3, .int .i64 v4, .slice a1 nv k1]] w fun e w' => e = .returned (.iface 144 (.agg #[.int .i64 v0, .int .i64 v1, .int .i64 v2, .int .i64 v3, .int .i64 v4, .slice a1 nv k1])) ∧ w.Since w.heap.size w' := by
  have sA : w.Since w.heap.size (w.alloc (.cells #[.int .i64 v0, .int .i64 v1, .int .i64 v2, .int .i64 v3, .int .i64 v4, .slice a1 nv k1] 64)) := (World.Since.refl _ _).alloc (Nat.le_refl _) _
  go_enter Tryz.func109, Tryz.ntmps109
  go_wp2
  go_ret
  exact ⟨rfl, sA⟩

set_option maxHeartbeats 1600000 in
set_option maxRecDepth 100000 in
theorem become3 (v0 v1 v2 v3 v4 : Int) (a1 : Option Addr) (nv k1 : Nat) (w : World) : Calls Tryz.prog 110 #[.agg #[.int .i64 v0, .int .i64 v1, .int .i64 v2, .int .i64 v3, .int .i64 v4, .slice a1 nv k1]] w fun e w' => e = .returned (.iface 145 (.agg #[.int .i64 v0, .int .i64 v1, .int .i64 v2, .int .i64 v3, .int .i64 v4, .slice a1 nv k1])) ∧ w.Since w.heap.size w' := by
  have sA : w.Since w.heap.size (w.alloc (.cells #[.int .i64 v0, .int .i64 v1, .int .i64 v2, .int .i64 v3, .int .i64 v4, .slice a1 nv k1] 64)) := (World.Since.refl _ _).alloc (Nat.le_refl _) _
  go_enter Tryz.func110, Tryz.ntmps110
  go_wp2
  go_ret
  exact ⟨rfl, sA⟩

set_option maxHeartbeats 1600000 in
set_option maxRecDepth 100000 in
theorem become4 (v0 v1 v2 v3 v4 : Int) (a1 : Option Addr) (nv k1 : Nat) (w : World) : Calls Tryz.prog 111 #[.agg #[.int .i64 v0, .int .i64 v1, .int .i64 v2, .int .i64 v3, .int .i64 v4, .slice a1 nv k1]] w fun e w' => e = .returned (.iface 146 (.agg #[.int .i64 v0, .int .i64 v1, .int .i64 v2, .int .i64 v3, .int .i64 v4, .slice a1 nv k1])) ∧ w.Since w.heap.size w' := by
  have sA : w.Since w.heap.size (w.alloc (.cells #[.int .i64 v0, .int .i64 v1, .int .i64 v2, .int .i64 v3, .int .i64 v4, .slice a1 nv k1] 64)) := (World.Since.refl _ _).alloc (Nat.le_refl _) _
  go_enter Tryz.func111, Tryz.ntmps111
  go_wp2
  go_ret
  exact ⟨rfl, sA⟩

set_option maxHeartbeats 1600000 in
set_option maxRecDepth 100000 in
theorem become5 (v0 v1 v2 v3 v4 : Int) (a1 : Option Addr) (nv k1 : Nat) (w : World) : Calls Tryz.prog 112 #[.agg #[.int .i64 v0, .int .i64 v1, .int .i64 v2, .int .i64 v3, .int .i64 v4, .slice a1 nv k1]] w fun e w' => e = .returned (.iface 147 (.agg #[.int .i64 v0, .int .i64 v1, .int .i64 v2, .int .i64 v3, .int .i64 v4, .slice a1 nv k1])) ∧ w.Since w.heap.size w' := by
  have sA : w.Since w.heap.size (w.alloc (.cells #[.int .i64 v0, .int .i64 v1, .int .i64 v2, .int .i64 v3, .int .i64 v4, .slice a1 nv k1] 64)) := (World.Since.refl _ _).alloc (Nat.le_refl _) _
  go_enter Tryz.func112, Tryz.ntmps112
  go_wp2
  go_ret
  exact ⟨rfl, sA⟩

set_option maxHeartbeats 1600000 in
set_option maxRecDepth 100000 in
theorem become6 (v0 v1 v2 v3 v4 : Int) (a1 : Option Addr) (nv k1 : Nat) (w : World) : Calls Tryz.prog 113 #[.agg #[.int .i64 v0, .int .i64 v1, .int .i64 v2, .int .i64 v3, .int .i64 v4, .slice a1 nv k1]] w fun e w' => e = .returned (.iface 148 (.agg #[.int .i64 v0, .int .i64 v1, .int .i64 v2, .int .i64 v3, .int .i64 v4, .slice a1 nv k1])) ∧ w.Since w.heap.size w' := by
  have sA : w.Since w.heap.size (w.alloc (.cells #[.int .i64 v0, .int .i64 v1, .int .i64 v2, .int .i64 v3, .int .i64 v4, .slice a1 nv k1] 64)) := (World.Since.refl _ _).alloc (Nat.le_refl _) _
  go_enter Tryz.func113, Tryz.ntmps113
  go_wp2
  go_ret
  exact ⟨rfl, sA⟩

set_option maxHeartbeats 1600000 in
set_option maxRecDepth 100000 in
theorem become7 (v0 v1 v2 v3 v4 : Int) (a1 : Option Addr) (nv k1 : Nat) (w : World) : Calls Tryz.prog 114 #[.agg #[.int .i64 v0, .int .i64 v1, .int .i64 v2, .int .i64 v3, .int .i64 v4, .slice a1 nv k1]] w fun e w' => e = .returned (.iface 149 (.agg #[.int .i64 v0, .int .i64 v1, .int .i64 v2, .int .i64 v3, .int .i64 v4, .slice a1 nv k1])) ∧ w.Since w.heap.size w' := by
  have sA : w.Since w.heap.size (w.alloc (.cells #[.int .i64 v0, .int .i64 v1, .int .i64 v2, .int .i64 v3, .int .i64 v4, .slice a1 nv k1] 64)) := (World.Since.refl _ _).alloc (Nat.le_refl _) _
  go_enter Tryz.func114, Tryz.ntmps114
  go_wp2
  go_ret
  exact ⟨rfl, sA⟩

end Go.Proofs.YtnogbaapcjjngaaGreatDoor

namespace Go.Proofs.YtnogbaapcjjngaaGreatDoor
open Go.RowKit

theorem kinds_under : Tryz.prog.underlying 102 = some (.map 9 143) := by kernel_rfl
theorem string_under : Tryz.prog.underlying 9 = some .string := by kernel_rfl

theorem size_form : (Tryz.prog.info? 152).map (·.size) = some 5 := by kernel_rfl

set_option maxHeartbeats 1600000 in
set_option maxRecDepth 100000 in
theorem form1 (v0 v1 v2 v3 v4 : Int) (a1 : Option Addr) (nv k1 : Nat) (w : World) : Calls Tryz.prog 262 #[.agg #[.int .i64 v0, .int .i64 v1, .int .i64 v2, .int .i64 v3, .int .i64 v4, .slice a1 nv k1]] w fun e w' => e = .returned (.agg #[.int .i64 1, .bool false, .bool true, .bool false, .int .i64 (-1)]) ∧ w.Since w.heap.size w' := by
  have sA : w.Since w.heap.size ((w.alloc (.cells #[.int .i64 v0, .int .i64 v1, .int .i64 v2, .int .i64 v3, .int .i64 v4, .slice a1 nv k1] 142)).alloc (.cells #[.int .i64 1, .bool false, .bool true, .bool false, .int .i64 (-1)] 152)) := ((World.Since.refl _ _).alloc (Nat.le_refl _) _).alloc (by simp) _
  have bA : Box5 ((w.alloc (.cells #[.int .i64 v0, .int .i64 v1, .int .i64 v2, .int .i64 v3, .int .i64 v4, .slice a1 nv k1] 142)).alloc (.cells #[.int .i64 1, .bool false, .bool true, .bool false, .int .i64 (-1)] 152)) (w.heap.size + 1) (.int .i64 1) (.bool false) (.bool true) (.bool false) (.int .i64 (-1)) := by
    have := Box5.new (w.alloc (.cells #[.int .i64 v0, .int .i64 v1, .int .i64 v2, .int .i64 v3, .int .i64 v4, .slice a1 nv k1] 142)) (.int .i64 1) (.bool false) (.bool true) (.bool false) (.int .i64 (-1)) 152
    simpa using this
  go_enter Tryz.func262, Tryz.ntmps262
  go_wp2
  exact bodyPost_ret (results_box5T rfl Tryz.underlying152 rfl size_form _ _ _ _ _ _ _ _ rfl bA) rfl ⟨rfl, sA⟩

set_option maxHeartbeats 1600000 in
set_option maxRecDepth 100000 in
theorem form2 (v0 v1 v2 v3 v4 : Int) (a1 : Option Addr) (nv k1 : Nat) (w : World) : Calls Tryz.prog 265 #[.agg #[.int .i64 v0, .int .i64 v1, .int .i64 v2, .int .i64 v3, .int .i64 v4, .slice a1 nv k1]] w fun e w' => e = .returned (.agg #[.int .i64 2, .bool false, .bool false, .bool false, .int .i64 0]) ∧ w.Since w.heap.size w' := by
  have sA : w.Since w.heap.size ((w.alloc (.cells #[.int .i64 v0, .int .i64 v1, .int .i64 v2, .int .i64 v3, .int .i64 v4, .slice a1 nv k1] 144)).alloc (.cells #[.int .i64 2, .bool false, .bool false, .bool false, .int .i64 0] 152)) := ((World.Since.refl _ _).alloc (Nat.le_refl _) _).alloc (by simp) _
  have bA : Box5 ((w.alloc (.cells #[.int .i64 v0, .int .i64 v1, .int .i64 v2, .int .i64 v3, .int .i64 v4, .slice a1 nv k1] 144)).alloc (.cells #[.int .i64 2, .bool false, .bool false, .bool false, .int .i64 0] 152)) (w.heap.size + 1) (.int .i64 2) (.bool false) (.bool false) (.bool false) (.int .i64 0) := by
    have := Box5.new (w.alloc (.cells #[.int .i64 v0, .int .i64 v1, .int .i64 v2, .int .i64 v3, .int .i64 v4, .slice a1 nv k1] 144)) (.int .i64 2) (.bool false) (.bool false) (.bool false) (.int .i64 0) 152
    simpa using this
  go_enter Tryz.func265, Tryz.ntmps265
  go_wp2
  exact bodyPost_ret (results_box5T rfl Tryz.underlying152 rfl size_form _ _ _ _ _ _ _ _ rfl bA) rfl ⟨rfl, sA⟩

set_option maxHeartbeats 1600000 in
set_option maxRecDepth 100000 in
theorem form3 (v0 v1 v2 v3 v4 : Int) (a1 : Option Addr) (nv k1 : Nat) (w : World) : Calls Tryz.prog 268 #[.agg #[.int .i64 v0, .int .i64 v1, .int .i64 v2, .int .i64 v3, .int .i64 v4, .slice a1 nv k1]] w fun e w' => e = .returned (.agg #[.int .i64 3, .bool false, .bool false, .bool false, .int .i64 1]) ∧ w.Since w.heap.size w' := by
  have sA : w.Since w.heap.size ((w.alloc (.cells #[.int .i64 v0, .int .i64 v1, .int .i64 v2, .int .i64 v3, .int .i64 v4, .slice a1 nv k1] 145)).alloc (.cells #[.int .i64 3, .bool false, .bool false, .bool false, .int .i64 1] 152)) := ((World.Since.refl _ _).alloc (Nat.le_refl _) _).alloc (by simp) _
  have bA : Box5 ((w.alloc (.cells #[.int .i64 v0, .int .i64 v1, .int .i64 v2, .int .i64 v3, .int .i64 v4, .slice a1 nv k1] 145)).alloc (.cells #[.int .i64 3, .bool false, .bool false, .bool false, .int .i64 1] 152)) (w.heap.size + 1) (.int .i64 3) (.bool false) (.bool false) (.bool false) (.int .i64 1) := by
    have := Box5.new (w.alloc (.cells #[.int .i64 v0, .int .i64 v1, .int .i64 v2, .int .i64 v3, .int .i64 v4, .slice a1 nv k1] 145)) (.int .i64 3) (.bool false) (.bool false) (.bool false) (.int .i64 1) 152
    simpa using this
  go_enter Tryz.func268, Tryz.ntmps268
  go_wp2
  exact bodyPost_ret (results_box5T rfl Tryz.underlying152 rfl size_form _ _ _ _ _ _ _ _ rfl bA) rfl ⟨rfl, sA⟩

set_option maxHeartbeats 1600000 in
set_option maxRecDepth 100000 in
theorem form4 (v0 v1 v2 v3 v4 : Int) (a1 : Option Addr) (nv k1 : Nat) (w : World) : Calls Tryz.prog 271 #[.agg #[.int .i64 v0, .int .i64 v1, .int .i64 v2, .int .i64 v3, .int .i64 v4, .slice a1 nv k1]] w fun e w' => e = .returned (.agg #[.int .i64 4, .bool true, .bool false, .bool false, .int .i64 0]) ∧ w.Since w.heap.size w' := by
  have sA : w.Since w.heap.size ((w.alloc (.cells #[.int .i64 v0, .int .i64 v1, .int .i64 v2, .int .i64 v3, .int .i64 v4, .slice a1 nv k1] 146)).alloc (.cells #[.int .i64 4, .bool true, .bool false, .bool false, .int .i64 0] 152)) := ((World.Since.refl _ _).alloc (Nat.le_refl _) _).alloc (by simp) _
  have bA : Box5 ((w.alloc (.cells #[.int .i64 v0, .int .i64 v1, .int .i64 v2, .int .i64 v3, .int .i64 v4, .slice a1 nv k1] 146)).alloc (.cells #[.int .i64 4, .bool true, .bool false, .bool false, .int .i64 0] 152)) (w.heap.size + 1) (.int .i64 4) (.bool true) (.bool false) (.bool false) (.int .i64 0) := by
    have := Box5.new (w.alloc (.cells #[.int .i64 v0, .int .i64 v1, .int .i64 v2, .int .i64 v3, .int .i64 v4, .slice a1 nv k1] 146)) (.int .i64 4) (.bool true) (.bool false) (.bool false) (.int .i64 0) 152
    simpa using this
  go_enter Tryz.func271, Tryz.ntmps271
  go_wp2
  exact bodyPost_ret (results_box5T rfl Tryz.underlying152 rfl size_form _ _ _ _ _ _ _ _ rfl bA) rfl ⟨rfl, sA⟩

set_option maxHeartbeats 1600000 in
set_option maxRecDepth 100000 in
theorem form5 (v0 v1 v2 v3 v4 : Int) (a1 : Option Addr) (nv k1 : Nat) (w : World) : Calls Tryz.prog 274 #[.agg #[.int .i64 v0, .int .i64 v1, .int .i64 v2, .int .i64 v3, .int .i64 v4, .slice a1 nv k1]] w fun e w' => e = .returned (.agg #[.int .i64 5, .bool false, .bool true, .bool false, .int .i64 0]) ∧ w.Since w.heap.size w' := by
  have sA : w.Since w.heap.size ((w.alloc (.cells #[.int .i64 v0, .int .i64 v1, .int .i64 v2, .int .i64 v3, .int .i64 v4, .slice a1 nv k1] 147)).alloc (.cells #[.int .i64 5, .bool false, .bool true, .bool false, .int .i64 0] 152)) := ((World.Since.refl _ _).alloc (Nat.le_refl _) _).alloc (by simp) _
  have bA : Box5 ((w.alloc (.cells #[.int .i64 v0, .int .i64 v1, .int .i64 v2, .int .i64 v3, .int .i64 v4, .slice a1 nv k1] 147)).alloc (.cells #[.int .i64 5, .bool false, .bool true, .bool false, .int .i64 0] 152)) (w.heap.size + 1) (.int .i64 5) (.bool false) (.bool true) (.bool false) (.int .i64 0) := by
    have := Box5.new (w.alloc (.cells #[.int .i64 v0, .int .i64 v1, .int .i64 v2, .int .i64 v3, .int .i64 v4, .slice a1 nv k1] 147)) (.int .i64 5) (.bool false) (.bool true) (.bool false) (.int .i64 0) 152
    simpa using this
  go_enter Tryz.func274, Tryz.ntmps274
  go_wp2
  exact bodyPost_ret (results_box5T rfl Tryz.underlying152 rfl size_form _ _ _ _ _ _ _ _ rfl bA) rfl ⟨rfl, sA⟩

set_option maxHeartbeats 1600000 in
set_option maxRecDepth 100000 in
theorem form6 (v0 v1 v2 v3 v4 : Int) (a1 : Option Addr) (nv k1 : Nat) (w : World) : Calls Tryz.prog 277 #[.agg #[.int .i64 v0, .int .i64 v1, .int .i64 v2, .int .i64 v3, .int .i64 v4, .slice a1 nv k1]] w fun e w' => e = .returned (.agg #[.int .i64 6, .bool false, .bool true, .bool true, .int .i64 (-1)]) ∧ w.Since w.heap.size w' := by
  have sA : w.Since w.heap.size ((w.alloc (.cells #[.int .i64 v0, .int .i64 v1, .int .i64 v2, .int .i64 v3, .int .i64 v4, .slice a1 nv k1] 148)).alloc (.cells #[.int .i64 6, .bool false, .bool true, .bool true, .int .i64 (-1)] 152)) := ((World.Since.refl _ _).alloc (Nat.le_refl _) _).alloc (by simp) _
  have bA : Box5 ((w.alloc (.cells #[.int .i64 v0, .int .i64 v1, .int .i64 v2, .int .i64 v3, .int .i64 v4, .slice a1 nv k1] 148)).alloc (.cells #[.int .i64 6, .bool false, .bool true, .bool true, .int .i64 (-1)] 152)) (w.heap.size + 1) (.int .i64 6) (.bool false) (.bool true) (.bool true) (.int .i64 (-1)) := by
    have := Box5.new (w.alloc (.cells #[.int .i64 v0, .int .i64 v1, .int .i64 v2, .int .i64 v3, .int .i64 v4, .slice a1 nv k1] 148)) (.int .i64 6) (.bool false) (.bool true) (.bool true) (.int .i64 (-1)) 152
    simpa using this
  go_enter Tryz.func277, Tryz.ntmps277
  go_wp2
  exact bodyPost_ret (results_box5T rfl Tryz.underlying152 rfl size_form _ _ _ _ _ _ _ _ rfl bA) rfl ⟨rfl, sA⟩

set_option maxHeartbeats 1600000 in
set_option maxRecDepth 100000 in
theorem form7 (v0 v1 v2 v3 v4 : Int) (a1 : Option Addr) (nv k1 : Nat) (w : World) : Calls Tryz.prog 280 #[.agg #[.int .i64 v0, .int .i64 v1, .int .i64 v2, .int .i64 v3, .int .i64 v4, .slice a1 nv k1]] w fun e w' => e = .returned (.agg #[.int .i64 7, .bool false, .bool false, .bool false, .int .i64 4]) ∧ w.Since w.heap.size w' := by
  have sA : w.Since w.heap.size ((w.alloc (.cells #[.int .i64 v0, .int .i64 v1, .int .i64 v2, .int .i64 v3, .int .i64 v4, .slice a1 nv k1] 149)).alloc (.cells #[.int .i64 7, .bool false, .bool false, .bool false, .int .i64 4] 152)) := ((World.Since.refl _ _).alloc (Nat.le_refl _) _).alloc (by simp) _
  have bA : Box5 ((w.alloc (.cells #[.int .i64 v0, .int .i64 v1, .int .i64 v2, .int .i64 v3, .int .i64 v4, .slice a1 nv k1] 149)).alloc (.cells #[.int .i64 7, .bool false, .bool false, .bool false, .int .i64 4] 152)) (w.heap.size + 1) (.int .i64 7) (.bool false) (.bool false) (.bool false) (.int .i64 4) := by
    have := Box5.new (w.alloc (.cells #[.int .i64 v0, .int .i64 v1, .int .i64 v2, .int .i64 v3, .int .i64 v4, .slice a1 nv k1] 149)) (.int .i64 7) (.bool false) (.bool false) (.bool false) (.int .i64 4) 152
    simpa using this
  go_enter Tryz.func280, Tryz.ntmps280
  go_wp2
  exact bodyPost_ret (results_box5T rfl Tryz.underlying152 rfl size_form _ _ _ _ _ _ _ _ rfl bA) rfl ⟨rfl, sA⟩

end Go.Proofs.YtnogbaapcjjngaaGreatDoor
