import Derived.Test.YtigggjcnnlidgaaU4
import Derived.Test.YtigggjcnnlidgaaU5
import Derived.Test.YtigggjcnnlidgaaU6
import Derived.Test.YtigggjcnnlidgaaU7
import Derived.Test.YtigggjcnnlidgaaV2
import Derived.Test.YtigggjcnnlidgaaMath6
namespace Go.Proofs.Ytigggjcnnlidgaa
open Go.RowKit

/-- What a method leaves of old memory whose receiver lies at ⟨c, o⟩ and whose receiver's limbs lie in block b: every other block, and every other cell of block c, as it was. -/
structure Fr (c o b : Nat) (w w' : World) : Prop where
  os : w'.os = w.os
  tape : w'.tape = w.tape
  output : w'.output = w.output
  size : w.heap.size ≤ w'.heap.size
  block : ∀ k, k < w.heap.size → k ≠ c → k ≠ b → w'.heap[k]? = w.heap[k]?
  cell : ∀ x, x ≠ o → w'.cell? ⟨c, x, none⟩ = w.cell? ⟨c, x, none⟩
  frozen : ∀ x, w'.frozen? ⟨c, x, none⟩ = w.frozen? ⟨c, x, none⟩
  lt : c < w.heap.size

section
variable {c o b : Nat} {w w1 w2 : World}

theorem Fr.refl (o b : Nat) (h : c < w.heap.size) : Fr c o b w w := ⟨rfl, rfl, rfl, Nat.le_refl _, fun _ _ _ _ => rfl, fun _ _ => rfl, fun _ => rfl, h⟩

theorem Fr.since (h : Fr c o b w w1) (s : w1.Since w1.heap.size w2) : Fr c o b w w2 := by
  have hc : c < w1.heap.size := Nat.lt_of_lt_of_le h.lt h.size
  exact ⟨s.os.trans h.os, s.tape.trans h.tape, s.output.trans h.output, Nat.le_trans h.size s.size, fun k k1 k2 k3 => (s.block k (Nat.lt_of_lt_of_le k1 h.size)).trans (h.block k k1 k2 k3),
    fun x hx => (s.cell (a := ⟨c, x, none⟩) hc).trans (h.cell x hx), fun x => (s.frozen (a := ⟨c, x, none⟩) hc).trans (h.frozen x), h.lt⟩

theorem Fr.same (h : Fr c o b w w1) (s : Same w1 w2) : Fr c o b w w2 := h.since (s.since _)

theorem Fr.set (h : Fr c o b w w1) (v : Value) : Fr c o b w (w1.setCell ⟨c, o, none⟩ v) :=
  ⟨h.os, h.tape, h.output, Nat.le_trans h.size (by simp [World.setCell]), fun k k1 k2 k3 => (Below.heap_setCell _ _ _ _ k2).trans (h.block k k1 k2 k3),
    fun x hx => by rw [World.cell?_setCell_other _ _ _ _ (fun e => by have := congrArg Addr.off e; simp at this; omega)]; exact h.cell x hx, fun x => by simp [h.frozen x], h.lt⟩

theorem Fr.setNew (h : Fr c o b w w1) {g x : Nat} (hg : g = b ∨ w.heap.size ≤ g) (hgc : g ≠ c) (v : Value) : Fr c o b w (w1.setCell ⟨g, x, none⟩ v) :=
  ⟨h.os, h.tape, h.output, Nat.le_trans h.size (by simp [World.setCell]), fun k k1 k2 k3 => (Below.heap_setCell _ _ _ _ (show k ≠ g by omega)).trans (h.block k k1 k2 k3),
    fun y hy => by rw [World.cell?_setCell_other _ _ _ _ (fun e => by have := congrArg Addr.block e; simp at this; omega)]; exact h.cell y hy, fun y => by simp [h.frozen y], h.lt⟩

theorem Fr.marked (h : Fr c o b w w1) {g : Nat} (m : Marked w1 w2 g) (hg : g = b ∨ w.heap.size ≤ g) (hgc : g ≠ c) : Fr c o b w w2 :=
  ⟨m.os.trans h.os, m.tape.trans h.tape, m.output.trans h.output, by rw [m.size]; exact h.size, fun k k1 k2 k3 => (m.other k (by omega)).trans (h.block k k1 k2 k3),
    fun x hx => (m.cell (a := ⟨c, x, none⟩) (Ne.symm hgc)).trans (h.cell x hx), fun x => (m.frozenO (a := ⟨c, x, none⟩) (Ne.symm hgc)).trans (h.frozen x), h.lt⟩

theorem Fr.alloc (h : Fr c o b w w1) (x : Obj) : Fr c o b w (w1.alloc x) := h.since ((World.Since.refl _ _).alloc (Nat.le_refl _) _)

theorem Fr.grown (h : Fr c o b w w1) {row : Option Nat} (hg : w1.grownBy w2 row) (hr : ∀ k, row = some k → w.heap.size ≤ k) : Fr c o b w w2 := by
  have hc : c < w1.heap.size := Nat.lt_of_lt_of_le h.lt h.size
  have hcr : some c ≠ row := fun e => by have := hr c e.symm; have := h.lt; omega
  have hb := hg.block c hc hcr
  exact ⟨hg.os.trans h.os, hg.tape.trans h.tape, hg.output.trans h.output, Nat.le_trans h.size hg.size,
    fun k k1 k2 k3 => (hg.block k (Nat.lt_of_lt_of_le k1 h.size) (fun e => by have := hr k e.symm; omega)).trans (h.block k k1 k2 k3),
    fun x hx => (World.cell?_of_block (w := w1) (a := ⟨c, x, none⟩) hb).trans (h.cell x hx), fun x => (World.frozen?_of_block (w := w1) (a := ⟨c, x, none⟩) hb).trans (h.frozen x), h.lt⟩
end

theorem row_own {w : World} {base g t cap : Nat} {S : Nat → Nat} (hr : w.rowIs g 33 cap (fun j => .int .u32 (S j))) (ht : t ≤ cap) (hc : cap ≤ maxLen) (hb : base ≤ g) : w.ownsRow base 33 1 (.slice (some ⟨g, 0, none⟩) t cap) t (ll S t) := by
  obtain ⟨cur, h1, h2, h3⟩ := hr
  refine ⟨by rw [ll_len]; omega, .inr ⟨g, cap, cur, rfl, hb, h1, ht, hc, by omega, ?_⟩⟩
  apply List.ext_getElem?
  intro i
  rw [Nat.mul_one]
  by_cases hi : i < t
  · rw [ll_get S t i hi, List.getElem?_take, if_pos hi]
    have := h3 i (by omega)
    simpa using this
  · rw [List.getElem?_eq_none (by rw [List.length_take]; omega), List.getElem?_eq_none (by rw [ll_len]; omega)]

theorem own_limbs_some {w : World} {base : Nat} {v : Value} {m : Nat} {X : Nat → Nat} (h : w.ownsRow base 33 1 v m (ll X m)) (hv : v ≠ .slice none 0 0) :
    ∃ g cap, v = .slice (some ⟨g, 0, none⟩) m cap ∧ m ≤ cap ∧ base ≤ g ∧ g < w.heap.size ∧ Limbs w (some ⟨g, 0, none⟩) g 0 m X ∧ (∀ o, w.frozen? ⟨g, o, none⟩ = false) := by
  have hc := @World.ownsRow.cells _ _ _ _ _ _ _ h
  rcases h.2 with ⟨rfl, rfl⟩ | ⟨g, cap, cur, rfl, hb, hg, hm, _⟩
  · exact absurd rfl hv
  · refine ⟨g, cap, rfl, hm, hb, (Array.getElem?_eq_some_iff.1 hg).1, fun j hj => ⟨rfl, ?_⟩, fun o => by simp [World.frozen?, hg]⟩
    have := hc (g := g) rfl j _ (ll_get X m j hj)
    rw [Addr.add_lit] at this; exact this

theorem ll_congr {B C : Nat → Nat} {m : Nat} (h : ∀ j, j < m → B j = C j) : ll B m = ll C m := by
  unfold ll
  exact List.map_congr_left (fun j hj => by rw [h j (List.mem_range.1 hj)])

theorem ll_capped (S : Nat → Nat) (t : Nat) : ll (capped S t) (t + 1) = ll S t ++ [.int .u32 0] := by
  rw [ll_succ, capped_top, ll_congr (fun j hj => show capped S t j = S j by simp [capped, hj])]
  rfl

set_option maxHeartbeats 400000 in
theorem shiftLeft_small (c o : Nat) (a : Option Addr) (b off n cap s : Nat) (X : Nat → Nat) (w : World) (hn : n ≤ 4194304) (hp : s < 32) (hX : Limbs w a b off n X)
    (hXl : ∀ j, j < n → X j < 4294967296) (hc0 : w.cell? ⟨c, o, none⟩ = some (.slice a n cap)) (hf0 : w.frozen? ⟨c, o, none⟩ = false) :
    Calls Try.prog 32 #[.pointer (some ⟨c, o, none⟩), .int .i64 (s : Int)] w fun e w' => e = .returned (.tuple #[]) ∧ ∃ w2 S, w.Since w.heap.size w2 ∧ w2.rowIs w.heap.size 33 (n + 1) (fun j => .int .u32 (S j : Nat)) ∧
      (∀ k, S k < 4294967296) ∧ lv S (n + 1) = lv X n * 2 ^ s ∧ w' = w2.setCell ⟨c, o, none⟩ (.slice (some ⟨w.heap.size, 0, none⟩) (tlen (nz S) (n + 1)) (n + 1)) := by
  have h := shiftLeft_any c o a b off n cap 0 s X w hn (by omega) hp hX hXl hc0 hf0
  simp only [Nat.mul_zero, Nat.zero_add, Nat.add_zero] at h
  exact h

set_option maxHeartbeats 400000 in
theorem shiftRight_small (c o : Nat) (b n cap s : Nat) (X : Nat → Nat) (w : World) (hn : n ≤ 16777216) (hnc : n ≤ cap) (hw : 0 < n) (hp : s < 32) (hX : Limbs w (some ⟨b, 0, none⟩) b 0 n X)
    (hXl : ∀ j, j < n → X j < 4294967296) (hc0 : w.cell? ⟨c, o, none⟩ = some (.slice (some ⟨b, 0, none⟩) n cap)) (hf0 : w.frozen? ⟨c, o, none⟩ = false) (hf : ∀ o, w.frozen? ⟨b, o, none⟩ = false) (hcb : c ≠ b) :
    Calls Try.prog 36 #[.pointer (some ⟨c, o, none⟩), .int .i64 (s : Int)] w fun e w' => e = .returned (.tuple #[]) ∧ ∃ w2 S k, Marked w w2 b ∧ Limbs w2 (some ⟨b, 0, none⟩) b 0 k S ∧
      k ≤ n ∧ (∀ j, j < k → S j < 4294967296) ∧ lv S k = lv X n / 2 ^ s ∧ w' = w2.setCell ⟨c, o, none⟩ (.slice (some ⟨b, 0, none⟩) (tlen (nz S) k) cap) := by
  have h := shiftRight_any c o b n cap 0 s X w hn hnc hw hp hX hXl hc0 hf0 hf hcb
  simp only [Nat.mul_zero, Nat.zero_add] at h
  exact h

end Go.Proofs.Ytigggjcnnlidgaa
