import Derived.Test.YtickondjmilehabDoorUA
namespace Go.Proofs.YtickondjmilehabDoor
open Go.RowKit

theorem Fr.to_since {c o b : Nat} {w w1 w2 : World} (h : Fr c o b w1 w2) (s : w.Since w.heap.size w1) (hc : w.heap.size ≤ c) (hb : w.heap.size ≤ b) : w.Since w.heap.size w2 :=
  ⟨h.os.trans s.os, h.tape.trans s.tape, h.output.trans s.output, Nat.le_trans s.size h.size, fun k hk => (h.block k (Nat.lt_of_lt_of_le hk s.size) (by omega) (by omega)).trans (s.block k hk)⟩

/-- A list that was made by append: a new natural. -/
theorem own_nat {w : World} {base : Nat} {v : Value} {m : Nat} {X : Nat → Nat} (h : w.ownsRow base 49 1 v m (ll X m)) (far : Nat) (hfar : base ≤ far) :
    ∃ a g cap, v = .slice a m cap ∧ m ≤ cap ∧ (a = none → cap = 0) ∧ base ≤ g ∧ (g = far ∨ g < w.heap.size) ∧ (0 < m → g < w.heap.size) ∧ Limbs w a g 0 m X ∧ (0 < m → ∀ o, w.frozen? ⟨g, o, none⟩ = false) := by
  have hc := @World.ownsRow.cells _ _ _ _ _ _ _ h
  rcases h.2 with ⟨rfl, rfl⟩ | ⟨g, cap, cur, rfl, hb, hg, hm, _⟩
  · exact ⟨none, far, 0, rfl, Nat.le_refl _, fun _ => rfl, hfar, Or.inl rfl, fun h => absurd h (by omega), fun j hj => absurd hj (by omega), fun h => absurd h (by omega)⟩
  · have hlt := (Array.getElem?_eq_some_iff.1 hg).1
    refine ⟨_, g, cap, rfl, hm, fun h => (by cases h), hb, Or.inr hlt, fun _ => hlt, fun j hj => ⟨rfl, ?_⟩, fun _ o => by simp [World.frozen?, hg]⟩
    have := hc (g := g) rfl j _ (ll_get X m j hj)
    rw [Addr.add_lit] at this; exact this

theorem lv_nought {X : Nat → Nat} {n : Nat} (h : lv X n = 0) : tlen (nz X) n = 0 := by
  by_cases e : tlen (nz X) n = 0
  · exact e
  · have h1 := tlen_top (nz X) n (by omega)
    have h2 := lv_ge X (tlen (nz X) n) (by omega) (by simpa [nz] using h1)
    rw [lv_tlen, h] at h2
    have := Nat.pow_pos (n := 32 * (tlen (nz X) n - 1)) (show 0 < 2 by omega)
    omega

theorem lv_some {X : Nat → Nat} {n : Nat} (h : 0 < lv X n) : 0 < tlen (nz X) n := by
  by_cases e : tlen (nz X) n = 0
  · have := lv_tlen X n
    rw [e] at this
    simp [lv] at this
    omega
  · omega

theorem NatAt.since {w w' : World} {v : Value} {g N M B : Nat} (h : NatAt w v g N M) (s : w.Since B w') (hg : g < B) : NatAt w' v g N M := by
  obtain ⟨a, m, cap, Y, h1, h2, h3, h4, h5, h6, h7⟩ := h
  exact ⟨a, m, cap, Y, h1, h2, h3, h4, h5.since s (fun _ => hg), fun h x => by rw [s.frozen (a := ⟨g, x, none⟩) hg]; exact h6 h x, h7⟩

theorem NatAt.same {w w' : World} {v : Value} {g N M : Nat} (h : NatAt w v g N M) (s : Same w w') : NatAt w' v g N M := by
  obtain ⟨a, m, cap, Y, h1, h2, h3, h4, h5, h6, h7⟩ := h
  exact ⟨a, m, cap, Y, h1, h2, h3, h4, h5.same s, fun h x => by rw [s.frozen]; exact h6 h x, h7⟩

theorem natAt_mono {w : World} {v : Value} {g N M M' : Nat} (h : NatAt w v g N M) (hM : M ≤ M') : NatAt w v g N M' := by
  obtain ⟨a, m, cap, Y, h1, h2, h3, h4⟩ := h
  exact ⟨a, m, cap, Y, h1, h2, by omega, h4⟩

end Go.Proofs.YtickondjmilehabDoor
