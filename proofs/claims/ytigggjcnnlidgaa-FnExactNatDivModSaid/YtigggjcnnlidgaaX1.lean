import Derived.Test.YtigggjcnnlidgaaW1
import Derived.Test.YtigggjcnnlidgaaW2
import Derived.Test.YtigggjcnnlidgaaV4
import Derived.Test.YtigggjcnnlidgaaUB
namespace Go.Proofs.Ytigggjcnnlidgaa
open Go.RowKit

def dq (x y : Nat) : Nat := if y = 0 then 0 else x / y
def dr (x y : Nat) : Nat := if y = 0 then 0 else x % y
def dok (y : Nat) : Bool := decide (y ≠ 0)

theorem specDM_all (a a' : Option Addr) (b off n cap b' off' m cap' : Nat) (X Y : Nat → Nat) (w : World) (hn : n ≤ 1048576) (hm : m ≤ 1048576) (hX : Limbs w a b off n X) (hY : Limbs w a' b' off' m Y)
    (hXl : ∀ j, j < n → X j < 4294967296) (hYl : ∀ j, j < m → Y j < 4294967296) :
    Calls Try.prog 11 #[.slice a n cap, .slice a' m cap'] w fun e w' => ∃ v1 v2, e = .returned (.tuple #[v1, v2, .bool (dok (lv Y m))]) ∧ NatOut w w' v1 (dq (lv X n) (lv Y m)) (n + m + 1) ∧ NatOut w w' v2 (dr (lv X n) (lv Y m)) (n + m + 1) ∧ w.Since w.heap.size w' := by
  by_cases h0 : lv Y m = 0
  · have e1 : dok (lv Y m) = false := by simp [dok, h0]
    have e2 : dq (lv X n) (lv Y m) = 0 := by simp [dq, h0]
    have e3 : dr (lv X n) (lv Y m) = 0 := by simp [dr, h0]
    rw [e1, e2, e3]
    exact specNatDivMod_zero a a' n cap b' off' m cap' Y w hm hY hYl h0
  · have e1 : dok (lv Y m) = true := by simp [dok, h0]
    have e2 : dq (lv X n) (lv Y m) = lv X n / lv Y m := by simp [dq, h0]
    have e3 : dr (lv X n) (lv Y m) = lv X n % lv Y m := by simp [dr, h0]
    rw [e1, e2, e3]
    exact specNatDivMod_any a a' b off n cap b' off' m cap' X Y w hn hm hX hY hXl hYl (by omega)

theorem natAt_nil (w : World) (g M : Nat) : NatAt w (.slice none 0 0) g 0 M :=
  ⟨none, 0, 0, fun _ => 0, rfl, Nat.le_refl _, Nat.zero_le _, fun _ => rfl, fun j hj => absurd hj (by omega), fun h => absurd h (by omega), fun j hj => absurd hj (by omega), fun h => absurd h (by omega), rfl⟩

theorem implDM_all (a a' : Option Addr) (b n cap b' m cap' : Nat) (X Y : Nat → Nat) (w : World) (hn : n ≤ 1048576) (hm : m ≤ 1048576) (hnc : n ≤ cap) (hmc : m ≤ cap') (hac : a = none → cap = 0) (hX : Limbs w a b 0 n X) (hY : Limbs w a' b' 0 m Y)
    (hXl : ∀ j, j < n → X j < 4294967296) (hYl : ∀ j, j < m → Y j < 4294967296) :
    Calls Try.prog 12 #[.slice a n cap, .slice a' m cap'] w fun e w' => ∃ vq vr gq gr, e = .returned (.tuple #[vq, vr, .bool (dok (lv Y m))]) ∧ NatAt w' vq gq (dq (lv X n) (lv Y m)) (n + 2) ∧ NatAt w' vr gr (dr (lv X n) (lv Y m)) (n + 2) ∧
      w.heap.size ≤ gq ∧ w.heap.size ≤ gr ∧ gq ≠ gr ∧ w.Since w.heap.size w' := by
  by_cases h0 : lv Y m = 0
  · have e1 : dok (lv Y m) = false := by simp [dok, h0]
    have e2 : dq (lv X n) (lv Y m) = 0 := by simp [dq, h0]
    have e3 : dr (lv X n) (lv Y m) = 0 := by simp [dr, h0]
    rw [e1, e2, e3]
    exact (implNatDivMod_zero a a' n cap b' 0 m cap' Y w hm hmc hY h0).mono fun e w' ⟨he, hs⟩ => ⟨_, _, w.heap.size, w.heap.size + 1, he, natAt_nil _ _ _, natAt_nil _ _ _, Nat.le_refl _, by omega, by omega, hs⟩
  · have e1 : dok (lv Y m) = true := by simp [dok, h0]
    have e2 : dq (lv X n) (lv Y m) = lv X n / lv Y m := by simp [dq, h0]
    have e3 : dr (lv X n) (lv Y m) = lv X n % lv Y m := by simp [dr, h0]
    rw [e1, e2, e3]
    exact implNatDivMod_any a a' b n cap b' m cap' X Y w hn hm hnc hmc hac hX hY hXl hYl (by omega)

set_option maxHeartbeats 3200000 in
set_option maxRecDepth 100000 in
theorem natDivMod_long (a a' : Option Addr) (n cap m cap' : Nat) (w : World) (hn : n ≤ 9223372036854775807) (hm : m ≤ 9223372036854775807) (h : 1048576 < n ∨ 1048576 < m) :
    Calls Try.prog 4 #[.slice a n cap, .slice a' m cap'] w fun e w' => e = .returned (.bool true) ∧ w.Since w.heap.size w' := by
  by_cases h1 : 1048576 < n
  · go_enter Try.func4, Try.ntmps4
    go_wp2
    go_ret
    exact ⟨rfl, World.Since.refl _ _⟩
  · have h2 : 1048576 < m := by omega
    go_enter Try.func4, Try.ntmps4
    go_wp2
    go_ret
    exact ⟨rfl, World.Since.refl _ _⟩

/-- What the law holds in hand behind its two calls: the specification's two answers (g3, g4), the function's (g6, g7), the two arguments handed over (x0, x1). -/
structure St2 (w wk : World) (a3 a4 a6 a7 : Option Addr) (g3 g4 g6 g7 x0 x1 n m t u : Nat) (X Y Z U : Nat → Nat) : Prop where
  S : w.Since w.heap.size wk
  L3 : Limbs wk a3 g3 0 t Z
  L4 : Limbs wk a4 g4 0 u U
  LX : Limbs wk (some ⟨x0, 0, none⟩) x0 0 n X
  LY : Limbs wk (some ⟨x1, 0, none⟩) x1 0 m Y
  L6 : Limbs wk a6 g6 0 t Z
  L7 : Limbs wk a7 g7 0 u U
  FX : ∀ o, wk.frozen? ⟨x0, o, none⟩ = false
  FY : ∀ o, wk.frozen? ⟨x1, o, none⟩ = false
  F6 : 0 < t → ∀ o, wk.frozen? ⟨g6, o, none⟩ = false
  F7 : 0 < u → ∀ o, wk.frozen? ⟨g7, o, none⟩ = false
  bX : x0 < wk.heap.size
  bY : x1 < wk.heap.size

section
variable {w wk wk' : World} {a3 a4 a6 a7 : Option Addr} {g3 g4 g6 g7 x0 x1 n m t u : Nat} {X Y Z U : Nat → Nat}
theorem St2.keep (h : St2 w wk a3 a4 a6 a7 g3 g4 g6 g7 x0 x1 n m t u X Y Z U) (s : wk.Since wk.heap.size wk') : St2 w wk' a3 a4 a6 a7 g3 g4 g6 g7 x0 x1 n m t u X Y Z U :=
  ⟨h.S.trans (sinceMono s h.S.size), h.L3.keep s, h.L4.keep s, h.LX.keep s, h.LY.keep s, h.L6.keep s, h.L7.keep s, fun o => by rw [s.frozen (a := ⟨x0, o, none⟩) h.bX]; exact h.FX o, fun o => by rw [s.frozen (a := ⟨x1, o, none⟩) h.bY]; exact h.FY o,
    fun h0 o => by rw [s.frozen (a := ⟨g6, o, none⟩) (h.L6.lt h0)]; exact h.F6 h0 o, fun h0 o => by rw [s.frozen (a := ⟨g7, o, none⟩) (h.L7.lt h0)]; exact h.F7 h0 o, Nat.lt_of_lt_of_le h.bX s.size, Nat.lt_of_lt_of_le h.bY s.size⟩
theorem St2.same (h : St2 w wk a3 a4 a6 a7 g3 g4 g6 g7 x0 x1 n m t u X Y Z U) (s : Same wk wk') : St2 w wk' a3 a4 a6 a7 g3 g4 g6 g7 x0 x1 n m t u X Y Z U := h.keep (s.since _)
end

end Go.Proofs.Ytigggjcnnlidgaa
