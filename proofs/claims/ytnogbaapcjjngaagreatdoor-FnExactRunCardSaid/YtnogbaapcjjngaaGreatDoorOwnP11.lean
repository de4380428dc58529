import Derived.Test.YtnogbaapcjjngaaGreatDoorOwnP8
import Derived.Maps.AppendAt
import Derived.OneCell
set_option maxHeartbeats 6400000
set_option maxRecDepth 100000
namespace Go.Proofs.YtnogbaapcjjngaaGreatDoor
open Go.RowKit
theorem xw2 {w : World} {base : Nat} {v : Value} {k : Nat} {xs : List Value} (h : w.ownsRow base 159 1 v k xs) : ∃ a cap, v = .slice a k cap /\ k <= cap /\ (a = none -> cap = 0) /\ ∀ j, j < k -> ∃ g, a = some ⟨g, 0, none⟩ := by
 obtain ⟨_, ⟨rfl, rfl⟩ | ⟨g, cap, cur, rfl, _, _, hn, _⟩⟩ := h
 . exact ⟨none, 0, rfl, Nat.le_refl _, fun _ => rfl, fun j hj => absurd hj (by omega)⟩
 . exact ⟨_, cap, rfl, hn, fun h => (by cases h), fun _ _ => ⟨g, rfl⟩⟩
theorem own_set {w : World} {base g n cap : Nat} {V : Nat -> Nat} (h : w.ownsRow base 159 1 (.slice (some ⟨g, 0, none⟩) n cap) n (ll V n)) (i x : Nat) (hi : i < n) :
 (w.setCell ⟨g, i, none⟩ (.int .u32 x)).ownsRow base 159 1 (.slice (some ⟨g, 0, none⟩) n cap) n (ll (upd V i x) n) := by
 obtain ⟨hl, h | ⟨g', cap', cur, e, hb, hh, hn, hm, hs, ht⟩⟩ := h
 . cases h.1
 . cases e
   have r : w.rowIs g 159 cap (fun j => cur[j]?.getD (.bool false)) := ⟨cur, hh, by simpa using hs, fun j hj => by
    show cur[j]? = some (cur[j]?.getD (.bool false)); rw [Array.getElem?_eq_getElem (by omega)]; rfl⟩
   obtain ⟨c2, k1, k2, k3⟩ := r.set i (.int .u32 x); refine ⟨by simp [ll], Or.inr ⟨g, cap, c2, rfl, hb, k1, hn, hm, by simpa using k2, ?_⟩⟩
   apply List.ext_getElem?
   intro j; rw [Nat.mul_one] at ht ⊢
   by_cases hj : j < n
   . rw [List.getElem?_take_of_lt hj, Array.getElem?_toList, k3 j (by omega)]
     have h2 : (ll V n)[j]? = cur[j]? := by rw [<- ht, List.getElem?_take_of_lt hj, Array.getElem?_toList]
     simp only [ll, List.getElem?_map, List.getElem?_range hj, Option.map_some] at h2 ⊢
     by_cases e : j = i
     . subst e; simp [xq5]
     . rw [if_neg e, xq3 _ _ _ _ e, <- h2]; rfl
   . rw [List.getElem?_eq_none (by simp; omega), List.getElem?_eq_none (by simp [ll]; omega)]
theorem own_setI {w : World} {base g n cap : Nat} {V : Nat -> Nat} (h : w.ownsRow base 159 1 (.slice (some ⟨g, 0, none⟩) n cap) n (ll V n)) (i x : Nat) (hi : i < n) (E : Int) (hE : E = (x : Int)) :
 (w.setCell ⟨g, i, none⟩ (.int .u32 E)).ownsRow base 159 1 (.slice (some ⟨g, 0, none⟩) n cap) n (ll (upd V i x) n) := by subst hE; exact own_set h i x hi
theorem ll_snoc (X : Nat -> Nat) (n k : Nat) (h : n <= k) : ll (extL X n) k ++ [.int .u32 0] = ll (extL X n) (k + 1) := by
 simp only [ll, List.range_succ, List.map_append, List.map_cons, List.map_nil]; have : extL X n k = 0 := by simp [extL]; omega
 rw [this]; rfl
end Go.Proofs.YtnogbaapcjjngaaGreatDoor
