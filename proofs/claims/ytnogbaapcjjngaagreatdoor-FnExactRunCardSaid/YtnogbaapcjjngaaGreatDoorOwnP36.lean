import Derived.Test.YtnogbaapcjjngaaGreatDoorOwnP34
import Derived.Lib.ConvBytes
set_option maxHeartbeats 6400000
set_option maxRecDepth 100000
namespace Go.Proofs.YtnogbaapcjjngaaGreatDoor
open Go.RowKit
theorem own_blk {w w' : World} {base : Nat} {e : TypeId} {size : Nat} {v : Value} {n : Nat} {xs : List Value} (h : w.ownsRow base e size v n xs) (hk : ∀ g, v.ownBlock = some g -> w'.heap[g]? = w.heap[g]?) : w'.ownsRow base e size v n xs := by
 obtain ⟨hl, h | ⟨g, cap, cur, rfl, hb, hh, hr⟩⟩ := h
 . exact ⟨hl, Or.inl h⟩
 . exact ⟨hl, Or.inr ⟨g, cap, cur, rfl, hb, (hk g (by simp [Value.ownBlock])).trans hh, hr⟩⟩
theorem own_keep {w w' : World} {base : Nat} {e : TypeId} {size : Nat} {v : Value} {n : Nat} {xs : List Value} (h : w.ownsRow base e size v n xs) (s : w.Since w.heap.size w') : w'.ownsRow base e size v n xs := own_blk h (fun g hg => s.block g (h.lt g hg).2)
theorem bytes_since (w : World) (e : TypeId) (s : ByteArray) : w.Since w.heap.size (Lib.bytesWorld w e s) := by
 have d := (World.Since.refl w.heap.size w).drew; exact ⟨d.os, d.tape, d.output, by rw [Lib.bytesWorld_size]; omega, fun k hk => Lib.bytesWorld_at_old w e s k hk⟩
theorem bytes_cells (w : World) (e : TypeId) (l : List UInt8) : ∀ j u, (Lib.byteCells l)[j]? = some u -> (Lib.bytesWorld w e ⟨l.toArray⟩).cell? ((⟨w.heap.size, 0, none⟩ : Addr).add j) = some u := fun j u h => by
 have hj : j < l.length := by
  have := (List.getElem?_eq_some_iff.1 h).1
  rwa [Lib.byteCells_length] at this
 rw [Go.WideShapes.add_plain, Nat.zero_add]; have h2 := Lib.bytesWorld_cell w e ⟨l.toArray⟩ j (by simpa [ByteArray.size] using hj); rw [h2, <- h]
 simp [Lib.byteCells, hj]
theorem bytes_one (l : List UInt8) : ∀ u ∈ Lib.byteCells l, u.oneCell' = true := fun u hu => by
 obtain ⟨x, -, rfl⟩ := List.mem_map.1 hu
 rfl
end Go.Proofs.YtnogbaapcjjngaaGreatDoor
