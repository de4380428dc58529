import Derived.Test.YtnogbaapcjjngaaGreatDoorOwnP9
import Derived.Maps.AppendAt
import Derived.Deep.AppendLies
namespace Go.Proofs.YtnogbaapcjjngaaGreatDoor
open Go.RowKit

/-- A row of strings that a call owns. -/
def StrO (w : World) (base g cap : Nat) (ws : List ByteArray) : Prop := w.ownsRow base 9 1 (.slice (some ⟨g, 0, none⟩) ws.length cap) ws.length (ws.map Value.string)

theorem StrO.cells {w : World} {base g cap : Nat} {ws : List ByteArray} (h : StrO w base g cap ws) : (∀ (j : Nat) (x : ByteArray), ws[j]? = some x → w.cell? ⟨g, j, none⟩ = some (.string x)) ∧ base ≤ g ∧ g < w.heap.size ∧ ws.length ≤ cap := by
  have hc := @World.ownsRow.cells _ _ _ _ _ _ _ h
  have hl := h.lt g rfl
  refine ⟨fun j x hx => ?_, hl.1, hl.2, ?_⟩
  · have e1 := hc (g := g) rfl j (.string x) (by rw [List.getElem?_map, hx]; rfl)
    rw [Go.WideShapes.add_plain, Nat.zero_add] at e1
    exact e1
  · obtain ⟨_, ⟨e, _⟩ | ⟨g', cap', cur, e, hg, hb, hn, _⟩⟩ := h
    · simp at e
    · simp only [Value.slice.injEq] at e
      obtain ⟨_, _, rfl⟩ := e
      assumption

theorem take_filter {P : List ByteArray} {k : Nat} {x : ByteArray} (h : P[k]? = some x) : (P.take (k + 1)).filter (fun p => decide (0 < p.size)) = (P.take k).filter (fun p => decide (0 < p.size)) ++ (if 0 < x.size then [x] else []) := by
  rw [List.take_add_one, h, List.filter_append]
  simp only [Option.toList, List.filter_cons, List.filter_nil, decide_eq_true_eq]

theorem own_keep' {w w' : World} {base : Nat} {e : TypeId} {size : Nat} {v : Value} {n : Nat} {xs : List Value} (h : w.ownsRow base e size v n xs) (s : w.Since w.heap.size w') : w'.ownsRow base e size v n xs := by
  obtain ⟨hl, h | ⟨g, cap, cur, rfl, hb, hh, hr⟩⟩ := h
  · exact ⟨hl, Or.inl h⟩
  · exact ⟨hl, Or.inr ⟨g, cap, cur, rfl, hb, (s.block g (Array.getElem?_eq_some_iff.1 hh).1).trans hh, hr⟩⟩

set_option maxHeartbeats 3200000 in
set_option maxRecDepth 100000 in
/-- spec.l2Words: the words of a line. -/
theorem l2Words_q (s : ByteArray) (w : World) (hs : s.size ≤ 1048576) :
    Calls Tryz.prog 50 #[.string s, .int .u8 32, .int .u8 32] w fun e w' => ∃ g cap, e = .returned (.slice (some ⟨g, 0, none⟩) (wordsB s).length cap) ∧ StrO w' w.heap.size g cap (wordsB s) ∧ w.Since w.heap.size w' := by
  obtain ⟨i0, hi, hz0, hz1, hz2⟩ := info_parts infoS
  have sA : w.Since w.heap.size (w.alloc (.cells #[] 9)) := (World.Since.refl _ _).alloc (Nat.le_refl _) _
  have oA : (w.alloc (.cells #[] 9)).ownsRow w.heap.size 9 1 (.slice (some ⟨w.heap.size, 0, none⟩) 0 0) 0 [] := World.ownsRow_made w #[] 0 (Nat.le_refl _) (Nat.zero_le _) rfl
  have ZA := hide (show (w.alloc (.cells #[] 9)).heap.size = w.heap.size + 1 by simp)
  have HW : Hid (wordsB s = (pcs 32 s).filter fun p => decide (0 < p.size)) := hide rfl
  have HPL := pcs_len 32 s
  obtain ⟨P, hP⟩ : ∃ P, pcs 32 s = P := ⟨_, rfl⟩
  have HZ : Hid (∀ x ∈ P, x.size ≤ s.size) := hide (fun x hx => pcs_le (by rw [hP]; exact hx))
  rw [hP] at HW HPL
  have HP := hide hP
  clear hP
  go_enter Tryz.func50, Tryz.ntmps50
  go_wp2_with fail
  generalize w.alloc (.cells #[] 9) = wA at *
  have JC : Calls Tryz.prog 49 #[.string s, .int .u8 32, .int .u8 32] wA fun e w' => ∃ v, e = .returned v ∧ w'.ownsRow wA.heap.size 9 1 v (pcs 32 s).length ((pcs 32 s).map Value.string) ∧ wA.Since wA.heap.size w' := l1Cut_c 32 s wA (by omega)
  refine JC.mono ?_
  rintro e w1 ⟨v1, rfl, OP, s1⟩
  have OP : w1.ownsRow wA.heap.size 9 1 v1 P.length (P.map Value.string) := by rw [← HP.out]; exact OP
  have hpp : 0 < P.length := by rw [← HP.out]; exact pcs_pos 32 s
  obtain ⟨gP, cP, rfl, hg1, -⟩ := OP.form hpp
  obtain ⟨cP', bP, lP, -⟩ := StrO.cells OP
  have CP := hide cP'
  have HgP : Hid (w.heap.size < gP) := hide (by have := ZA.out; omega)
  clear JC cP' OP
  have S1 : w.Since w.heap.size w1 := sA.trans (sinceMono s1 sA.size)
  have z1 := s1.size
  have o1 := own_keep' oA s1
  go_wp2_with fail
  go_loopw [7, 9] (fun u i wr => ∃ k : Nat, k ≤ P.length ∧ i = .int .i64 (k : Int) ∧ w.Since w.heap.size wr ∧ Hid (∀ (j : Nat) (x : ByteArray), P[j]? = some x → wr.cell? ⟨gP, j, none⟩ = some (.string x)) ∧ gP < wr.heap.size ∧ ∃ g cap m, u = .slice (some ⟨g, 0, none⟩) m cap ∧ g ≠ gP ∧ m ≤ k ∧ wr.ownsRow w.heap.size 9 1 (.slice (some ⟨g, 0, none⟩) m cap) m (((P.take k).filter fun p => decide (0 < p.size)).map Value.string)) (fun _ i _ => P.length - (intOf i).toNat)
  case atStart => exact ⟨0, Nat.zero_le _, rfl, S1, CP, lP, w.heap.size, 0, 0, rfl, by have := HgP.out; omega, Nat.le_refl _, o1⟩
  case round =>
    obtain ⟨k, hk, rfl, s2, cp, lp, g, cap, m, rfl, hne, hmk, O⟩ := hrel
    by_cases hlt : k < P.length
    · have hlt' : (k : Int) < (P.length : Int) := by omega
      obtain ⟨x, hx⟩ : ∃ x, P[k]? = some x := ⟨_, List.getElem?_eq_getElem hlt⟩
      have g0 := cp.out k x hx
      have hxz : x.size ≤ s.size := HZ.out x (List.mem_of_getElem? hx)
      have tf := take_filter hx
      by_cases hx0 : 0 < x.size
      · rw [if_pos hx0] at tf
        have TF := hide tf
        have hx1 : (0 : Int) < (x.size : Int) := by omega
        clear tf hx
        go_wp2_with (at_builtin; refine wpList_append_own_at _ rfl _ _ 45 rfl w.heap.size 9 i0 (.string ByteArray.empty) 1 16 Tryz.underlying45 hi hz0 hz1 hz2 rfl (by decide) _ _ _ rfl (O.alloc _) ⟨wr.heap.size, 0, none⟩ 1 1 [.string x] rfl rfl (new_cell _ _ _) (one_one _ rfl) (by unfold maxLen; omega) (by omega) (by have := s2.size; simp; omega) ?_)
        intro v' w5 hown' hgrow hnn hat
        replace hgrow : (wr.alloc (.cells #[.string x] 9)).grownBy w5 (Value.slice (some ⟨g, 0, none⟩) m cap).ownBlock := hgrow
        obtain ⟨g', capn, rfl, hg1, hg2⟩ := hown'.form (by omega)
        have sW := (World.Since.refl wr.heap.size wr).alloc (Nat.le_refl _) (.cells #[.string x] 9)
        have zW : (wr.alloc (.cells #[.string x] 9)).heap.size = wr.heap.size + 1 := by simp
        have z5 := hgrow.size
        have S5 : w.Since w.heap.size w5 := (s2.trans (sinceMono sW s2.size)).grown hgrow (by have := s2.size; omega) (fun q hq => (O.lt q hq).1)
        have kb : w5.heap[gP]? = wr.heap[gP]? := (hgrow.block gP (by omega) (by simp [Value.ownBlock]; omega)).trans (sW.block gP lp)
        have C5 : Hid (∀ (j : Nat) (x : ByteArray), P[j]? = some x → w5.cell? ⟨gP, j, none⟩ = some (.string x)) := hide (fun j x h => (World.cell?_of_block (a := ⟨gP, j, none⟩) kb).trans (cp.out j x h))
        have hne5 : g' ≠ gP := by
          rcases hat with h | h
          · simp [Value.ownBlock] at h; omega
          · simp [Value.ownBlock] at h; omega
        have O5 : w5.ownsRow w.heap.size 9 1 (.slice (some ⟨g', 0, none⟩) (m + 1) capn) (m + 1) (((P.take (k + 1)).filter fun p => decide (0 < p.size)).map Value.string) := by
          rw [TF.out, List.map_append]
          exact hown'
        clear hnn hat hown' hgrow kb g0
        go_wp2
        go_roundw
        case rel => exact ⟨k + 1, by omega, by go_num, S5, C5, by omega, g', capn, m + 1, rfl, hne5, by omega, O5⟩
        case measure => simp [intOf]; omega
      · rw [if_neg hx0, List.append_nil] at tf
        have O5 : wr.ownsRow w.heap.size 9 1 (.slice (some ⟨g, 0, none⟩) m cap) m (((P.take (k + 1)).filter fun p => decide (0 < p.size)).map Value.string) := by rw [tf]; exact O
        have O5 := hide O5
        have hx1 : ¬ ((0 : Int) < (x.size : Int)) := by omega
        clear tf hx hx0
        go_wp2
        go_roundw
        case rel => exact ⟨k + 1, by omega, by go_num, s2, cp, lp, g, cap, m, rfl, hne, by omega, O5.out⟩
        case measure => simp [intOf]; omega
    · have e : k = P.length := by omega
      subst e
      have O5 : StrO wr w.heap.size g cap (wordsB s) ∧ m = (wordsB s).length := by
        rw [List.take_length, ← HW.out] at O
        have hm : m = (wordsB s).length := by have := O.1; rw [List.length_map] at this; omega
        subst hm
        exact ⟨O, rfl⟩
      obtain ⟨O5, rfl⟩ := O5
      have O5 := hide O5
      clear O
      go_wp2
      go_ret
      exact ⟨g, cap, rfl, O5.out, s2⟩

set_option maxHeartbeats 3200000 in
set_option maxRecDepth 100000 in
/-- impl.wordsOf: the words of a line. -/
theorem wordsOf_q (s : ByteArray) (w : World) (hs : s.size ≤ 1048576) :
    Calls Tryz.prog 81 #[.string s] w fun e w' => ∃ g cap, e = .returned (.slice (some ⟨g, 0, none⟩) (wordsB s).length cap) ∧ StrO w' w.heap.size g cap (wordsB s) ∧ w.Since w.heap.size w' := by
  obtain ⟨i0, hi, hz0, hz1, hz2⟩ := info_parts infoS
  have sA : w.Since w.heap.size (w.alloc (.cells #[] 9)) := (World.Since.refl _ _).alloc (Nat.le_refl _) _
  have oA : (w.alloc (.cells #[] 9)).ownsRow w.heap.size 9 1 (.slice (some ⟨w.heap.size, 0, none⟩) 0 0) 0 [] := World.ownsRow_made w #[] 0 (Nat.le_refl _) (Nat.zero_le _) rfl
  have ZA := hide (show (w.alloc (.cells #[] 9)).heap.size = w.heap.size + 1 by simp)
  have HW : Hid (wordsB s = (pcs 32 s).filter fun p => decide (0 < p.size)) := hide rfl
  have HPL := pcs_len 32 s
  obtain ⟨P, hP⟩ : ∃ P, pcs 32 s = P := ⟨_, rfl⟩
  have HZ : Hid (∀ x ∈ P, x.size ≤ s.size) := hide (fun x hx => pcs_le (by rw [hP]; exact hx))
  rw [hP] at HW HPL
  have HP := hide hP
  clear hP
  go_enter Tryz.func81, Tryz.ntmps81
  go_wp2_with fail
  generalize w.alloc (.cells #[] 9) = wA at *
  refine (split_c 32 s wA hs).mono ?_
  rintro e w1 ⟨rfl, CP, lP, s1⟩
  rw [HP.out] at CP ⊢
  obtain ⟨gP, hgP⟩ : ∃ g, g = wA.heap.size := ⟨_, rfl⟩
  rw [← hgP] at CP lP ⊢
  have HgP : Hid (w.heap.size < gP) := hide (by have := ZA.out; omega)
  clear hgP
  have S1 : w.Since w.heap.size w1 := sA.trans (sinceMono s1 sA.size)
  have z1 := s1.size
  have o1 := own_keep' oA s1
  go_wp2_with fail
  go_loopw [3, 10] (fun u i wr => ∃ k : Nat, k ≤ P.length ∧ i = .int .i64 (k : Int) ∧ w.Since w.heap.size wr ∧ Hid (∀ (j : Nat) (x : ByteArray), P[j]? = some x → wr.cell? ⟨gP, j, none⟩ = some (.string x)) ∧ gP < wr.heap.size ∧ ∃ g cap m, u = .slice (some ⟨g, 0, none⟩) m cap ∧ g ≠ gP ∧ m ≤ k ∧ wr.ownsRow w.heap.size 9 1 (.slice (some ⟨g, 0, none⟩) m cap) m (((P.take k).filter fun p => decide (0 < p.size)).map Value.string)) (fun _ i _ => P.length - (intOf i).toNat)
  case atStart => exact ⟨0, Nat.zero_le _, rfl, S1, CP, lP, w.heap.size, 0, 0, rfl, by have := HgP.out; omega, Nat.le_refl _, o1⟩
  case round =>
    obtain ⟨k, hk, rfl, s2, cp, lp, g, cap, m, rfl, hne, hmk, O⟩ := hrel
    by_cases hlt : k < P.length
    · have hlt' : (k : Int) < (P.length : Int) := by omega
      obtain ⟨x, hx⟩ : ∃ x, P[k]? = some x := ⟨_, List.getElem?_eq_getElem hlt⟩
      have g0 := cp.out k x hx
      have hxz : x.size ≤ s.size := HZ.out x (List.mem_of_getElem? hx)
      have tf := take_filter hx
      by_cases hx0 : 0 < x.size
      · rw [if_pos hx0] at tf
        have TF := hide tf
        have hxe : x.toList.isEmpty = false := by
          rw [Lib.toList_data]
          cases e : x.data.toList with
          | nil => rw [Lib.size_eq, e] at hx0; simp at hx0
          | cons _ _ => rfl
        clear tf hx
        go_wp2_with (at_builtin; refine wpList_append_own_at _ rfl _ _ 45 rfl w.heap.size 9 i0 (.string ByteArray.empty) 1 16 Tryz.underlying45 hi hz0 hz1 hz2 rfl (by decide) _ _ _ rfl (O.alloc _) ⟨wr.heap.size, 0, none⟩ 1 1 [.string x] rfl rfl (new_cell _ _ _) (one_one _ rfl) (by unfold maxLen; omega) (by omega) (by have := s2.size; simp; omega) ?_)
        intro v' w5 hown' hgrow hnn hat
        replace hgrow : (wr.alloc (.cells #[.string x] 9)).grownBy w5 (Value.slice (some ⟨g, 0, none⟩) m cap).ownBlock := hgrow
        obtain ⟨g', capn, rfl, hg1, hg2⟩ := hown'.form (by omega)
        have sW := (World.Since.refl wr.heap.size wr).alloc (Nat.le_refl _) (.cells #[.string x] 9)
        have zW : (wr.alloc (.cells #[.string x] 9)).heap.size = wr.heap.size + 1 := by simp
        have z5 := hgrow.size
        have S5 : w.Since w.heap.size w5 := (s2.trans (sinceMono sW s2.size)).grown hgrow (by have := s2.size; omega) (fun q hq => (O.lt q hq).1)
        have kb : w5.heap[gP]? = wr.heap[gP]? := (hgrow.block gP (by omega) (by simp [Value.ownBlock]; omega)).trans (sW.block gP lp)
        have C5 : Hid (∀ (j : Nat) (x : ByteArray), P[j]? = some x → w5.cell? ⟨gP, j, none⟩ = some (.string x)) := hide (fun j x h => (World.cell?_of_block (a := ⟨gP, j, none⟩) kb).trans (cp.out j x h))
        have hne5 : g' ≠ gP := by
          rcases hat with h | h
          · simp [Value.ownBlock] at h; omega
          · simp [Value.ownBlock] at h; omega
        have O5 : w5.ownsRow w.heap.size 9 1 (.slice (some ⟨g', 0, none⟩) (m + 1) capn) (m + 1) (((P.take (k + 1)).filter fun p => decide (0 < p.size)).map Value.string) := by
          rw [TF.out, List.map_append]
          exact hown'
        clear hnn hat hown' hgrow kb g0
        go_wp2
        go_roundw
        case rel => exact ⟨k + 1, by omega, by go_num, S5, C5, by omega, g', capn, m + 1, rfl, hne5, by omega, O5⟩
        case measure => simp [intOf]; omega
      · rw [if_neg hx0, List.append_nil] at tf
        have O5 : wr.ownsRow w.heap.size 9 1 (.slice (some ⟨g, 0, none⟩) m cap) m (((P.take (k + 1)).filter fun p => decide (0 < p.size)).map Value.string) := by rw [tf]; exact O
        have O5 := hide O5
        have hxe : x.toList.isEmpty = true := by rw [Lib.toList_data, List.isEmpty_iff, ← List.length_eq_zero_iff, ← Lib.size_eq]; omega
        clear tf hx hx0
        go_wp2
        go_roundw
        case rel => exact ⟨k + 1, by omega, by go_num, s2, cp, lp, g, cap, m, rfl, hne, by omega, O5.out⟩
        case measure => simp [intOf]; omega
    · have e : k = P.length := by omega
      subst e
      have O5 : StrO wr w.heap.size g cap (wordsB s) ∧ m = (wordsB s).length := by
        rw [List.take_length, ← HW.out] at O
        have hm : m = (wordsB s).length := by have := O.1; rw [List.length_map] at this; omega
        subst hm
        exact ⟨O, rfl⟩
      obtain ⟨O5, rfl⟩ := O5
      have O5 := hide O5
      clear O
      go_wp2
      go_ret
      exact ⟨g, cap, rfl, O5.out, s2⟩

end Go.Proofs.YtnogbaapcjjngaaGreatDoor
