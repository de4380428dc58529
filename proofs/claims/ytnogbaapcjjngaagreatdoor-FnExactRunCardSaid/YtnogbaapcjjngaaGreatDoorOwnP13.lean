import Derived.Test.YtnogbaapcjjngaaGreatDoorOwnP10
import Derived.Maps.AppendAt
import Derived.Deep.AppendLies
set_option maxHeartbeats 6400000
set_option maxRecDepth 100000
namespace Go.Proofs.YtnogbaapcjjngaaGreatDoor
open Go.RowKit
def StrO (w : World) (base g cap : Nat) (ws : List ByteArray) : Prop := w.ownsRow base 9 1 (.slice (some ⟨g, 0, none⟩) ws.length cap) ws.length (ws.map Value.string)
theorem StrO.cells {w : World} {base g cap : Nat} {ws : List ByteArray} (h : StrO w base g cap ws) : (∀ (j : Nat) (x : ByteArray), ws[j]? = some x -> w.cell? ⟨g, j, none⟩ = some (.string x)) /\ base <= g /\ g < w.heap.size /\ ws.length <= cap := by
 have hc := @World.ownsRow.cells _ _ _ _ _ _ _ h; have hl := h.lt g rfl; refine ⟨fun j x hx => ?_, hl.1, hl.2, ?_⟩
 . have e1 := hc (g := g) rfl j (.string x) (by rw [List.getElem?_map, hx]; rfl)
   rw [Go.WideShapes.add_plain, Nat.zero_add] at e1; exact e1
 . obtain ⟨_, ⟨e, _⟩ | ⟨g', cap', cur, e, hg, hb, hn, _⟩⟩ := h
   . simp at e
   . simp only [Value.slice.injEq] at e
     obtain ⟨_, _, rfl⟩ := e
     assumption
theorem take_filter {P : List ByteArray} {k : Nat} {x : ByteArray} (h : P[k]? = some x) : (P.take (k + 1)).filter (fun p => decide (0 < p.size)) = (P.take k).filter (fun p => decide (0 < p.size)) ++ (if 0 < x.size then [x] else []) := by
 rw [List.take_add_one, h, List.filter_append]; simp only [Option.toList, List.filter_cons, List.filter_nil, decide_eq_true_eq]
theorem yj0 {w w' : World} {base : Nat} {e : TypeId} {size : Nat} {v : Value} {n : Nat} {xs : List Value} (h : w.ownsRow base e size v n xs) (s : w.Since w.heap.size w') : w'.ownsRow base e size v n xs := by
 obtain ⟨hl, h | ⟨g, cap, cur, rfl, hb, hh, hr⟩⟩ := h
 . exact ⟨hl, Or.inl h⟩
 . exact ⟨hl, Or.inr ⟨g, cap, cur, rfl, hb, (s.block g (Array.getElem?_eq_some_iff.1 hh).1).trans hh, hr⟩⟩
theorem l2Words_q (s : ByteArray) (w : World) (hs : s.size <= 1048576) :
 Calls Tryz.prog 50 #[.string s, .int .u8 32, .int .u8 32] w fun e w' => ∃ g cap, e = .returned (.slice (some ⟨g, 0, none⟩) (xj7 s).length cap) /\ StrO w' w.heap.size g cap (xj7 s) /\ w.Since w.heap.size w' := by
 obtain ⟨i0, hi, hz0, hz1, hz2⟩ := info_parts infoS; have sA := sal w (.cells #[] 9); have oA : (w.alloc (.cells #[] 9)).ownsRow w.heap.size 9 1 (.slice (some ⟨w.heap.size, 0, none⟩) 0 0) 0 [] := World.ownsRow_made w #[] 0 (Nat.le_refl _) (Nat.zero_le _) rfl; have ZA := hide (show (w.alloc (.cells #[] 9)).heap.size = w.heap.size + 1 by simp); have HW : Hid (xj7 s = (pcs 32 s).filter fun p => decide (0 < p.size)) := hide rfl; have HPL := pcs_len 32 s; obtain ⟨P, hP⟩ : ∃ P, pcs 32 s = P := ⟨_, rfl⟩; have HZ : Hid (∀ x ∈ P, x.size <= s.size) := hide (fun x hx => pcs_le (by rw [hP]; exact hx)); rw [hP] at HW HPL; have HP := hide hP; clear hP; go_enter Tryz.func50, Tryz.ntmps50; go_wp2_with fail; generalize w.alloc (.cells #[] 9) = wA at *; have JC : Calls Tryz.prog 49 #[.string s, .int .u8 32, .int .u8 32] wA fun e w' => ∃ v, e = .returned v /\ w'.ownsRow wA.heap.size 9 1 v (pcs 32 s).length ((pcs 32 s).map Value.string) /\ wA.Since wA.heap.size w' := l1Cut_c 32 s wA (by omega)
 refine JC.mono ?_; rintro e w1 ⟨v1, rfl, OP, s1⟩; have OP : w1.ownsRow wA.heap.size 9 1 v1 P.length (P.map Value.string) := by rw [<- HP.out]; exact OP
 have hpp : 0 < P.length := by rw [<- HP.out]; exact pcs_pos 32 s
 obtain ⟨gP, cP, rfl, hg1, -⟩ := OP.form hpp; obtain ⟨cP', bP, lP, -⟩ := StrO.cells OP; have CP := hide cP'; have HgP : Hid (w.heap.size < gP) := hide (by have := ZA.out; omega); clear JC cP' OP; have S1 := sA.trans (sM s1 sA.size); have z1 := s1.size; have o1 := yj0 oA s1; go_wp2_with fail
 go_loopw [7, 9] (fun u i wr => ∃ k : Nat, k <= P.length /\ i = .int .i64 (k : Int) /\ w.Since w.heap.size wr /\ Hid (∀ (j : Nat) (x : ByteArray), P[j]? = some x -> wr.cell? ⟨gP, j, none⟩ = some (.string x)) /\ gP < wr.heap.size /\ ∃ g cap m, u = .slice (some ⟨g, 0, none⟩) m cap /\ g ≠ gP /\ m <= k /\ wr.ownsRow w.heap.size 9 1 (.slice (some ⟨g, 0, none⟩) m cap) m (((P.take k).filter fun p => decide (0 < p.size)).map Value.string)) (fun _ i _ => P.length - (intOf i).toNat)
 case atStart => exact ⟨0, Nat.zero_le _, rfl, S1, CP, lP, w.heap.size, 0, 0, rfl, by have := HgP.out; omega, Nat.le_refl _, o1⟩
 case round =>
  obtain ⟨k, hk, rfl, s2, cp, lp, g, cap, m, rfl, hne, hmk, O⟩ := hrel
  by_cases hlt : k < P.length
  . have hlt' : (k : Int) < (P.length : Int) := by omega
    obtain ⟨x, hx⟩ : ∃ x, P[k]? = some x := ⟨_, List.getElem?_eq_getElem hlt⟩; have g0 := cp.out k x hx; have hxz : x.size <= s.size := HZ.out x (List.mem_of_getElem? hx); have tf := take_filter hx
    by_cases hx0 : 0 < x.size
    . rw [if_pos hx0] at tf
      have TF := hide tf; have hx1 : (0 : Int) < (x.size : Int) := by omega
      clear tf hx
      go_wp2_with (at_builtin; refine wpList_append_own_at _ rfl _ _ 45 rfl w.heap.size 9 i0 (.string ByteArray.empty) 1 16 Tryz.underlying45 hi hz0 hz1 hz2 rfl (by decide) _ _ _ rfl (O.alloc _) ⟨wr.heap.size, 0, none⟩ 1 1 [.string x] rfl rfl (xj2 _ _ _) (xj6 _ rfl) (by unfold maxLen; omega) (by omega) (by have := s2.size; simp; omega) ?_)
      intro v' w5 hown' hgrow hnn hat; replace hgrow : (wr.alloc (.cells #[.string x] 9)).grownBy w5 (Value.slice (some ⟨g, 0, none⟩) m cap).ownBlock := hgrow; obtain ⟨g', capn, rfl, hg1, hg2⟩ := hown'.form (by omega); have sW := sal wr (.cells #[.string x] 9); have zW : (wr.alloc (.cells #[.string x] 9)).heap.size = wr.heap.size + 1 := by simp
      have z5 := hgrow.size; have S5 := (s2.trans (sM sW s2.size)).grown hgrow (by have := s2.size; omega) (fun q hq => (O.lt q hq).1); have kb : w5.heap[gP]? = wr.heap[gP]? := (hgrow.block gP (by omega) (by simp [Value.ownBlock]; omega)).trans (sW.block gP lp); have C5 : Hid (∀ (j : Nat) (x : ByteArray), P[j]? = some x -> w5.cell? ⟨gP, j, none⟩ = some (.string x)) := hide (fun j x h => (World.cell?_of_block (a := ⟨gP, j, none⟩) kb).trans (cp.out j x h))
      have hne5 : g' ≠ gP := by
       rcases hat with h | h
       . simp [Value.ownBlock] at h; omega
       . simp [Value.ownBlock] at h; omega
      have O5 : w5.ownsRow w.heap.size 9 1 (.slice (some ⟨g', 0, none⟩) (m + 1) capn) (m + 1) (((P.take (k + 1)).filter fun p => decide (0 < p.size)).map Value.string) := by
       rw [TF.out, List.map_append]; exact hown'
      clear hnn hat hown' hgrow kb g0; go_wp2; go_roundw
      case rel => exact ⟨k + 1, by omega, by go_num, S5, C5, by omega, g', capn, m + 1, rfl, hne5, by omega, O5⟩
      case measure => simp [intOf]; omega
    . rw [if_neg hx0, List.append_nil] at tf
      have O5 : wr.ownsRow w.heap.size 9 1 (.slice (some ⟨g, 0, none⟩) m cap) m (((P.take (k + 1)).filter fun p => decide (0 < p.size)).map Value.string) := by rw [tf]; exact O
      have O5 := hide O5; have hx1 : ¬ ((0 : Int) < (x.size : Int)) := by omega
      clear tf hx hx0; go_wp2; go_roundw
      case rel => exact ⟨k + 1, by omega, by go_num, s2, cp, lp, g, cap, m, rfl, hne, by omega, O5.out⟩
      case measure => simp [intOf]; omega
  . have e : k = P.length := by omega
    subst e
    have O5 : StrO wr w.heap.size g cap (xj7 s) /\ m = (xj7 s).length := by
     rw [List.take_length, <- HW.out] at O; have hm : m = (xj7 s).length := by have := O.1; rw [List.length_map] at this; omega
     subst hm; exact ⟨O, rfl⟩
    obtain ⟨O5, rfl⟩ := O5; have O5 := hide O5; clear O; go_wp2; go_ret; exact ⟨g, cap, rfl, O5.out, s2⟩
theorem wordsOf_q (s : ByteArray) (w : World) (hs : s.size <= 1048576) :
 Calls Tryz.prog 81 #[.string s] w fun e w' => ∃ g cap, e = .returned (.slice (some ⟨g, 0, none⟩) (xj7 s).length cap) /\ StrO w' w.heap.size g cap (xj7 s) /\ w.Since w.heap.size w' := by
 obtain ⟨i0, hi, hz0, hz1, hz2⟩ := info_parts infoS; have sA := sal w (.cells #[] 9); have oA : (w.alloc (.cells #[] 9)).ownsRow w.heap.size 9 1 (.slice (some ⟨w.heap.size, 0, none⟩) 0 0) 0 [] := World.ownsRow_made w #[] 0 (Nat.le_refl _) (Nat.zero_le _) rfl; have ZA := hide (show (w.alloc (.cells #[] 9)).heap.size = w.heap.size + 1 by simp); have HW : Hid (xj7 s = (pcs 32 s).filter fun p => decide (0 < p.size)) := hide rfl; have HPL := pcs_len 32 s; obtain ⟨P, hP⟩ : ∃ P, pcs 32 s = P := ⟨_, rfl⟩; have HZ : Hid (∀ x ∈ P, x.size <= s.size) := hide (fun x hx => pcs_le (by rw [hP]; exact hx)); rw [hP] at HW HPL; have HP := hide hP; clear hP; go_enter Tryz.func81, Tryz.ntmps81; go_wp2_with fail; generalize w.alloc (.cells #[] 9) = wA at *; refine (split_c 32 s wA hs).mono ?_; rintro e w1 ⟨rfl, CP, lP, s1⟩; rw [HP.out] at CP ⊢; obtain ⟨gP, hgP⟩ : ∃ g, g = wA.heap.size := ⟨_, rfl⟩; rw [<- hgP] at CP lP ⊢; have HgP : Hid (w.heap.size < gP) := hide (by have := ZA.out; omega); clear hgP; have S1 := sA.trans (sM s1 sA.size); have z1 := s1.size; have o1 := yj0 oA s1; go_wp2_with fail
 go_loopw [3, 10] (fun u i wr => ∃ k : Nat, k <= P.length /\ i = .int .i64 (k : Int) /\ w.Since w.heap.size wr /\ Hid (∀ (j : Nat) (x : ByteArray), P[j]? = some x -> wr.cell? ⟨gP, j, none⟩ = some (.string x)) /\ gP < wr.heap.size /\ ∃ g cap m, u = .slice (some ⟨g, 0, none⟩) m cap /\ g ≠ gP /\ m <= k /\ wr.ownsRow w.heap.size 9 1 (.slice (some ⟨g, 0, none⟩) m cap) m (((P.take k).filter fun p => decide (0 < p.size)).map Value.string)) (fun _ i _ => P.length - (intOf i).toNat)
 case atStart => exact ⟨0, Nat.zero_le _, rfl, S1, CP, lP, w.heap.size, 0, 0, rfl, by have := HgP.out; omega, Nat.le_refl _, o1⟩
 case round =>
  obtain ⟨k, hk, rfl, s2, cp, lp, g, cap, m, rfl, hne, hmk, O⟩ := hrel
  by_cases hlt : k < P.length
  . have hlt' : (k : Int) < (P.length : Int) := by omega
    obtain ⟨x, hx⟩ : ∃ x, P[k]? = some x := ⟨_, List.getElem?_eq_getElem hlt⟩; have g0 := cp.out k x hx; have hxz : x.size <= s.size := HZ.out x (List.mem_of_getElem? hx); have tf := take_filter hx
    by_cases hx0 : 0 < x.size
    . rw [if_pos hx0] at tf
      have TF := hide tf
      have hxe : x.toList.isEmpty = false := by
       rw [Lib.toList_data]; cases e : x.data.toList with
       | nil => rw [Lib.size_eq, e] at hx0; simp at hx0
       | cons _ _ => rfl
      clear tf hx
      go_wp2_with (at_builtin; refine wpList_append_own_at _ rfl _ _ 45 rfl w.heap.size 9 i0 (.string ByteArray.empty) 1 16 Tryz.underlying45 hi hz0 hz1 hz2 rfl (by decide) _ _ _ rfl (O.alloc _) ⟨wr.heap.size, 0, none⟩ 1 1 [.string x] rfl rfl (xj2 _ _ _) (xj6 _ rfl) (by unfold maxLen; omega) (by omega) (by have := s2.size; simp; omega) ?_)
      intro v' w5 hown' hgrow hnn hat; replace hgrow : (wr.alloc (.cells #[.string x] 9)).grownBy w5 (Value.slice (some ⟨g, 0, none⟩) m cap).ownBlock := hgrow; obtain ⟨g', capn, rfl, hg1, hg2⟩ := hown'.form (by omega); have sW := sal wr (.cells #[.string x] 9); have zW : (wr.alloc (.cells #[.string x] 9)).heap.size = wr.heap.size + 1 := by simp
      have z5 := hgrow.size; have S5 := (s2.trans (sM sW s2.size)).grown hgrow (by have := s2.size; omega) (fun q hq => (O.lt q hq).1); have kb : w5.heap[gP]? = wr.heap[gP]? := (hgrow.block gP (by omega) (by simp [Value.ownBlock]; omega)).trans (sW.block gP lp); have C5 : Hid (∀ (j : Nat) (x : ByteArray), P[j]? = some x -> w5.cell? ⟨gP, j, none⟩ = some (.string x)) := hide (fun j x h => (World.cell?_of_block (a := ⟨gP, j, none⟩) kb).trans (cp.out j x h))
      have hne5 : g' ≠ gP := by
       rcases hat with h | h
       . simp [Value.ownBlock] at h; omega
       . simp [Value.ownBlock] at h; omega
      have O5 : w5.ownsRow w.heap.size 9 1 (.slice (some ⟨g', 0, none⟩) (m + 1) capn) (m + 1) (((P.take (k + 1)).filter fun p => decide (0 < p.size)).map Value.string) := by
       rw [TF.out, List.map_append]; exact hown'
      clear hnn hat hown' hgrow kb g0; go_wp2; go_roundw
      case rel => exact ⟨k + 1, by omega, by go_num, S5, C5, by omega, g', capn, m + 1, rfl, hne5, by omega, O5⟩
      case measure => simp [intOf]; omega
    . rw [if_neg hx0, List.append_nil] at tf
      have O5 : wr.ownsRow w.heap.size 9 1 (.slice (some ⟨g, 0, none⟩) m cap) m (((P.take (k + 1)).filter fun p => decide (0 < p.size)).map Value.string) := by rw [tf]; exact O
      have O5 := hide O5; have hxe : x.toList.isEmpty = true := by rw [Lib.toList_data, List.isEmpty_iff, <- List.length_eq_zero_iff, <- Lib.size_eq]; omega
      clear tf hx hx0; go_wp2; go_roundw
      case rel => exact ⟨k + 1, by omega, by go_num, s2, cp, lp, g, cap, m, rfl, hne, by omega, O5.out⟩
      case measure => simp [intOf]; omega
  . have e : k = P.length := by omega
    subst e
    have O5 : StrO wr w.heap.size g cap (xj7 s) /\ m = (xj7 s).length := by
     rw [List.take_length, <- HW.out] at O; have hm : m = (xj7 s).length := by have := O.1; rw [List.length_map] at this; omega
     subst hm; exact ⟨O, rfl⟩
    obtain ⟨O5, rfl⟩ := O5; have O5 := hide O5; clear O; go_wp2; go_ret; exact ⟨g, cap, rfl, O5.out, s2⟩
def rp (s : ByteArray) : ByteArray := ⟨(s.data.toList.map fun b => if b = 10 then 32 else b).toArray⟩
theorem rp_size (s : ByteArray) : (rp s).size = s.size := by
 rw [Lib.size_eq, Lib.size_eq]
 simp [rp]
theorem bt_rp {s : ByteArray} {k : Nat} (h : k < s.size) : bt (rp s) k = if bt s k = 10 then 32 else bt s k := by
 have hl : k < s.data.toList.length := by rw [<- Lib.size_eq]; exact h
 have e : (rp s).data.toList = s.data.toList.map fun b => if b = 10 then 32 else b := by simp [rp]
 unfold bt; rw [e, List.getElem?_map, List.getElem?_eq_getElem hl]; simp only [Option.map_some, Option.getD_some]
 by_cases hb : s.data.toList[k] = 10
 . rw [if_pos hb, hb]; rfl
 . have : ¬ (s.data.toList[k]).toNat = 10 := fun e => hb (UInt8.toNat_inj.1 e)
   rw [if_neg hb, if_neg this]
theorem CutC.ext {s : ByteArray} {i f : Nat} {ps : List ByteArray} (h : CutC 32 (rp s) i ps f) (hi : i <= s.size) : s.extract f i = (rp s).extract f i := by
 have hle := h.le; have e : (rp s).data.toList = s.data.toList.map fun b => if b = 10 then 32 else b := by simp [rp]
 apply xw9
 rw [Lib.extract_data, Lib.extract_data, e, <- List.map_drop, <- List.map_take]
 symm
 refine (List.map_congr_left (g := id) (fun x hx => ?_)).trans (List.map_id _)
 by_cases hb : x = 10
 . exfalso
   obtain ⟨k, hk, ek⟩ := List.getElem_of_mem hx; rw [List.length_take, List.length_drop, <- Lib.size_eq] at hk; rw [List.getElem_take, List.getElem_drop] at ek; have h1 := h.no (f + k) (by omega) (by omega); rw [bt_rp (by omega)] at h1
   have h2 : bt s (f + k) = 10 := by
    unfold bt; rw [List.getElem?_eq_getElem (by rw [<- Lib.size_eq]; omega), Option.getD_some, ek, hb]
    rfl
   rw [if_pos h2] at h1; exact h1 rfl
 . simp only [if_neg hb, id]
theorem l1Cut_2 (s : ByteArray) (w : World) (hs : s.size <= 1048577) :
 Calls Tryz.prog 49 #[.string s, .int .u8 32, .int .u8 10] w fun e w' => ∃ v, e = .returned v /\ w'.ownsRow w.heap.size 9 1 v (pcs 32 (rp s)).length ((pcs 32 (rp s)).map Value.string) /\ w.Since w.heap.size w' := by
 obtain ⟨i0, hi, hz0, hz1, hz2⟩ := info_parts infoS; have hrs := rp_size s; have HRS := hide hrs; clear hrs; go_enter Tryz.func49, Tryz.ntmps49; go_wp2
 go_loopw [7, 8, 9] (fun v f t wr => ∃ (i fr : Nat) (ps : List ByteArray), i <= s.size /\ fr <= i /\ t = .int .i64 i /\ f = .int .i64 fr /\ wr.ownsRow w.heap.size 9 1 v ps.length (ps.map Value.string) /\ Hid (CutC 32 (rp s) i ps fr) /\ ps.length <= i /\ w.Since w.heap.size wr) (fun _ _ t _ => s.size - (intOf t).toNat)
 case atStart => exact ⟨0, 0, [], Nat.zero_le _, Nat.le_refl _, rfl, rfl, World.ownsRow_made w #[] 0 (Nat.le_refl _) (by decide) rfl, hide (CutC.start 32 (rp s)), Nat.le_refl _, (World.Since.refl _ _).alloc (Nat.le_refl _) _⟩
 case round =>
  obtain ⟨i, fr, ps, hik, hfr, rfl, rfl, hown, HC, hpl, hS⟩ := hrel; have hs1 := hS.size
  by_cases hlt : i < s.size
  . have hlt' : (i : Int) < (s.size : Int) := by omega
    have hx := bt_in hlt; have hx2 := bt_lt s i
    by_cases c1 : bt s i = 32
    . have HC1 : Hid (CutC 32 (rp s) (i + 1) (ps ++ [s.extract fr i]) (i + 1)) := hide (by
       rw [HC.out.ext hik]; exact HC.out.hit (by rw [HRS.out]; exact hlt) (by rw [bt_rp hlt, c1]; rfl))
      rw [c1] at hx; have hb0 : (0 : Int) <= (fr : Int) := by omega
      have hb1 : (fr : Int) <= (i : Int) := by omega
      clear c1 hx2 HC
      go_wp2_with (at_builtin; refine wpList_append_own _ rfl _ _ 45 rfl w.heap.size 9 i0 (.string ByteArray.empty) 1 16 Tryz.underlying45 hi hz0 hz1 hz2 rfl (by decide) _ _ _ rfl (hown.alloc _) ⟨wr.heap.size, 0, none⟩ 1 1 [.string (s.extract fr i)] rfl rfl (xj2 _ _ _) (xj6 _ rfl) (by unfold maxLen; omega) (by omega) (by simp; omega) ?_)
      intro v' w1 hown' hgrow hnn; have hs2 : w.Since w.heap.size w1 := (hS.alloc hS.size _).grown hgrow (by simp; omega) (fun k hk => (hown.lt k hk).1); rw [show ps.map Value.string ++ [.string (s.extract fr i)] = (ps ++ [s.extract fr i]).map Value.string by simp, show ps.length + 1 = (ps ++ [s.extract fr i]).length by simp] at hown'; clear hgrow hnn hown; go_wp2; go_roundw
      case rel => exact ⟨i + 1, i + 1, _, by omega, by omega, by go_num, by go_num, hown', HC1, by simp; omega, hs2⟩
      case measure => simp [intOf]; omega
    by_cases c2 : bt s i = 10
    . have HCX : Hid (CutC 32 (rp s) (i + 1) (ps ++ [s.extract fr i]) (i + 1)) := hide (by
       rw [HC.out.ext hik]; exact HC.out.hit (by rw [HRS.out]; exact hlt) (by rw [bt_rp hlt, c2]; rfl))
      rw [c2] at hx; have hb0 : (0 : Int) <= (fr : Int) := by omega
      have hb1 : (fr : Int) <= (i : Int) := by omega
      clear c2 hx2 HC
      go_wp2_with (at_builtin; refine wpList_append_own _ rfl _ _ 45 rfl w.heap.size 9 i0 (.string ByteArray.empty) 1 16 Tryz.underlying45 hi hz0 hz1 hz2 rfl (by decide) _ _ _ rfl (hown.alloc _) ⟨wr.heap.size, 0, none⟩ 1 1 [.string (s.extract fr i)] rfl rfl (xj2 _ _ _) (xj6 _ rfl) (by unfold maxLen; omega) (by omega) (by simp; omega) ?_)
      intro v' w1 hown' hgrow hnn; have hs2 : w.Since w.heap.size w1 := (hS.alloc hS.size _).grown hgrow (by simp; omega) (fun k hk => (hown.lt k hk).1); rw [show ps.map Value.string ++ [.string (s.extract fr i)] = (ps ++ [s.extract fr i]).map Value.string by simp, show ps.length + 1 = (ps ++ [s.extract fr i]).length by simp] at hown'; clear hgrow hnn hown; go_wp2; go_roundw
      case rel => exact ⟨i + 1, i + 1, _, by omega, by omega, by go_num, by go_num, hown', HCX, by simp; omega, hs2⟩
      case measure => simp [intOf]; omega
    . have HC1 := hide (HC.out.skip (fun e => by
       rw [bt_rp hlt, if_neg c2] at e; exact c1 e))
      have c1' : ¬ ((bt s i : Int) = 32) := by omega
      have c2' : ¬ ((bt s i : Int) = 10) := by omega
      obtain ⟨x, ex⟩ : ∃ x, x = bt s i := ⟨_, rfl⟩; rw [<- ex] at hx hx2 c1' c2'; have hxb : ((x : Int) == 32) = false := by simpa using c1'
      have hxb2 : ((x : Int) == 10) = false := by simpa using c2'
      clear ex c1 c2 HC; go_wp2; go_roundw
      case rel => exact ⟨i + 1, fr, ps, by omega, by omega, by go_num, rfl, hown, HC1, by omega, hS⟩
      case measure => simp [intOf]; omega
  . have e : i = s.size := by omega
    subst e
    have HC1 : Hid (ps ++ [s.extract fr s.size] = pcs 32 (rp s)) := hide (by
     have h9 := HC.out; rw [HC.out.ext hik]; rw [<- HRS.out] at h9 ⊢; exact h9.end_)
    go_wp2_with (at_builtin; refine wpList_append_own _ rfl _ _ 45 rfl w.heap.size 9 i0 (.string ByteArray.empty) 1 16 Tryz.underlying45 hi hz0 hz1 hz2 rfl (by decide) _ _ _ rfl (hown.alloc _) ⟨wr.heap.size, 0, none⟩ 1 1 [.string (s.extract fr s.size)] rfl rfl (xj2 _ _ _) (xj6 _ rfl) (by unfold maxLen; omega) (by omega) (by simp; omega) ?_)
    intro v' w1 hown' hgrow hnn; have hs2 : w.Since w.heap.size w1 := (hS.alloc hS.size _).grown hgrow (by simp; omega) (fun k hk => (hown.lt k hk).1); rw [show ps.map Value.string ++ [.string (s.extract fr s.size)] = (ps ++ [s.extract fr s.size]).map Value.string by simp, show ps.length + 1 = (ps ++ [s.extract fr s.size]).length by simp, HC1.out] at hown'; clear hgrow hnn hown; go_wp2; go_ret; exact ⟨_, rfl, hown', hs2⟩
theorem l2Words_2 (s : ByteArray) (w : World) (hs : s.size <= 1048576) :
 Calls Tryz.prog 50 #[.string s, .int .u8 32, .int .u8 10] w fun e w' => ∃ g cap, e = .returned (.slice (some ⟨g, 0, none⟩) (xj7 (rp s)).length cap) /\ StrO w' w.heap.size g cap (xj7 (rp s)) /\ w.Since w.heap.size w' := by
 obtain ⟨i0, hi, hz0, hz1, hz2⟩ := info_parts infoS; have sA := sal w (.cells #[] 9); have oA : (w.alloc (.cells #[] 9)).ownsRow w.heap.size 9 1 (.slice (some ⟨w.heap.size, 0, none⟩) 0 0) 0 [] := World.ownsRow_made w #[] 0 (Nat.le_refl _) (Nat.zero_le _) rfl; have ZA := hide (show (w.alloc (.cells #[] 9)).heap.size = w.heap.size + 1 by simp); have HW : Hid (xj7 (rp s) = (pcs 32 (rp s)).filter fun p => decide (0 < p.size)) := hide rfl; have HPL := pcs_len 32 (rp s); rw [rp_size] at HPL; obtain ⟨P, hP⟩ : ∃ P, pcs 32 (rp s) = P := ⟨_, rfl⟩
 have HZ : Hid (∀ x ∈ P, x.size <= s.size) := hide (fun x hx => by
  have h9 := pcs_le (c := 32) (s := rp s) (p := x) (by rw [hP]; exact hx); rw [rp_size] at h9; exact h9)
 rw [hP] at HW HPL; have HP := hide hP; clear hP; go_enter Tryz.func50, Tryz.ntmps50; go_wp2_with fail; generalize w.alloc (.cells #[] 9) = wA at *; have JC : Calls Tryz.prog 49 #[.string s, .int .u8 32, .int .u8 10] wA fun e w' => ∃ v, e = .returned v /\ w'.ownsRow wA.heap.size 9 1 v (pcs 32 (rp s)).length ((pcs 32 (rp s)).map Value.string) /\ wA.Since wA.heap.size w' := l1Cut_2 s wA (by omega)
 refine JC.mono ?_; rintro e w1 ⟨v1, rfl, OP, s1⟩; have OP : w1.ownsRow wA.heap.size 9 1 v1 P.length (P.map Value.string) := by rw [<- HP.out]; exact OP
 have hpp : 0 < P.length := by rw [<- HP.out]; exact pcs_pos 32 (rp s)
 obtain ⟨gP, cP, rfl, hg1, -⟩ := OP.form hpp; obtain ⟨cP', bP, lP, -⟩ := StrO.cells OP; have CP := hide cP'; have HgP : Hid (w.heap.size < gP) := hide (by have := ZA.out; omega); clear JC cP' OP; have S1 := sA.trans (sM s1 sA.size); have z1 := s1.size; have o1 := yj0 oA s1; go_wp2_with fail
 go_loopw [7, 9] (fun u i wr => ∃ k : Nat, k <= P.length /\ i = .int .i64 (k : Int) /\ w.Since w.heap.size wr /\ Hid (∀ (j : Nat) (x : ByteArray), P[j]? = some x -> wr.cell? ⟨gP, j, none⟩ = some (.string x)) /\ gP < wr.heap.size /\ ∃ g cap m, u = .slice (some ⟨g, 0, none⟩) m cap /\ g ≠ gP /\ m <= k /\ wr.ownsRow w.heap.size 9 1 (.slice (some ⟨g, 0, none⟩) m cap) m (((P.take k).filter fun p => decide (0 < p.size)).map Value.string)) (fun _ i _ => P.length - (intOf i).toNat)
 case atStart => exact ⟨0, Nat.zero_le _, rfl, S1, CP, lP, w.heap.size, 0, 0, rfl, by have := HgP.out; omega, Nat.le_refl _, o1⟩
 case round =>
  obtain ⟨k, hk, rfl, s2, cp, lp, g, cap, m, rfl, hne, hmk, O⟩ := hrel
  by_cases hlt : k < P.length
  . have hlt' : (k : Int) < (P.length : Int) := by omega
    obtain ⟨x, hx⟩ : ∃ x, P[k]? = some x := ⟨_, List.getElem?_eq_getElem hlt⟩; have g0 := cp.out k x hx; have hxz : x.size <= s.size := HZ.out x (List.mem_of_getElem? hx); have tf := take_filter hx
    by_cases hx0 : 0 < x.size
    . rw [if_pos hx0] at tf
      have TF := hide tf; have hx1 : (0 : Int) < (x.size : Int) := by omega
      clear tf hx
      go_wp2_with (at_builtin; refine wpList_append_own_at _ rfl _ _ 45 rfl w.heap.size 9 i0 (.string ByteArray.empty) 1 16 Tryz.underlying45 hi hz0 hz1 hz2 rfl (by decide) _ _ _ rfl (O.alloc _) ⟨wr.heap.size, 0, none⟩ 1 1 [.string x] rfl rfl (xj2 _ _ _) (xj6 _ rfl) (by unfold maxLen; omega) (by omega) (by have := s2.size; simp; omega) ?_)
      intro v' w5 hown' hgrow hnn hat; replace hgrow : (wr.alloc (.cells #[.string x] 9)).grownBy w5 (Value.slice (some ⟨g, 0, none⟩) m cap).ownBlock := hgrow; obtain ⟨g', capn, rfl, hg1, hg2⟩ := hown'.form (by omega); have sW := sal wr (.cells #[.string x] 9); have zW : (wr.alloc (.cells #[.string x] 9)).heap.size = wr.heap.size + 1 := by simp
      have z5 := hgrow.size; have S5 := (s2.trans (sM sW s2.size)).grown hgrow (by have := s2.size; omega) (fun q hq => (O.lt q hq).1); have kb : w5.heap[gP]? = wr.heap[gP]? := (hgrow.block gP (by omega) (by simp [Value.ownBlock]; omega)).trans (sW.block gP lp); have C5 : Hid (∀ (j : Nat) (x : ByteArray), P[j]? = some x -> w5.cell? ⟨gP, j, none⟩ = some (.string x)) := hide (fun j x h => (World.cell?_of_block (a := ⟨gP, j, none⟩) kb).trans (cp.out j x h))
      have hne5 : g' ≠ gP := by
       rcases hat with h | h
       . simp [Value.ownBlock] at h; omega
       . simp [Value.ownBlock] at h; omega
      have O5 : w5.ownsRow w.heap.size 9 1 (.slice (some ⟨g', 0, none⟩) (m + 1) capn) (m + 1) (((P.take (k + 1)).filter fun p => decide (0 < p.size)).map Value.string) := by
       rw [TF.out, List.map_append]; exact hown'
      clear hnn hat hown' hgrow kb g0; go_wp2; go_roundw
      case rel => exact ⟨k + 1, by omega, by go_num, S5, C5, by omega, g', capn, m + 1, rfl, hne5, by omega, O5⟩
      case measure => simp [intOf]; omega
    . rw [if_neg hx0, List.append_nil] at tf
      have O5 : wr.ownsRow w.heap.size 9 1 (.slice (some ⟨g, 0, none⟩) m cap) m (((P.take (k + 1)).filter fun p => decide (0 < p.size)).map Value.string) := by rw [tf]; exact O
      have O5 := hide O5; have hx1 : ¬ ((0 : Int) < (x.size : Int)) := by omega
      clear tf hx hx0; go_wp2; go_roundw
      case rel => exact ⟨k + 1, by omega, by go_num, s2, cp, lp, g, cap, m, rfl, hne, by omega, O5.out⟩
      case measure => simp [intOf]; omega
  . have e : k = P.length := by omega
    subst e
    have O5 : StrO wr w.heap.size g cap (xj7 (rp s)) /\ m = (xj7 (rp s)).length := by
     rw [List.take_length, <- HW.out] at O; have hm : m = (xj7 (rp s)).length := by have := O.1; rw [List.length_map] at this; omega
     subst hm; exact ⟨O, rfl⟩
    obtain ⟨O5, rfl⟩ := O5; have O5 := hide O5; clear O; go_wp2; go_ret; exact ⟨g, cap, rfl, O5.out, s2⟩
def rpl (l : List UInt8) : List UInt8 := l.map fun b => if b = 10 then 32 else b
theorem rp_list (s : ByteArray) : rp s = ⟨(rpl s.data.toList).toArray⟩ := rfl
theorem rpl_app (a b : List UInt8) : rpl (a ++ b) = rpl a ++ rpl b := by simp [rpl]
theorem rpl_len (a : List UInt8) : (rpl a).length = a.length := by simp [rpl]
theorem rpl_no {l : List UInt8} (h : l.count 10 = 0) : rpl l = l := by
 refine (List.map_congr_left (g := id) (fun x hx => ?_)).trans (List.map_id _); have hx10 : x ≠ 10 := fun e => by subst e; exact absurd hx (List.count_eq_zero.1 h)
 simp [hx10]
theorem rpl_hit {l : List UInt8} {j : Nat} (hj : j < l.length) (hat : l[j]? = some 10) (hno : ∀ k, k < j -> l[k]? ≠ some 10) : l.count 10 = (l.drop (j + 1)).count 10 + 1 /\ rpl l = l.take j ++ 32 :: rpl (l.drop (j + 1)) := by
 have hget : l[j] = 10 := by rw [List.getElem?_eq_getElem hj] at hat; simpa using hat
 have h0 : (l.take j).count 10 = 0 := List.count_eq_zero.2 (fun hm => by
  obtain ⟨k, hk, ek⟩ := List.getElem_of_mem hm; rw [List.length_take] at hk; rw [List.getElem_take] at ek; exact hno k (by omega) (by rw [List.getElem?_eq_getElem (by omega), ek]))
 have hs : l = l.take j ++ (10 :: l.drop (j + 1)) := by
  rw [<- hget, List.getElem_cons_drop, List.take_append_drop]
 constructor
 . conv => lhs; rw [hs]
   rw [List.count_append, h0, List.count_cons_self]; omega
 . conv => lhs; rw [hs]
   rw [rpl_app, rpl_no h0]
   rfl
theorem firstIdx_l (t : ByteArray) {m : Nat} (h : t.data.toList.count 10 = m + 1) : ∃ j : Nat, j < t.size /\ firstIdx t 10 = (j : Int) /\ (t.data.toList.drop (j + 1)).count 10 = m /\ rpl t.data.toList = t.data.toList.take j ++ 32 :: rpl (t.data.toList.drop (j + 1)) := by
 have hbt : ∀ k, k < t.size -> (bt t k = 10 ↔ t.data.toList[k]? = some 10) := fun k hk => by
  have hl : k < t.data.toList.length := by rw [<- Lib.size_eq]; exact hk
  unfold bt; rw [List.getElem?_eq_getElem hl, Option.getD_some, Option.some.injEq, <- UInt8.toNat_inj]; exact Iff.rfl
 rcases firstIdx_c t 10 with ⟨-, hno⟩ | ⟨j, hj, e, hb, hno⟩
 . have := List.count_eq_zero.2 (mem_bt hno)
   omega
 . have hj' : j < t.data.toList.length := by rw [<- Lib.size_eq]; exact hj
   obtain ⟨h1, h2⟩ := rpl_hit hj' ((hbt j hj).1 hb) (fun k hk h9 => hno k hk ((hbt k (by omega)).2 h9)); exact ⟨j, hj, e, by omega, h2⟩
theorem ext_list (s : ByteArray) (a b : Nat) : s.extract a b = ⟨((s.data.toList.drop a).take (b - a)).toArray⟩ := xw9 (by rw [Lib.extract_data])
theorem pcs_count (c : UInt8) (s : ByteArray) : (pcs c s).length = s.data.toList.count c + 1 := by
 unfold pcs; rw [List.length_map, cutL_count]
end Go.Proofs.YtnogbaapcjjngaaGreatDoor
