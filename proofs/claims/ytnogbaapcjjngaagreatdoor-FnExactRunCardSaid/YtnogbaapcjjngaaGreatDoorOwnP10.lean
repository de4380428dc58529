import Derived.Test.YtnogbaapcjjngaaGreatDoorOwnP6
import Derived.Test.YtnogbaapcjjngaaGreatDoorOwnP3
import Derived.Maps.AppendAt
import Derived.Lib.Explode
import Derived.Deep.OwnRows
set_option maxHeartbeats 6400000
set_option maxRecDepth 100000
namespace Go.Proofs.YtnogbaapcjjngaaGreatDoor
open Go.RowKit
def cutL (c : UInt8) : List UInt8 -> List (List UInt8)
 | [] => [[]]
 | x :: xs => if x = c then [] :: cutL c xs else match cutL c xs with
   | p :: ps => (x :: p) :: ps
   | [] => [[x]]
theorem cutL_ne (c : UInt8) : ∀ l, cutL c l ≠ []
 | [] => by simp [cutL]
 | x :: xs => by
   unfold cutL
   split
   . simp
   . cases cutL c xs <;> simp
theorem cutL_none (c : UInt8) : ∀ l, c ∉ l -> cutL c l = [l]
 | [], _ => rfl
 | x :: xs, h => by
   simp only [List.mem_cons, not_or] at h; rw [cutL, if_neg (fun e => h.1 e.symm), cutL_none c xs h.2]
theorem cutL_hit (c : UInt8) (b : List UInt8) : ∀ a, c ∉ a -> cutL c (a ++ c :: b) = a :: cutL c b
 | [], _ => by simp [cutL]
 | x :: xs, h => by
   simp only [List.mem_cons, not_or] at h; rw [List.cons_append, cutL, if_neg (fun e => h.1 e.symm), cutL_hit c b xs h.2]
theorem cutL_len (c : UInt8) : ∀ l, (cutL c l).length <= l.length + 1
 | [] => by simp [cutL]
 | x :: xs => by
   have h := cutL_len c xs; unfold cutL
   split
   . simp; omega
   . cases e : cutL c xs with
     | nil => simp
     | cons p ps => rw [e] at h; simp at h ⊢; omega
def pcs (c : UInt8) (s : ByteArray) : List ByteArray := (cutL c s.data.toList).map fun l => ⟨l.toArray⟩
theorem pcs_len (c : UInt8) (s : ByteArray) : (pcs c s).length <= s.size + 1 := by
 unfold pcs; rw [List.length_map, Lib.size_eq]; exact cutL_len c _
theorem back (s : ByteArray) : (⟨s.data.toList.toArray⟩ : ByteArray) = s := by cases s; simp
theorem mem_bt {s : ByteArray} {c : UInt8} (h : ∀ k, k < s.size -> bt s k ≠ c.toNat) : c ∉ s.data.toList := fun hm => by
 obtain ⟨k, hk, e⟩ := List.getElem_of_mem hm; refine h k (by rw [Lib.size_eq]; exact hk) ?_; unfold bt; rw [List.getElem?_eq_getElem hk, Option.getD_some, e]
theorem pcs_none {c : UInt8} {s : ByteArray} (h : ∀ k, k < s.size -> bt s k ≠ c.toNat) : pcs c s = [s] := by
 unfold pcs; rw [cutL_none c _ (mem_bt h)]
 simp
theorem pcs_hit {c : UInt8} {s : ByteArray} {i : Nat} (hi : i < s.size) (hb : bt s i = c.toNat) (h : ∀ k, k < i -> bt s k ≠ c.toNat) : pcs c s = s.extract 0 i :: pcs c (s.extract (i + 1) s.size) := by
 have hl : i < s.data.toList.length := by rw [<- Lib.size_eq]; exact hi
 have e1 : (s.extract 0 i).data.toList = s.data.toList.take i := by rw [Lib.extract_data, List.drop_zero, Nat.sub_zero]
 have e2 : (s.extract (i + 1) s.size).data.toList = s.data.toList.drop (i + 1) := by
  rw [Lib.extract_data, List.take_of_length_le]; rw [List.length_drop, <- Lib.size_eq]; omega
 have e3 : s.data.toList[i]'hl = c := by
  unfold bt at hb; rw [List.getElem?_eq_getElem hl, Option.getD_some] at hb; exact UInt8.toNat_inj.1 hb
 have e4 : s.data.toList = s.data.toList.take i ++ c :: s.data.toList.drop (i + 1) := by
  conv => lhs; rw [<- List.take_append_drop i s.data.toList, List.drop_eq_getElem_cons hl, e3]
 have hn : c ∉ s.data.toList.take i := by
  rw [<- e1]; refine mem_bt (fun k hk => ?_); rw [yj8 s (Nat.zero_le _) (by omega)] at hk; rw [bt_ext s (by omega), Nat.zero_add]; exact h k (by omega)
 have e5 : (⟨(s.data.toList.take i).toArray⟩ : ByteArray) = s.extract 0 i := by rw [<- e1, back]
 unfold pcs; rw [e2]
 conv => lhs; rw [e4]
 rw [cutL_hit c _ _ hn, List.map_cons, e5]
structure CutC (c : UInt8) (s : ByteArray) (i : Nat) (ps : List ByteArray) (f : Nat) : Prop where
 le : f <= i
 no : ∀ k, f <= k -> k < i -> bt s k ≠ c.toNat
 eq : pcs c s = ps ++ pcs c (s.extract f s.size)
theorem CutC.start (c : UInt8) (s : ByteArray) : CutC c s 0 [] 0 := ⟨Nat.le_refl _, fun k _ h => absurd h (by omega), by rw [Lib.whole_piece]; rfl⟩
theorem CutC.skip {c : UInt8} {s : ByteArray} {i f : Nat} {ps : List ByteArray} (h : CutC c s i ps f) (hb : bt s i ≠ c.toNat) : CutC c s (i + 1) ps f :=
 ⟨by have := h.le; omega, fun k h1 h2 => by
   by_cases e : k = i
   . subst e; exact hb
   . exact h.no k h1 (by omega), h.eq⟩
theorem ext_of (s : ByteArray) {f a b : Nat} (hb : f + b <= s.size) : (s.extract f s.size).extract a b = s.extract (f + a) (f + b) := by
 apply xw9
 rw [Lib.extract_data, Lib.extract_data, Lib.extract_data, List.drop_take, List.drop_drop, List.take_take]
 congr 1
 omega
theorem CutC.hit {c : UInt8} {s : ByteArray} {i f : Nat} {ps : List ByteArray} (h : CutC c s i ps f) (hi : i < s.size) (hb : bt s i = c.toNat) : CutC c s (i + 1) (ps ++ [s.extract f i]) (i + 1) := by
 have hle := h.le; refine ⟨Nat.le_refl _, fun k h1 h2 => absurd h1 (by omega), ?_⟩; have hz : (s.extract f s.size).size = s.size - f := yj8 s (by omega) (Nat.le_refl _)
 have e := pcs_hit (c := c) (s := s.extract f s.size) (i := i - f) (by omega) (by rw [bt_ext s (by omega), show f + (i - f) = i by omega]; exact hb) (fun k hk => by
  rw [bt_ext s (by omega)]; exact h.no _ (by omega) (by omega))
 rw [h.eq, e, hz, ext_of s (by omega), ext_of s (by omega), show f + (i - f) = i by omega, show f + 0 = f by omega, show f + (i - f + 1) = i + 1 by omega, show f + (s.size - f) = s.size by omega]
 simp
theorem CutC.end_ {c : UInt8} {s : ByteArray} {f : Nat} {ps : List ByteArray} (h : CutC c s s.size ps f) : ps ++ [s.extract f s.size] = pcs c s := by
 have hle := h.le; rw [h.eq, pcs_none (s := s.extract f s.size)]; intro k hk; rw [yj8 s hle (Nat.le_refl _)] at hk; rw [bt_ext s (by omega)]; exact h.no _ (by omega) (by omega)
theorem infoS : (Tryz.prog.info? 9).map (fun i => (i.zero, i.size, i.bytes)) = some (some (.string ByteArray.empty), 1, 16) := by kernel_rfl
theorem l1Cut_c (c : UInt8) (s : ByteArray) (w : World) (hs : s.size <= 1048577) :
 Calls Tryz.prog 49 #[.string s, .int .u8 (c.toNat : Int), .int .u8 (c.toNat : Int)] w fun e w' => ∃ v, e = .returned v /\ w'.ownsRow w.heap.size 9 1 v (pcs c s).length ((pcs c s).map Value.string) /\ w.Since w.heap.size w' := by
 obtain ⟨i0, hi, hz0, hz1, hz2⟩ := info_parts infoS; obtain ⟨cc, hcc⟩ : ∃ cc : Nat, c.toNat = cc := ⟨_, rfl⟩; rw [hcc]; go_enter Tryz.func49, Tryz.ntmps49; go_wp2
 go_loopw [7, 8, 9] (fun v f t wr => ∃ (i fr : Nat) (ps : List ByteArray), i <= s.size /\ fr <= i /\ t = .int .i64 i /\ f = .int .i64 fr /\ wr.ownsRow w.heap.size 9 1 v ps.length (ps.map Value.string) /\ Hid (CutC c s i ps fr) /\ ps.length <= i /\ w.Since w.heap.size wr) (fun _ _ t _ => s.size - (intOf t).toNat)
 case atStart => exact ⟨0, 0, [], Nat.zero_le _, Nat.le_refl _, rfl, rfl, World.ownsRow_made w #[] 0 (Nat.le_refl _) (by decide) rfl, hide (CutC.start c s), Nat.le_refl _, (World.Since.refl _ _).alloc (Nat.le_refl _) _⟩
 case round =>
  obtain ⟨i, fr, ps, hik, hfr, rfl, rfl, hown, HC, hpl, hS⟩ := hrel; have hs1 := hS.size
  by_cases hlt : i < s.size
  . have hlt' : (i : Int) < (s.size : Int) := by omega
    have hx := bt_in hlt; have hx2 := bt_lt s i
    by_cases c1 : bt s i = cc
    . have HC1 := hide (HC.out.hit hlt (c1.trans hcc.symm))
      rw [c1] at hx; have hb0 : (0 : Int) <= (fr : Int) := by omega
      have hb1 : (fr : Int) <= (i : Int) := by omega
      have HCC := hide hcc; clear c1 hx2 HC hcc
      go_wp2_with (at_builtin; refine wpList_append_own _ rfl _ _ 45 rfl w.heap.size 9 i0 (.string ByteArray.empty) 1 16 Tryz.underlying45 hi hz0 hz1 hz2 rfl (by decide) _ _ _ rfl (hown.alloc _) ⟨wr.heap.size, 0, none⟩ 1 1 [.string (s.extract fr i)] rfl rfl (xj2 _ _ _) (xj6 _ rfl) (by unfold maxLen; omega) (by omega) (by simp; omega) ?_)
      intro v' w1 hown' hgrow hnn; have hs2 : w.Since w.heap.size w1 := (hS.alloc hS.size _).grown hgrow (by simp; omega) (fun k hk => (hown.lt k hk).1); rw [show ps.map Value.string ++ [.string (s.extract fr i)] = (ps ++ [s.extract fr i]).map Value.string by simp, show ps.length + 1 = (ps ++ [s.extract fr i]).length by simp] at hown'; clear hgrow hnn hown; go_wp2; go_roundw
      case rel => exact ⟨i + 1, i + 1, _, by omega, by omega, by go_num, by go_num, hown', HC1, by simp; omega, hs2⟩
      case measure => simp [intOf]; omega
    . have HC1 := hide (HC.out.skip (fun e => c1 (e.trans hcc)))
      have c1' : ¬ ((bt s i : Int) = (cc : Int)) := by omega
      obtain ⟨x, ex⟩ : ∃ x, x = bt s i := ⟨_, rfl⟩; rw [<- ex] at hx hx2 c1'; have hxb : ((x : Int) == (cc : Int)) = false := by simpa using c1'
      have HCC := hide hcc; clear ex c1 HC hcc; go_wp2; go_roundw
      case rel => exact ⟨i + 1, fr, ps, by omega, by omega, by go_num, rfl, hown, HC1, by omega, hS⟩
      case measure => simp [intOf]; omega
  . have e : i = s.size := by omega
    subst e; have HC1 := hide HC.out.end_; have HCC := hide hcc; clear hcc
    go_wp2_with (at_builtin; refine wpList_append_own _ rfl _ _ 45 rfl w.heap.size 9 i0 (.string ByteArray.empty) 1 16 Tryz.underlying45 hi hz0 hz1 hz2 rfl (by decide) _ _ _ rfl (hown.alloc _) ⟨wr.heap.size, 0, none⟩ 1 1 [.string (s.extract fr s.size)] rfl rfl (xj2 _ _ _) (xj6 _ rfl) (by unfold maxLen; omega) (by omega) (by simp; omega) ?_)
    intro v' w1 hown' hgrow hnn; have hs2 : w.Since w.heap.size w1 := (hS.alloc hS.size _).grown hgrow (by simp; omega) (fun k hk => (hown.lt k hk).1); rw [show ps.map Value.string ++ [.string (s.extract fr s.size)] = (ps ++ [s.extract fr s.size]).map Value.string by simp, show ps.length + 1 = (ps ++ [s.extract fr s.size]).length by simp, HC1.out] at hown'; clear hgrow hnn hown; go_wp2; go_ret; exact ⟨_, rfl, hown', hs2⟩
theorem firstIdx_c (s : ByteArray) (c : UInt8) : (firstIdx s c = -1 /\ ∀ k, k < s.size -> bt s k ≠ c.toNat) ∨ ∃ i, i < s.size /\ firstIdx s c = (i : Int) /\ bt s i = c.toNat /\ ∀ k, k < i -> bt s k ≠ c.toNat := by
 have key : ∀ k, k < s.size -> ((s[k]! == c) = true ↔ bt s k = c.toNat) := fun k hk => by
  rw [getElem!_pos s k hk, beq_iff_eq, <- bt_in hk, <- UInt8.toNat_inj]
 unfold firstIdx; cases e : (List.range s.size).find? fun i => s[i]! == c with
 | none =>
   refine Or.inl ⟨rfl, fun k hk h => ?_⟩; have := List.find?_eq_none.1 e k (List.mem_range.2 hk); exact this ((key k hk).2 h)
 | some i =>
   obtain ⟨h1, h2, h3⟩ := List.find?_range_eq_some.1 e; have hi := List.mem_range.1 h2; refine Or.inr ⟨i, hi, rfl, (key i hi).1 h1, fun k hk h => ?_⟩; have := h3 k hk; rw [(key k (by omega)).2 h] at this; cases this
theorem c_back (c : UInt8) : ((c.toNat : Int)).toNat.toUInt8 = c := by
 rw [Int.toNat_natCast]; exact UInt8.ofNat_toNat
theorem indexByte_c (c : UInt8) (s : ByteArray) (w : World) :
 Calls Tryz.prog 197 #[.string s, .int .u8 (c.toNat : Int)] w fun e w' => e = .returned (.int .i64 (firstIdx s c)) /\ w' = w := by
 have hr : ∀ w, (Extern.BytealgIndexByte.indexByte #[.string s, .int .u8 (c.toNat : Int)]).run Tryz.prog w = .ok (.int .i64 (firstIdx s c)) w := fun w => by rw [run_indexByte_string, c_back]
 obtain ⟨cc, hcc⟩ : ∃ cc : Nat, c.toNat = cc := ⟨_, rfl⟩; rw [hcc] at hr ⊢; clear hcc; obtain ⟨z, hz⟩ : ∃ z, firstIdx s c = z := ⟨_, rfl⟩; rw [hz] at hr ⊢; clear hz; go_enter Tryz.func197, Tryz.ntmps197; go_wp2; rw [run_callFunc_extern Tryz.func223 (by kernel_rfl) (by kernel_rfl) (by kernel_rfl) (e := Extern.BytealgIndexByte.indexByte) (by kernel_rfl), hr]; simp only [Result.andThen]; rw [Oper.upon_value]; go_wp2; go_ret; exact ⟨rfl, rfl⟩
theorem index_c (c : UInt8) (s : ByteArray) (w : World) (hs : s.size <= 1048577) :
 Calls Tryz.prog 175 #[.string s, .string ⟨#[c]⟩] w fun e w' => e = .returned (.int .i64 (firstIdx s c)) /\ w' = w := by
 have J := indexByte_c c s w; obtain ⟨z, hz⟩ : ∃ z, z = firstIdx s c := ⟨_, rfl⟩; rw [<- hz] at J ⊢; obtain ⟨t, ht0⟩ : ∃ t : ByteArray, t = ⟨#[c]⟩ := ⟨_, rfl⟩; rw [<- ht0]; have hsz : t.size = 1 := by rw [ht0]; rfl
 have ht' : (t.size : Int) = 1 := by omega
 have h0 : 0 < t.size := by omega
 have hbc : bt t 0 = c.toNat := by rw [ht0]; rfl
 have hb : (t[0]'h0).toNat = c.toNat := (bt_in h0).trans hbc
 by_cases h : t.toList = s.toList
 . have he : t = s := xw9 (by rw [<- Lib.toList_data, <- Lib.toList_data, h])
   have hbe : (t.toList == t.toList) = true := by simp
   obtain rfl : z = 0 := by
    rw [hz, <- he]
    rcases firstIdx_c t c with ⟨-, h2⟩ | ⟨i, h2, h3, h4, h5⟩
    . exact absurd hbc (h2 0 h0)
    . rw [h3]; have : i = 0 := by omega
      omega
   subst he; clear hz J ht0; go_enter Tryz.func175, Tryz.ntmps175; go_wp2; go_ret; exact ⟨rfl, rfl⟩
 . have hbe : (t.toList == s.toList) = false := by simpa using h
   clear hz ht0; obtain ⟨cc, hcc⟩ : ∃ cc : Nat, c.toNat = cc := ⟨_, rfl⟩; rw [hcc] at hb J; clear hbc hcc; go_enter Tryz.func175, Tryz.ntmps175; go_wp2_with fail; refine J.mono ?_; rintro e w1 ⟨rfl, rfl⟩; clear J; go_wp2; go_ret; exact ⟨rfl, rfl⟩
theorem stringsIndex_c (c : UInt8) (s : ByteArray) (w : World) (hs : s.size <= 1048577) :
 Calls Tryz.prog 138 #[.string s, .string ⟨#[c]⟩] w fun e w' => e = .returned (.int .i64 (firstIdx s c)) /\ w' = w := by
 have J := index_c c s w hs; obtain ⟨t, ht⟩ : ∃ t : ByteArray, t = ⟨#[c]⟩ := ⟨_, rfl⟩; rw [<- ht] at J ⊢; clear ht; go_enter Tryz.func138, Tryz.ntmps138; go_wp2_with fail; refine J.mono ?_; rintro e w1 ⟨rfl, rfl⟩; clear J; go_wp2; go_ret; exact ⟨rfl, rfl⟩
theorem cutL_count (c : UInt8) : ∀ l : List UInt8, (cutL c l).length = l.count c + 1
 | [] => by simp [cutL]
 | x :: xs => by
   have h := cutL_count c xs; unfold cutL
   by_cases e : x = c
   . rw [if_pos e, List.length_cons, h, e, List.count_cons_self]
   . rw [if_neg e, List.count_cons_of_ne e, <- h]
     cases e2 : cutL c xs with
     | nil => exact absurd e2 (cutL_ne c xs)
     | cons p ps => simp
theorem stringsCount_c (c : UInt8) (s : ByteArray) (n : Nat) (hn : (pcs c s).length = n + 1) (w : World) :
 Calls Tryz.prog 137 #[.string s, .string ⟨#[c]⟩] w fun e w' => e = .returned (.int .i64 (n : Int)) /\ w' = w := by
 have hr : ∀ w, (Extern.BytealgCount.count #[.string s, .int .u8 (c.toNat : Int)]).run Tryz.prog w = .ok (.int .i64 (n : Int)) w := fun w => by
  rw [Lib.run_countString, c_back]; have := cutL_count c s.data.toList; unfold pcs at hn; rw [List.length_map] at hn; have e : Lib.countByte s.data.toList c = n := by show List.count c _ = n; omega
  rw [e]
 clear hn; obtain ⟨t, ht0⟩ : ∃ t : ByteArray, t = ⟨#[c]⟩ := ⟨_, rfl⟩; rw [<- ht0]; have hsz : t.size = 1 := by rw [ht0]; rfl
 have ht' : (t.size : Int) = 1 := by omega
 have h0 : 0 < t.size := by omega
 have hb : (t[0]'h0).toNat = c.toNat := (bt_in h0).trans (by rw [ht0]; rfl); obtain ⟨cc, hcc⟩ : ∃ cc : Nat, c.toNat = cc := ⟨_, rfl⟩; rw [hcc] at hb hr; clear ht0 hcc; go_enter Tryz.func137, Tryz.ntmps137; go_wp2; rw [run_callFunc_extern Tryz.func174 (by kernel_rfl) (by kernel_rfl) (by kernel_rfl) (e := Extern.BytealgCount.count) (by kernel_rfl), hr]; simp only [Result.andThen]; rw [Oper.upon_value]; go_wp2; go_ret; exact ⟨rfl, rfl⟩
def xj7 (s : ByteArray) : List ByteArray := (pcs 32 s).filter fun p => decide (0 < p.size)
def lnsF : Nat -> List ByteArray -> List (Nat × List ByteArray)
 | _, [] => []
 | t, l :: ls => if xj7 l = [] then lnsF (t + 1) ls else (t + 1, xj7 l) :: lnsF (t + 1) ls
theorem lnsF_append (t : Nat) (a b : List ByteArray) : lnsF t (a ++ b) = lnsF t a ++ lnsF (t + a.length) b := by
 induction a generalizing t with
 | nil => simp [lnsF]
 | cons x xs ih =>
   rw [List.cons_append, lnsF, lnsF, ih (t + 1), List.length_cons, show t + 1 + xs.length = t + (xs.length + 1) by omega]
   split <;> simp
theorem lnsF_blank {t : Nat} {L : List ByteArray} {l : ByteArray} (h : L[t]? = some l) (hb : xj7 l = []) : lnsF t (L.drop t) = lnsF (t + 1) (L.drop (t + 1)) := by
 obtain ⟨hl, e⟩ := List.getElem?_eq_some_iff.1 h; rw [List.drop_eq_getElem_cons hl, e, lnsF, if_pos hb]
theorem lnsF_line {t : Nat} {L : List ByteArray} {l : ByteArray} (h : L[t]? = some l) (hb : xj7 l ≠ []) : lnsF t (L.drop t) = (t + 1, xj7 l) :: lnsF (t + 1) (L.drop (t + 1)) := by
 obtain ⟨hl, e⟩ := List.getElem?_eq_some_iff.1 h; rw [List.drop_eq_getElem_cons hl, e, lnsF, if_neg hb]
theorem lnsF_end {t : Nat} {L : List ByteArray} (h : L.length <= t) : lnsF t (L.drop t) = [] := by
 rw [List.drop_of_length_le h]; rfl
theorem ext_le (s : ByteArray) (i j : Nat) : (s.extract i j).size <= s.size := by
 rw [Lib.size_eq, Lib.extract_data, List.length_take, List.length_drop, <- Lib.size_eq]; omega
theorem cutL_le (c : UInt8) : ∀ (l p : List UInt8), p ∈ cutL c l -> p.length <= l.length
 | [], p, h => by simp [cutL] at h; subst h; simp
 | x :: xs, p, h => by
   unfold cutL at h
   split at h
   . rcases List.mem_cons.1 h with rfl | h
     . simp
     . have := cutL_le c xs p h
       simp; omega
   . cases e : cutL c xs with
     | nil => exact absurd e (cutL_ne c xs)
     | cons q qs =>
       rw [e] at h; simp only [List.mem_cons] at h
       rcases h with rfl | h
       . have := cutL_le c xs q (by rw [e]; simp)
         simp; omega
       . have := cutL_le c xs p (by rw [e]; simp [h])
         simp; omega
theorem pcs_le {c : UInt8} {s p : ByteArray} (h : p ∈ pcs c s) : p.size <= s.size := by
 unfold pcs at h; obtain ⟨l, hl, rfl⟩ := List.mem_map.1 h; have := cutL_le c _ l hl; rw [<- Lib.size_eq] at this
 show l.toArray.size <= s.size
 rw [List.size_toArray]; exact this
theorem words_le {s p : ByteArray} (h : p ∈ xj7 s) : p.size <= s.size /\ 0 < p.size := by
 unfold xj7 at h; obtain ⟨h1, h2⟩ := List.mem_filter.1 h; exact ⟨pcs_le h1, by simpa using h2⟩
theorem pcs_one {c : UInt8} {s : ByteArray} (h : (pcs c s).length = 1) : pcs c s = [s] := by
 rcases firstIdx_c s c with ⟨-, h2⟩ | ⟨i, h2, -, h4, h5⟩
 . exact pcs_none h2
 . rw [pcs_hit h2 h4 h5] at h
   have := cutL_ne c (s.extract (i + 1) s.size).data.toList; unfold pcs at h; simp only [List.length_cons, List.length_map] at h; have : (cutL c (s.extract (i + 1) s.size).data.toList).length = 0 := by omega
   rw [List.length_eq_zero_iff] at this
   contradiction
theorem pcs_two {c : UInt8} {s : ByteArray} (h : 2 <= (pcs c s).length) : ∃ i, i < s.size /\ firstIdx s c = (i : Int) /\ pcs c s = s.extract 0 i :: pcs c (s.extract (i + 1) s.size) := by
 rcases firstIdx_c s c with ⟨-, h2⟩ | ⟨i, h2, h3, h4, h5⟩
 . rw [pcs_none h2] at h; simp at h
 . exact ⟨i, h2, h3, pcs_hit h2 h4 h5⟩
theorem pcs_pos (c : UInt8) (s : ByteArray) : 1 <= (pcs c s).length := by
 unfold pcs; rw [List.length_map, cutL_count]; omega
theorem genSplit_c (c : UInt8) (s : ByteArray) (w : World) (hs : s.size <= 1048576) :
 Calls Tryz.prog 92 #[.string s, .string ⟨#[c]⟩, .int .i64 0, .int .i64 (-1)] w fun e w' => e = .returned (.slice (some ⟨w.heap.size, 0, none⟩) (pcs c s).length (pcs c s).length) /\ Hid (∀ (j : Nat) (x : ByteArray), (pcs c s)[j]? = some x -> w'.cell? ⟨w.heap.size, j, none⟩ = some (.string x)) /\ w.heap.size < w'.heap.size /\ w.Since w.heap.size w' := by
 obtain ⟨n, hn⟩ : ∃ n, (pcs c s).length = n + 1 := ⟨(pcs c s).length - 1, by have := pcs_pos c s; omega⟩; have hnl : n + 1 <= s.size + 1 := by rw [<- hn]; exact pcs_len c s
 have JC := stringsCount_c c s n hn w; have JI := fun r w h => stringsIndex_c c r w h
 have HN := hide hn; rw [hn]; obtain ⟨t, ht0⟩ : ∃ t : ByteArray, t = ⟨#[c]⟩ := ⟨_, rfl⟩; rw [<- ht0] at JC ⊢; have hsz : t.size = 1 := by rw [ht0]; rfl
 have ht' : (t.size : Int) = 1 := by omega
 have hse : t.toList.isEmpty = false := by rw [Lib.toList_data, ht0]; rfl
 have HT0 := hide ht0; have hmin : min ((n : Int) + 1) ((s.size : Int) + 1) = (n : Int) + 1 := by omega
 have en1 : ((n + 1 : Nat) : Int) = (n : Int) + 1 := by omega
 have hmk := run_make_row' (P := Tryz.prog) 45 9 (.string ByteArray.empty) 16 Tryz.underlying45 infoS rfl .i64 .i64 (n + 1) (by omega) (by omega); simp only [en1] at hmk; clear en1; have rA := World.rowIs_made w (.string ByteArray.empty) (n + 1) 9; have sA := sal w (.cells (madeCells #[.string ByteArray.empty] (n + 1)) 9); clear hn ht0; go_enter Tryz.func92, Tryz.ntmps92; go_wp2_with fail; refine JC.mono ?_; rintro e w1 ⟨rfl, rfl⟩; clear JC; go_wp2_with fail; clear hmk hmin; have hn1 : (n : Int) + 1 - 1 = (n : Int) := by omega
 generalize w1.alloc (.cells (madeCells #[.string ByteArray.empty] (n + 1)) 9) = wA at *
 go_loopw [0, 10] (fun u i wr => ∃ (done : List ByteArray) (r : ByteArray) (f : Nat -> Value), u = .string r /\ i = .int .i64 (done.length : Int) /\ done.length <= n /\ r.size <= s.size /\ Hid (pcs c s = done ++ pcs c r) /\ wr.rowIs w1.heap.size 9 (n + 1) f /\ Hid (∀ (j : Nat) (x : ByteArray), done[j]? = some x -> f j = .string x) /\ w1.Since w1.heap.size wr) (fun _ i _ => n - (intOf i).toNat)
 case atStart => exact ⟨[], s, _, rfl, rfl, Nat.zero_le _, Nat.le_refl _, hide rfl, rA, hide (fun j x h => by simp at h), sA⟩
 case round =>
  obtain ⟨done, r, f, rfl, rfl, hd, hr, HE, R, HF, S⟩ := hrel
  have hpl : (pcs c r).length = n + 1 - done.length := by
   have := congrArg List.length HE.out; rw [HN.out, List.length_append] at this; omega
  have lr := R.lt; obtain ⟨d, hdl⟩ : ∃ d, done.length = d := ⟨_, rfl⟩; rw [hdl] at hd hpl ⊢; have HD := hide hdl; clear hdl
  by_cases hlt : d < n
  . have hlt' : (d : Int) < (n : Int) := by omega
    obtain ⟨i, hi1, hi2, hi3⟩ := pcs_two (c := c) (s := r) (by omega); have HI3 := hide hi3; have JR := JI r wr (by omega); rw [hi2, <- HT0.out] at JR; have hz1 : (r.extract (i + 1) r.size).size <= s.size := Nat.le_trans (ext_le r _ _) hr; have hz2 : (r.extract 0 i).size <= s.size := Nat.le_trans (ext_le r _ _) hr; have c0 : wr.cell? ⟨w1.heap.size, d, none⟩ = some (f d) := R.cell (by omega); have f0 := R.frozen d; have R' := R.set d (.string (r.extract 0 i)); have S' : w1.Since w1.heap.size (wr.setCell ⟨w1.heap.size, d, none⟩ (.string (r.extract 0 i))) := S.setCell (Nat.le_refl _) _; have ii : ¬ ((i : Int) < 0) := by omega
    have i2 : (i : Int) <= (r.size : Int) := by omega
    have i3 : (i : Int) + 1 <= (r.size : Int) := by omega
    have hdn : (d : Int) < (n : Int) + 1 := by omega
    clear hi2 hi3 hpl JI; go_wp2_with fail; refine JR.mono ?_; rintro e w2 ⟨rfl, hw2⟩; subst hw2; clear JR; go_wp2; go_roundw
    case rel =>
     refine ⟨done ++ [r.extract 0 i], r.extract (i + 1) r.size, _, rfl, ?_, ?_, hz1, hide ?_, R', hide ?_, S'⟩
     . rw [List.length_append, HD.out]; simp
     . rw [List.length_append, HD.out]; simp; omega
     . rw [HE.out, HI3.out]; simp
     . intro j x hx
       show (if j = d then Value.string (r.extract 0 i) else f j) = .string x
       by_cases e : j = d
       . subst e
         rw [List.getElem?_append_right (by rw [HD.out]; exact Nat.le_refl _), HD.out, Nat.sub_self] at hx
         simp at hx
         rw [if_pos rfl, hx]
       . rw [if_neg e]
         by_cases hj : j < done.length
         . rw [List.getElem?_append_left hj] at hx
           exact HF.out j x hx
         . rw [List.getElem?_eq_none (by rw [List.length_append]; have := HD.out; simp; omega)] at hx
           cases hx
    case measure => simp [intOf]; omega
  . have e : d = n := by omega
    subst e; have hone := pcs_one (c := c) (s := r) (by omega); have c0 : wr.cell? ⟨w1.heap.size, d, none⟩ = some (f d) := R.cell (by omega); have f0 := R.frozen d; have R' := R.set d (.string r); have S' : w1.Since w1.heap.size (wr.setCell ⟨w1.heap.size, d, none⟩ (.string r)) := S.setCell (Nat.le_refl _) _; have hdn : (d : Int) < (d : Int) + 1 := by omega
    have HO := hide hone; have hz3 : w1.heap.size < (wr.setCell ⟨w1.heap.size, d, none⟩ (.string r)).heap.size := R'.lt; clear JI hpl hone; go_wp2; go_ret; refine ⟨rfl, hide (fun j x hx => ?_), hz3, S'⟩; rw [HE.out, HO.out] at hx
    have hj : j < d + 1 := by
     have := (List.getElem?_eq_some_iff.1 hx).1; rw [List.length_append, HD.out] at this
     simpa using this
    rw [R'.cell hj]
    show some (if j = d then Value.string r else f j) = some (.string x)
    by_cases e : j = d
    . subst e
      rw [List.getElem?_append_right (by rw [HD.out]; exact Nat.le_refl _), HD.out, Nat.sub_self] at hx
      simp at hx
      rw [if_pos rfl, hx]
    . rw [if_neg e]
      rw [List.getElem?_append_left (by rw [HD.out]; omega)] at hx; rw [HF.out j x hx]
theorem split_c (c : UInt8) (s : ByteArray) (w : World) (hs : s.size <= 1048576) :
 Calls Tryz.prog 58 #[.string s, .string ⟨#[c]⟩] w fun e w' => e = .returned (.slice (some ⟨w.heap.size, 0, none⟩) (pcs c s).length (pcs c s).length) /\ Hid (∀ (j : Nat) (x : ByteArray), (pcs c s)[j]? = some x -> w'.cell? ⟨w.heap.size, j, none⟩ = some (.string x)) /\ w.heap.size < w'.heap.size /\ w.Since w.heap.size w' := by
 have J := genSplit_c c s w hs; obtain ⟨t, ht⟩ : ∃ t : ByteArray, t = ⟨#[c]⟩ := ⟨_, rfl⟩; rw [<- ht] at J ⊢; clear ht; go_enter Tryz.func58, Tryz.ntmps58; go_wp2_with fail; refine J.mono ?_; rintro e w1 ⟨rfl, h1, h2, h3⟩; clear J; go_wp2; go_ret; exact ⟨rfl, h1, h2, h3⟩
theorem Tryz.info9 : (Tryz.prog.info? 9).map (fun i => (i.zero, i.size, i.bytes)) = some (some (.string ByteArray.empty), 1, 16) := by kernel_rfl
def CutI (s : ByteArray) (i : Nat) (ps : List ByteArray) (f : Nat) : Prop :=
 (ps = [] /\ f = 0 /\ ∀ k, k < i -> bt s k ≠ 47) ∨
 (∃ j, j < i /\ bt s j = 47 /\ (∀ k, k < i -> k ≠ j -> bt s k ≠ 47) /\ ps = [s.extract 0 j] /\ f = j + 1) ∨
 (2 <= ps.length /\ ∃ j j', j < j' /\ j' < i /\ bt s j = 47 /\ bt s j' = 47)
def CutR (s : ByteArray) (qs : List ByteArray) : Prop :=
 (qs = [s] /\ ∀ k, k < s.size -> bt s k ≠ 47) ∨
 (∃ j, j < s.size /\ bt s j = 47 /\ (∀ k, k < s.size -> k ≠ j -> bt s k ≠ 47) /\ qs = [s.extract 0 j, s.extract (j + 1) s.size]) ∨
 (3 <= qs.length /\ ∃ j j', j < j' /\ j' < s.size /\ bt s j = 47 /\ bt s j' = 47)
theorem cutI_skip {s : ByteArray} {i : Nat} {ps : List ByteArray} {f : Nat} (h : CutI s i ps f) (hb : bt s i ≠ 47) : CutI s (i + 1) ps f := by
 rcases h with ⟨h1, h2, h3⟩ | ⟨j, h1, h2, h3, h4, h5⟩ | ⟨h1, j, j', h2, h3, h4, h5⟩
 . refine Or.inl ⟨h1, h2, fun k hk => ?_⟩
   by_cases e : k = i
   . subst e; exact hb
   . exact h3 k (by omega)
 . refine Or.inr (Or.inl ⟨j, by omega, h2, fun k hk hne => ?_, h4, h5⟩)
   by_cases e : k = i
   . subst e; exact hb
   . exact h3 k (by omega) hne
 . exact Or.inr (Or.inr ⟨h1, j, j', h2, by omega, h4, h5⟩)
theorem cutI_hit {s : ByteArray} {i : Nat} {ps : List ByteArray} {f : Nat} (h : CutI s i ps f) (hb : bt s i = 47) : CutI s (i + 1) (ps ++ [s.extract f i]) (i + 1) := by
 rcases h with ⟨rfl, rfl, h3⟩ | ⟨j, h1, h2, h3, rfl, h5⟩ | ⟨h1, j, j', h2, h3, h4, h5⟩
 . exact Or.inr (Or.inl ⟨i, by omega, hb, fun k hk hne => h3 k (by omega), rfl, rfl⟩)
 . exact Or.inr (Or.inr ⟨by simp, j, i, h1, by omega, h2, hb⟩)
 . exact Or.inr (Or.inr ⟨by simp; omega, j, j', h2, by omega, h4, h5⟩)
theorem cutI_end {s : ByteArray} {ps : List ByteArray} {f : Nat} (h : CutI s s.size ps f) : CutR s (ps ++ [s.extract f s.size]) := by
 rcases h with ⟨rfl, rfl, h3⟩ | ⟨j, h1, h2, h3, rfl, rfl⟩ | ⟨h1, j, j', h2, h3, h4, h5⟩
 . exact Or.inl ⟨by rw [Lib.whole_piece]; rfl, h3⟩
 . exact Or.inr (Or.inl ⟨j, h1, h2, h3, rfl⟩)
 . exact Or.inr (Or.inr ⟨by simp; omega, j, j', h2, h3, h4, h5⟩)
theorem l1Cut_any (s : ByteArray) (w : World) (hs : s.size <= 16777217) :
 Calls Tryz.prog 49 #[.string s, .int .u8 47, .int .u8 47] w fun e w' => ∃ v qs, e = .returned v /\ w'.ownsRow w.heap.size 9 1 v qs.length (qs.map Value.string) /\ CutR s qs /\ qs.length <= s.size + 1 /\ w.Since w.heap.size w' := by
 obtain ⟨i0, hi, hz0, hz1, hz2⟩ := info_parts Tryz.info9; go_enter Tryz.func49, Tryz.ntmps49; go_wp2
 go_loopw [7, 8, 9] (fun v f t wr => ∃ (i fr : Nat) (ps : List ByteArray), i <= s.size /\ fr <= i /\ t = .int .i64 i /\ f = .int .i64 fr /\ wr.ownsRow w.heap.size 9 1 v ps.length (ps.map Value.string) /\ Hid (CutI s i ps fr) /\ ps.length <= i /\ w.Since w.heap.size wr) (fun _ _ t _ => s.size - (intOf t).toNat)
 case atStart => exact ⟨0, 0, [], Nat.zero_le _, Nat.le_refl _, rfl, rfl, World.ownsRow_made w #[] 0 (Nat.le_refl _) (by decide) rfl, hide (Or.inl ⟨rfl, rfl, fun k hk => absurd hk (by omega)⟩), Nat.le_refl _, (World.Since.refl _ _).alloc (Nat.le_refl _) _⟩
 case round =>
  obtain ⟨i, fr, ps, hik, hfr, rfl, rfl, hown, HC, hpl, hS⟩ := hrel; have hs1 := hS.size
  by_cases hlt : i < s.size
  . have hlt' : (i : Int) < (s.size : Int) := by omega
    have hx := bt_in hlt; have hx2 := bt_lt s i
    by_cases c1 : bt s i = 47
    . have HC1 := hide (cutI_hit HC.out c1)
      rw [c1] at hx; have hb0 : (0 : Int) <= (fr : Int) := by omega
      have hb1 : (fr : Int) <= (i : Int) := by omega
      clear c1 hx2 HC
      go_wp2_with (at_builtin; refine wpList_append_own _ rfl _ _ 45 rfl w.heap.size 9 i0 (.string ByteArray.empty) 1 16 Tryz.underlying45 hi hz0 hz1 hz2 rfl (by decide) _ _ _ rfl (hown.alloc _) ⟨wr.heap.size, 0, none⟩ 1 1 [.string (s.extract fr i)] rfl rfl (xj2 _ _ _) (xj6 _ rfl) (by unfold maxLen; omega) (by omega) (by simp; omega) ?_)
      intro v' w1 hown' hgrow hnn; have hs2 : w.Since w.heap.size w1 := (hS.alloc hS.size _).grown hgrow (by simp; omega) (fun k hk => (hown.lt k hk).1); rw [show ps.map Value.string ++ [.string (s.extract fr i)] = (ps ++ [s.extract fr i]).map Value.string by simp, show ps.length + 1 = (ps ++ [s.extract fr i]).length by simp] at hown'; clear hgrow hnn hown; go_wp2; go_roundw
      case rel => exact ⟨i + 1, i + 1, _, by omega, by omega, by go_num, by go_num, hown', HC1, by simp; omega, hs2⟩
      case measure => simp [intOf]; omega
    . have HC1 := hide (cutI_skip HC.out c1)
      have c1' : ¬ ((bt s i : Int) = 47) := by omega
      obtain ⟨x, ex⟩ : ∃ x, x = bt s i := ⟨_, rfl⟩; rw [<- ex] at hx hx2 c1'; have hxb : ((x : Int) == 47) = false := by simpa using c1'
      clear ex c1 HC; go_wp2; go_roundw
      case rel => exact ⟨i + 1, fr, ps, by omega, by omega, by go_num, rfl, hown, HC1, by omega, hS⟩
      case measure => simp [intOf]; omega
  . have e : i = s.size := by omega
    subst e; have HC1 := hide (cutI_end HC.out)
    go_wp2_with (at_builtin; refine wpList_append_own _ rfl _ _ 45 rfl w.heap.size 9 i0 (.string ByteArray.empty) 1 16 Tryz.underlying45 hi hz0 hz1 hz2 rfl (by decide) _ _ _ rfl (hown.alloc _) ⟨wr.heap.size, 0, none⟩ 1 1 [.string (s.extract fr s.size)] rfl rfl (xj2 _ _ _) (xj6 _ rfl) (by unfold maxLen; omega) (by omega) (by simp; omega) ?_)
    intro v' w1 hown' hgrow hnn; have hs2 : w.Since w.heap.size w1 := (hS.alloc hS.size _).grown hgrow (by simp; omega) (fun k hk => (hown.lt k hk).1); rw [show ps.map Value.string ++ [.string (s.extract fr s.size)] = (ps ++ [s.extract fr s.size]).map Value.string by simp, show ps.length + 1 = (ps ++ [s.extract fr s.size]).length by simp] at hown'; clear hgrow hnn hown; go_wp2; go_ret; exact ⟨_, _, rfl, hown', HC1.out, by simp; omega, hs2⟩
end Go.Proofs.YtnogbaapcjjngaaGreatDoor
