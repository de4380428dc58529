import Derived.Test.YtnogbaapcjjngaaGreatDoorOwnP24
import Derived.Test.YtnogbaapcjjngaaGreatDoorOwnP28
set_option maxHeartbeats 6400000
set_option maxRecDepth 100000
namespace Go.Proofs.YtnogbaapcjjngaaGreatDoor
open Go.RowKit
theorem readerOf_q (s : ByteArray) (w : World) (hs : s.size <= 100000) :
 Calls Tryz.prog 25 #[.string s] w fun e w' => ∃ c bl, e = .returned (.pointer (some ⟨c, 0, none⟩)) /\ Rdr w' c bl bl (pcs 10 s) 0 [] /\ w.heap.size <= c /\ w.Since w.heap.size w' := by
 have J := split_c 10 s w (by omega); have hl := pcs_len 10 s; have HZ : Hid (∀ x ∈ pcs 10 s, x.size <= 100000) := hide (fun x hx => Nat.le_trans (pcs_le hx) hs); obtain ⟨P, hP⟩ : ∃ P, pcs 10 s = P := ⟨_, rfl⟩; rw [hP] at J hl HZ ⊢; clear hP; go_enter Tryz.func25, Tryz.ntmps25; go_wp2_with fail; refine J.mono ?_; rintro e w1 ⟨rfl, HC, l1, s1⟩; clear J; have sB := sal w1 (.cells #[.slice (some ⟨w.heap.size, 0, none⟩) P.length P.length, .int .i64 0, .slice none 0 0] 90); have B := Box3.new w1 (.slice (some ⟨w.heap.size, 0, none⟩) P.length P.length) (.int .i64 0) (.slice none 0 0) 90; go_wp2; go_ret; refine ⟨w1.heap.size, w.heap.size, rfl, ⟨B.c0, B.c1, ⟨_, B.c2, none, 0, 0, rfl, Nat.le_refl _, fun j x h => by simp at h⟩, B.f, fun j x hx => ?_, by omega, by omega, by simp; omega, by simp; omega, Nat.zero_le _, HZ.out, fun x h => by simp at h, by simp, by omega⟩, s1.size, s1.trans (sM sB s1.size)⟩; exact (sB.cell (a := ⟨w.heap.size, j, none⟩) l1).trans (HC.out j x hx)
def Need (w w' : World) (c bl t : Nat) (L : List ByteArray) (e : Ending) : Prop :=
 (lnsF t (L.drop t) = [] /\ e = xx7 ((L.length : Int) + 1)) ∨
 ∃ n x rest wb, lnsF t (L.drop t) = (n, x) :: rest /\ e = .returned (.tuple #[]) /\ Rdr w' c bl wb L n x /\ w.heap.size <= wb /\ lnsF n (L.drop n) = rest /\ 0 < x.length
theorem needLine_q (c bl wb t : Nat) (L ws : List ByteArray) (w : World) (h : Rdr w c bl wb L t ws) :
 Calls Tryz.prog 59 #[.pointer (some ⟨c, 0, none⟩)] w fun e w' => But c w w' /\ Need w w' c bl t L e := by
 have hll := h.ll; go_enter Tryz.func59, Tryz.ntmps59; go_wp2_with fail; refine (nextLine_q c bl wb t L ws w h).mono ?_; rintro e w1 ⟨B, ⟨h1, rfl, wb', ws', R⟩ | ⟨n, x, rest, wb', h1, rfl, R, hw, h2, h3⟩⟩
 . have c0 := R.c0
   have H1 := hide h1; clear h1; go_wp2; exact ⟨rfl, B, Or.inl ⟨H1.out, rfl⟩⟩
 . have H1 := hide h1
   have H2 := hide h2; clear h1 h2; go_wp2
   go_end0
   exact ⟨B, Or.inr ⟨n, x, rest, wb', H1.out, rfl, R, hw, H2.out, h3⟩⟩
theorem endText_q (c bl wb t : Nat) (L ws : List ByteArray) (w : World) (h : Rdr w c bl wb L t ws) :
 Calls Tryz.prog 64 #[.pointer (some ⟨c, 0, none⟩)] w fun e w' => But c w w' /\ ((lnsF t (L.drop t) = [] /\ e = .returned (.tuple #[])) ∨ ∃ n x rest, lnsF t (L.drop t) = (n, x) :: rest /\ e = xx7 n) := by
 go_enter Tryz.func64, Tryz.ntmps64; go_wp2_with fail; refine (nextLine_q c bl wb t L ws w h).mono ?_; rintro e w1 ⟨B, ⟨h1, rfl, wb', ws', R⟩ | ⟨n, x, rest, wb', h1, rfl, R, hw, h2, h3⟩⟩
 . have H1 := hide h1
   clear h1; go_wp2
   go_end0
   exact ⟨B, Or.inl ⟨H1.out, rfl⟩⟩
 . have H1 := hide h1
   have H2 := hide h2; clear h1 h2; go_wp2_with fail; refine (stop_q c bl wb' n L x w1 R).mono ?_; rintro e w2 ⟨rfl, rfl⟩; unfold xx7; go_wp2; exact ⟨rfl, B, Or.inr ⟨n, x, rest, H1.out, rfl⟩⟩
theorem endLine_q (c bl wb t : Nat) (L ws : List ByteArray) (w : World) (h : Rdr w c bl wb L t ws) :
 Calls Tryz.prog 62 #[.pointer (some ⟨c, 0, none⟩)] w fun e w' => w' = w /\ ((ws = [] /\ e = .returned (.tuple #[])) ∨ (ws ≠ [] /\ e = xx7 t)) := by
 obtain ⟨v, c2, a, off, cap, rfl, hcap, -⟩ := h.c2; go_enter Tryz.func62, Tryz.ntmps62
 rcases Nat.eq_zero_or_pos ws.length with h0 | h0
 . have hx0 : ¬ ((0 : Int) < (ws.length : Int)) := by omega
   have H0 := hide (List.length_eq_zero_iff.1 h0); clear h0; go_wp2
   go_end0
   exact ⟨rfl, Or.inl ⟨H0.out, rfl⟩⟩
 . have hx0 : (0 : Int) < (ws.length : Int) := by omega
   go_wp2_with fail; refine (stop_q c bl wb t L ws w h).mono ?_; rintro e w2 ⟨rfl, rfl⟩; unfold xx7; go_wp2; exact ⟨rfl, rfl, Or.inr ⟨fun e => by rw [e] at h0; simp at h0, rfl⟩⟩
theorem takeWord_q (c bl wb t : Nat) (L ws : List ByteArray) (w : World) (h : Rdr w c bl wb L t ws) :
 Calls Tryz.prog 94 #[.pointer (some ⟨c, 0, none⟩)] w fun e w' => But c w w' /\ ((ws = [] /\ e = xx7 t) ∨ ∃ x r, ws = x :: r /\ e = .returned (.string x) /\ Rdr w' c bl wb L t r) := by
 have hwl := h.wl; have HWZ := hide h.wz; obtain ⟨v, c2, a, off, cap, rfl, hcap, hc⟩ := h.c2
 rcases ws with _ | ⟨x, r⟩
 . have c2 : w.cell? ⟨c, 2, none⟩ = some (.slice a 0 cap) := c2
   go_enter Tryz.func94, Tryz.ntmps94; go_wp2_with fail; refine (stop_q c bl wb t L [] w h).mono ?_; rintro e w2 ⟨rfl, rfl⟩; unfold xx7; go_wp2; exact ⟨rfl, But.refl c w2, Or.inl ⟨by simp, rfl⟩⟩
 . obtain ⟨rfl, hx⟩ := hc 0 x rfl
   have c2 : w.cell? ⟨c, 2, none⟩ = some (.slice (some ⟨wb, off, none⟩) (r.length + 1) cap) := c2; rw [List.length_cons] at hcap hwl; have hx : w.cell? ⟨wb, off, none⟩ = some (.string x) := hx; have f2 := h.f 2; have h1 : (1 : Int) <= (cap : Int) := by omega
   have h2 : (r.length : Int) + 1 <= (cap : Int) := by omega
   have h3 : ¬ ((r.length : Int) + 1 = 0) := by omega
   have hz : ∀ y ∈ r, y.size <= 100000 := fun y hy => HWZ.out y (by simp [hy])
   have HC : Hid (∀ (j : Nat) (y : ByteArray), r[j]? = some y -> w.cell? ⟨wb, off + 1 + j, none⟩ = some (.string y)) := hide (fun j y hy => by
    have := (hc (j + 1) y (by simpa using hy)).2; rw [show off + 1 + j = off + (j + 1) by omega]; exact this)
   have HZ := hide hz; clear hc hz
   by_cases hk : cap = 1
   . subst hk
     have hr0 : r = [] := List.length_eq_zero_iff.1 (by omega); subst hr0; have R := h.setWords (v := .slice (some ⟨wb, off, none⟩) 0 0) (ws' := []) ⟨_, off, 0, rfl, Nat.le_refl _, fun j y hy => by simp at hy⟩ h.nw h.lw HZ.out (by simp); have B : But c w (w.setCell ⟨c, 2, none⟩ (.slice (some ⟨wb, off, none⟩) 0 0)) := (But.refl c w).set 2 _; have c2 : w.cell? ⟨c, 2, none⟩ = some (.slice (some ⟨wb, off, none⟩) 1 1) := c2; go_enter Tryz.func94, Tryz.ntmps94; go_wp2; go_ret; exact ⟨B, Or.inr ⟨x, [], by simp, rfl, R⟩⟩
   . have R := h.setWords (v := .slice (some ⟨wb, off + 1, none⟩) r.length (cap - 1)) (ws' := r) ⟨_, off + 1, cap - 1, rfl, by omega, fun j y hy => ⟨rfl, HC.out j y hy⟩⟩ h.nw h.lw HZ.out (by omega)
     have B : But c w (w.setCell ⟨c, 2, none⟩ (.slice (some ⟨wb, off + 1, none⟩) r.length (cap - 1))) := (But.refl c w).set 2 _; go_enter Tryz.func94, Tryz.ntmps94; go_wp2; go_ret; exact ⟨B, Or.inr ⟨x, r, rfl, rfl, R⟩⟩
theorem str_eq {x y : ByteArray} : x.toList = y.toList ↔ x = y :=
 ⟨fun h => xw9 (by rw [<- Lib.toList_data, <- Lib.toList_data, h]), fun h => by rw [h]⟩
theorem takeThe_q (wd : ByteArray) (c bl wb t : Nat) (L ws : List ByteArray) (w : World) (h : Rdr w c bl wb L t ws) :
 Calls Tryz.prog 60 #[.pointer (some ⟨c, 0, none⟩), .string wd] w fun e w' => But c w w' /\ (((∀ r, ws ≠ wd :: r) /\ e = xx7 t) ∨ ∃ r, ws = wd :: r /\ e = .returned (.tuple #[]) /\ Rdr w' c bl wb L t r) := by
 go_enter Tryz.func60, Tryz.ntmps60; go_wp2_with fail; refine (takeWord_q c bl wb t L ws w h).mono ?_; rintro e w1 ⟨B, ⟨h1, rfl⟩ | ⟨x, r, h1, rfl, R⟩⟩
 . unfold xx7
   go_wp2; exact ⟨rfl, B, Or.inl ⟨fun r e => by rw [h1] at e; simp at e, rfl⟩⟩
 . have H1 := hide h1
   clear h1
   by_cases hx : x.toList = wd.toList
   . have hbe : (x.toList == wd.toList) = true := by simpa using hx
     have HX := hide (str_eq.1 hx); clear hx; go_wp2
     go_end0
     exact ⟨B, Or.inr ⟨r, by rw [H1.out, HX.out], rfl, R⟩⟩
   . have hbe : (x.toList == wd.toList) = false := by simpa using hx
     have HX := hide (fun e : x = wd => hx (str_eq.2 e)); clear hx; go_wp2_with fail; refine (stop_q c bl wb t L r w1 R).mono ?_; rintro e w2 ⟨rfl, rfl⟩; unfold xx7; go_wp2; exact ⟨rfl, B, Or.inl ⟨fun r' e => by rw [H1.out] at e; simp at e; exact HX.out e.1, rfl⟩⟩
def yz1 (x : ByteArray) : Prop := digB x = true /\ x.size <= 6
theorem yq0 {s : ByteArray} (h : digB s = true) : ∀ k, k < s.size -> 48 <= bt s k /\ bt s k <= 57 := by
 unfold digB at h; simp only [Bool.and_eq_true, decide_eq_true_eq] at h; exact h.1
theorem dv_lim {x : ByteArray} {k : Nat} (hd : ∀ j, j < k -> 48 <= bt x j /\ bt x j <= 57) : dv x k < 10 ^ k := by
 induction k with
 | zero => simp [dv]
 | succ k ih =>
   have h1 := ih (fun j hj => hd j (by omega)); have h2 := hd k (by omega); rw [dv, Nat.pow_succ]; omega
theorem xw7 {x : ByteArray} (h : yz1 x) : dv x x.size <= 999999 := by
 have h1 := dv_lim (x := x) (k := x.size) (fun j hj => yq0 h.1 j hj); have h2 : 10 ^ x.size <= 10 ^ 6 := Nat.pow_le_pow_right (by omega) h.2; omega
theorem takeInt_q (c bl wb t : Nat) (L ws : List ByteArray) (w : World) (h : Rdr w c bl wb L t ws) :
 Calls Tryz.prog 61 #[.pointer (some ⟨c, 0, none⟩)] w fun e w' => But c w w' /\ (((∀ x r, ws = x :: r -> ¬ yz1 x) /\ e = xx7 t) ∨ ∃ x r, ws = x :: r /\ yz1 x /\ e = .returned (.int .i64 (dv x x.size : Nat)) /\ Rdr w' c bl wb L t r) := by
 have HWZ := hide h.wz; go_enter Tryz.func61, Tryz.ntmps61; go_wp2_with fail; refine (takeWord_q c bl wb t L ws w h).mono ?_; rintro e w1 ⟨B, ⟨h1, rfl⟩ | ⟨x, r, h1, rfl, R⟩⟩
 . unfold xx7
   go_wp2; exact ⟨rfl, B, Or.inl ⟨fun x r e => by rw [h1] at e; simp at e, rfl⟩⟩
 . have hxz : x.size <= 100000 := HWZ.out x (by rw [h1]; simp)
   have H1 := hide h1; clear h1
   by_cases h6 : x.size <= 6
   . have h6' : ¬ ((6 : Int) < (x.size : Int)) := by omega
     go_wp2_with fail; refine (isDigits_any x w1 (by omega)).mono ?_; rintro e w2 ⟨rfl, sm⟩; have s2 : w1.Since w1.heap.size w2 := sm.since _; have R2 := R.keep s2; have B2 := B.trans (But.of (c := c) s2); cases hd : digB x
     . have HD := hide hd
       clear hd; go_wp2_with fail; refine (stop_q c bl wb t L r w2 R2).mono ?_; rintro e w3 ⟨rfl, rfl⟩; unfold xx7; go_wp2
       have hno : ∀ x' r', ws = x' :: r' -> ¬ yz1 x' := fun x' r' e hi => by
        rw [H1.out] at e
        simp at e
        rw [<- e.1] at hi; have h9 := hi.1; rw [HD.out] at h9; cases h9
       exact ⟨rfl, B2, Or.inl ⟨hno, rfl⟩⟩
     . have HI : Hid (yz1 x) := hide ⟨hd, h6⟩
       have hdg := yq0 hd; have HDG := hide hdg; clear hd hdg; go_wp2_with fail
       go_loopw [4, 20] (fun v i wr => ∃ k : Nat, k <= x.size /\ i = .int .i64 (k : Int) /\ v = .int .i64 ((dv x k : Nat) : Int) /\ wr = w2) (fun _ i _ => x.size - (intOf i).toNat)
       case atStart => exact ⟨0, Nat.zero_le _, rfl, rfl, rfl⟩
       case round =>
        obtain ⟨k, hk, rfl, rfl, rfl⟩ := hrel
        by_cases hlt : k < x.size
        . have hlt' : (k : Int) < (x.size : Int) := by omega
          have hx := bt_in hlt; have hxd := HDG.out k hlt; obtain ⟨y, hy⟩ : ∃ y, bt x k = y + 48 := ⟨bt x k - 48, by omega⟩; have HS : Hid (dv x (k + 1) = dv x k * 10 + y) := hide (by rw [dv, hy, Nat.add_sub_cancel]); rw [hy] at hx hxd
          have hdl : dv x k <= 1000000 := by
           have h1 := dv_lim (x := x) (k := k) (fun j hj => HDG.out j (by omega)); have h2 : 10 ^ k <= 10 ^ 6 := Nat.pow_le_pow_right (by omega) (by omega); omega
          obtain ⟨V, hV⟩ : ∃ V, dv x k = V := ⟨_, rfl⟩; rw [hV] at hdl HS ⊢; have hw2 : ((y + 48 : Nat) : Int) - 48 = (y : Int) := by omega
          have hw3 : (y : Int) + 48 - 48 = (y : Int) := by omega
          have hw1 : IntKind.u8.wrap (y : Int) = (y : Int) := by have := u8_sub (y + 48) (by omega) (by omega); rw [hw2] at this; rw [this]; omega
          have hw4 : IntKind.i64.wrap ((V : Int) * 10) = (V : Int) * 10 := by rw [IntKind.wrap_i64]; omega
          have hw5 : IntKind.i64.wrap (y : Int) = (y : Int) := by rw [IntKind.wrap_i64]; omega
          have hw6 : IntKind.i64.wrap ((V : Int) * 10 + (y : Int)) = (V : Int) * 10 + (y : Int) := by rw [IntKind.wrap_i64]; omega
          clear hy hV; go_wp2; go_roundw
          case rel => exact ⟨k + 1, by omega, by go_num, by rw [HS.out]; simp, by simp⟩
          case measure => simp [intOf]; omega
        . have e : k = x.size := by omega
          subst e; have hz1 : ¬ ((x.size : Int) < (x.size : Int)) := by omega
          go_wp2; go_ret; exact ⟨B2, Or.inr ⟨x, r, H1.out, HI.out, rfl, R2⟩⟩
   . have h6' : (6 : Int) < (x.size : Int) := by omega
     go_wp2_with fail; refine (stop_q c bl wb t L r w1 R).mono ?_; rintro e w3 ⟨rfl, rfl⟩; unfold xx7; go_wp2; exact ⟨rfl, B, Or.inl ⟨fun x' r' e hi => by rw [H1.out] at e; simp at e; rw [<- e.1] at hi; exact h6 hi.2, rfl⟩⟩
end Go.Proofs.YtnogbaapcjjngaaGreatDoor
