import Derived.Test.YtnogbaapcjjngaaGreatDoorOwnP36
import Derived.Test.YtnogbaapcjjngaaGreatDoorOwnP14
import Derived.Test.YtnogbaapcjjngaaGreatDoorOwnP41
import Derived.Deep.AppendLies
import Derived.Test.YtnogbaapcjjngaaGreatDoorOwnP26
set_option maxHeartbeats 6400000
set_option maxRecDepth 100000
namespace Go.Proofs.YtnogbaapcjjngaaGreatDoor
open Go.RowKit
theorem bytes_map (ws : List (List UInt8)) : ((ws.map fun l => (⟨l.toArray⟩ : ByteArray)).map (·.data.toList)) = ws := by
 rw [List.map_map]
 conv => rhs; rw [<- List.map_id ws]
 rfl
theorem infoStr : ∃ i, Tryz.prog.info? 9 = some i /\ i.zero = some (.string ⟨#[]⟩) /\ i.size = 1 /\ i.bytes = 16 := by
 have h : (Tryz.prog.info? 9).map (fun i => (i.zero, i.size, i.bytes)) = some (some (.string ⟨#[]⟩), 1, 16) := by kernel_rfl
 obtain ⟨i, hi, h⟩ := Option.map_eq_some_iff.1 h; simp only [Prod.mk.injEq] at h; exact ⟨i, hi, h.1, h.2.1, h.2.2⟩
def strV (ws : List (List UInt8)) : List Value := ws.map fun l => .string ⟨l.toArray⟩
theorem strV_len (ws : List (List UInt8)) : (strV ws).length = ws.length := by simp [strV]
theorem strV_get {ws : List (List UInt8)} {j : Nat} {x : List UInt8} (h : ws[j]? = some x) : (strV ws)[j]? = some (.string ⟨x.toArray⟩) := by
 unfold strV; rw [List.getElem?_map, h]; rfl
theorem own_texts {w : World} {base g n cap : Nat} {ws : List (List UInt8)} (h : w.ownsRow base 9 1 (.slice (some ⟨g, 0, none⟩) n cap) n (strV ws)) : (∀ j x, ws[j]? = some x -> w.cell? ⟨g, j, none⟩ = some (.string ⟨x.toArray⟩)) /\ g < w.heap.size /\ base <= g /\ n <= cap /\ ws.length = n := by
 have hc := @World.ownsRow.cells _ _ _ _ _ _ _ h; have hl := h.lt g rfl; refine ⟨fun j x hx => ?_, hl.2, hl.1, ?_, ?_⟩
 . have e1 := hc (g := g) rfl _ _ (strV_get hx)
   rw [Go.WideShapes.add_plain, Nat.zero_add] at e1; exact e1
 . obtain ⟨_, ⟨e, _⟩ | ⟨g', cap', cur, e, hg, hb, hn, _⟩⟩ := h
   . simp at e
   . simp only [Value.slice.injEq] at e
     obtain ⟨_, _, rfl⟩ := e
     assumption
 . have := h.1
   rw [strV_len] at this; omega
def qtxt (q : Rat) : List UInt8 := yz4 (qn q) q.num.natAbs q.den
def xv6 (Q : Nat -> Rat) : Nat -> List UInt8
 | 0 => []
 | n + 1 => xv6 Q n ++ (32 :: qtxt (Q n))
def txtQ (Q : Nat -> Rat) (n : Nat) : List (List UInt8) := (List.range n).map fun i => qtxt (Q i)
theorem txtQ_succ (Q : Nat -> Rat) (n : Nat) : txtQ Q (n + 1) = txtQ Q n ++ [qtxt (Q n)] := by simp [txtQ, List.range_succ]
theorem txtQ_len (Q : Nat -> Rat) (n : Nat) : (txtQ Q n).length = n := by simp [txtQ]
theorem joinTail_txtQ (Q : Nat -> Rat) (n : Nat) : Lib.joinTail [32] (txtQ Q n) = xv6 Q n := by
 induction n with
 | zero => rfl
 | succ n ih => rw [txtQ_succ, joinTail_append, ih]; simp [Lib.joinTail, xv6]
theorem join_drop (ws : List (List UInt8)) : Lib.join ws [32] = (Lib.joinTail [32] ws).drop 1 := by
 cases ws with
 | nil => rfl
 | cons x r => rw [Lib.join_cons]; simp [Lib.joinTail]
theorem join_txtQ (Q : Nat -> Rat) (n : Nat) : Lib.join (txtQ Q n) [32] = (xv6 Q n).drop 1 := by rw [join_drop, joinTail_txtQ]
theorem dig_lim {v k : Nat} (h : v < 4294967296 ^ k) : (Lib.decDigits v).length <= 32 * k + 1 := by
 rw [Lib.decDigits_length]; exact nd_lim (by rw [Nat.pow_mul]; exact h)
theorem qtxt_lim {q : Rat} {k : Nat} (h : Qb q k) : (qtxt q).length <= 64 * k + 4 := by
 unfold qtxt yz4; have h1 := dig_lim h.1; have h2 := dig_lim h.2; rw [List.length_append, List.length_append]; have e1 : (if qn q = true then [45] else ([] : List UInt8)).length <= 1 := by split <;> simp
 have e2 : (if q.den = 1 then ([] : List UInt8) else 47 :: Lib.decDigits q.den).length <= 32 * k + 2 := by
  split
  . simp
  . simp only [List.length_cons]; omega
 omega
theorem tailQ_lim {Q : Nat -> Rat} {n k : Nat} (h : ∀ c, c < n -> Qb (Q c) k) : (xv6 Q n).length <= n * (64 * k + 5) := by
 induction n with
 | zero => simp [xv6]
 | succ n ih =>
   have h1 := ih (fun c hc => h c (by omega)); have h2 := qtxt_lim (h n (by omega)); rw [xv6, List.length_append, List.length_cons, Nat.succ_mul]; omega
theorem tailQ_mono (Q : Nat -> Rat) {k n : Nat} (h : k <= n) : (xv6 Q k).length <= (xv6 Q n).length := by
 induction n with
 | zero => have : k = 0 := by omega
           subst this; exact Nat.le_refl _
 | succ n ih =>
   rcases Nat.lt_or_ge n k with e | e
   . have : k = n + 1 := by omega
     subst this; exact Nat.le_refl _
   . have := ih e
     rw [xv6, List.length_append]; omega
theorem l1Text_Q {v : Value} {q : Rat} {w : World} (hq : Qb q 1048576) (R : RatR w v q) :
 Calls Tryz.prog 120 #[v] w fun e w' => e = .returned (.string ⟨(qtxt q).toArray⟩) /\ w.Since w.heap.size w' := by
 obtain ⟨a, n, ca, b, m, cb, ba, oa, bb, ob, X, Y, rfl, R, h1, h2⟩ := R; have n1 : n <= 1048576 := xx1 R.pX (h1 ▸ hq.1); have m1 : m <= 1048576 := xx1 R.pY (h2 ▸ hq.2); have J := l1Text_any (qn q) a b ba oa n ca bb ob m cb X Y w n1 m1 R.LX R.LY R.lX R.lY R.pY; rw [h1, h2] at J; exact J
theorem textOf_Q {v : Value} {q : Rat} {w : World} (hq : Qb q 1048576) (R : RatR w v q) (hP : Pow w) :
 Calls Tryz.prog 90 #[v] w fun e w' => e = .returned (.string ⟨(qtxt q).toArray⟩) /\ w.Since w.heap.size w' := by
 obtain ⟨a, n, ca, b, m, cb, ba, oa, bb, ob, X, Y, rfl, R, h1, h2⟩ := R; have n1 : n <= 1048576 := xx1 R.pX (h1 ▸ hq.1); have m1 : m <= 1048576 := xx1 R.pY (h2 ▸ hq.2); have J := textOf_any (qn q) a b ba oa n ca bb ob m cb X Y w (Nat.zero_le _) n1 m1 R.nc R.mc R.ac R.bc R.LX R.LY R.lX R.lY trivial hP (R.ok h1 h2); rw [h1, h2] at J; exact J
theorem l2Tail_Q (a : Option Addr) (b off n cap : Nat) (Q : Nat -> Rat) (w : World) (hn : n <= 1048576) (hlim : (xv6 Q n).length <= 140737488355328) (H : xx8 w (fun _ => True) a b off n Q) (hq : ∀ i, i < n -> Qb (Q i) 1048576) :
 Calls Tryz.prog 80 #[.slice a n cap] w fun e w' => e = .returned (.string ⟨(xv6 Q n).toArray⟩) /\ w.Since w.heap.size w' := by
 obtain ⟨i0, hi, hz0, hz1, hz2⟩ := info_parts Tryz.info5; have lim : ∀ k, k <= n -> (xv6 Q k).length <= 140737488355328 := fun k hk => Nat.le_trans (tailQ_mono Q hk) hlim
 have HLIM := hide lim; have HQ := hide hq; have HH := hide H; clear lim hlim hq H; have sA := sal w (.cells #[] 5); have oA : (w.alloc (.cells #[] 5)).ownsRow w.heap.size 5 1 (.slice (some ⟨w.heap.size, 0, none⟩) 0 0) 0 (Lib.byteCells []) := World.ownsRow_made w #[] 0 (Nat.le_refl _) (Nat.zero_le _) rfl; go_enter Tryz.func80, Tryz.ntmps80; go_wp2
 go_loopw [3, 4] (fun u i wr => ∃ k : Nat, k <= n /\ i = .int .i64 k /\ w.Since w.heap.size wr /\ Hid (u ≠ .slice none 0 0) /\ ∃ m, Hid (m = (xv6 Q k).length) /\ wr.ownsRow w.heap.size 5 1 u m (Lib.byteCells (xv6 Q k))) (fun _ i _ => n - (intOf i).toNat)
 case atStart => exact ⟨0, Nat.zero_le _, rfl, sA, hide (by simp), 0, hide rfl, oA⟩
 case round =>
  obtain ⟨k, hk, rfl, s, hne, m, hm, O⟩ := hrel; have hml : m <= 140737488355328 := by rw [hm.out]; exact HLIM.out k hk
  by_cases hlt : k < n
  . obtain ⟨ea, x, y, M⟩ := HH.out k hlt
    subst ea; have hz : (k : Int) < (n : Int) := by omega
    have hl1 : (xv6 Q (k + 1)).length <= 140737488355328 := HLIM.out (k + 1) (by omega); have htl : (xv6 Q (k + 1)).length = m + 1 + (qtxt (Q k)).length := by rw [xv6, List.length_append, List.length_cons, <- hm.out]; omega
    have hqk := hide (HQ.out k hlt); obtain ⟨T, hT⟩ : ∃ T, qtxt (Q k) = T := ⟨_, rfl⟩; rw [hT] at htl; have HL := hide (show m + 1 + T.length <= 140737488355328 by omega); have HT := hide hT; have HTL := hide htl; clear hT htl hl1; have hs0 := s.size
    go_wp2_with (at_builtin; refine wpList_append_own _ rfl _ _ 114 rfl w.heap.size 5 i0 (.int .u8 0) 1 1 Tryz.underlying114 hi hz0 hz1 hz2 rfl (by decide) _ _ _ rfl (O.alloc _) ⟨wr.heap.size, 0, none⟩ 1 1 [.int .u8 32] rfl rfl (xj2 _ _ _) (xj6 _ rfl) (by have := HL.out; unfold maxLen; omega) (by have := HL.out; omega) (by simp; omega) ?_)
    intro v1 w1 ho1 hg1 hn1; have S1 : w.Since w.heap.size w1 := (s.alloc s.size _).grown hg1 (by simp; omega) (fun k hk => (O.lt k hk).1); have HN1 := hide hn1; have M1 := M.keep S1; have g0 := M1.c0; have g1 := M1.c1; have g2 := M1.c2; clear hn1 hg1; obtain ⟨xa, xn, xc, ya, yn, yc, -, -, -, -, -, -, he, -⟩ := id M1.R; simp only [Value.agg.injEq, Array.mk.injEq, List.cons.injEq, and_true, true_and] at he; obtain ⟨ex, ey⟩ := he; subst ex ey; go_wp2_with fail; refine (l1Text_Q hqk.out M1.R.read).mono ?_; rintro e w2 ⟨rfl, s2⟩; rw [HT.out]; have S2 := S1.trans (sM s2 S1.size); have ho2 := own_keep ho1 s2; have hcv := Lib.run_convert_string_bytes (P := Tryz.prog) w2 9 114 5 ⟨T.toArray⟩ Tryz.underlying9 Tryz.underlying114 Tryz.underlying5; have s3 := bytes_since w2 5 ⟨T.toArray⟩; have S3 : w.Since w.heap.size (Lib.bytesWorld w2 5 ⟨T.toArray⟩) := S2.trans (sM s3 S2.size); have ho3 := own_keep ho2 s3; have hcl := bytes_cells w2 5 T; have z3 := Lib.bytesWorld_size w2 5 ⟨T.toArray⟩; have hTs : (⟨T.toArray⟩ : ByteArray).size = T.length := by simp [ByteArray.size]
    rw [hTs] at hcv; have zz := S2.size; have HLo := HL.out; clear g0 g1 g2 M1; generalize Lib.bytesWorld w2 5 ⟨T.toArray⟩ = w3 at *
    go_wp2_with (at_builtin; refine wpList_append_own _ rfl _ _ 114 rfl w.heap.size 5 i0 (.int .u8 0) 1 1 Tryz.underlying114 hi hz0 hz1 hz2 rfl (by decide) _ _ _ rfl ho3 ⟨w2.heap.size, 0, none⟩ T.length _ (Lib.byteCells T) rfl (by rw [Lib.byteCells_length]; omega) hcl (bytes_one T) (by unfold maxLen; omega) (by omega) (by omega) ?_)
    intro v4 w4 ho4 hg4 hn4; have S4 : w.Since w.heap.size w4 := S3.grown hg4 (by omega) (fun k hk => (ho3.lt k hk).1); have HN4 := hide (show v4 ≠ .slice none 0 0 from fun e => HN1.out (hn4.1 e).1)
    have O4 : w4.ownsRow w.heap.size 5 1 v4 (m + 1 + T.length) (Lib.byteCells (xv6 Q (k + 1))) := by
     rw [show Lib.byteCells (xv6 Q (k + 1)) = Lib.byteCells (xv6 Q k) ++ .int .u8 32 :: Lib.byteCells T by rw [xv6, HT.out]; simp [Lib.byteCells]]; exact ho4
    clear hn4 hg4 ho4 ho3 ho2 ho1 hcv hcl; go_wp2; go_roundw
    case rel => exact ⟨k + 1, by omega, by go_num, S4, HN4, m + 1 + T.length, hide HTL.out.symm, O4⟩
    case measure => simp [intOf]; omega
  . have e : k = n := by omega
    subst e; obtain ⟨g, c, rfl, hcv⟩ := xk7 O hne.out hm.out; go_wp2; go_ret; exact ⟨rfl, s⟩
theorem textsOf_Q (a : Option Addr) (b off n cap : Nat) (Q : Nat -> Rat) (w : World) (hn : n <= 1048576) (H : xx8 w (fun _ => True) a b off n Q) (hq : ∀ i, i < n -> Qb (Q i) 1048576) (hP : Pow w) :
 Calls Tryz.prog 48 #[.slice a n cap] w fun e w' => ∃ g cap', e = .returned (.slice (some ⟨g, 0, none⟩) n cap') /\ w'.ownsRow w.heap.size 9 1 (.slice (some ⟨g, 0, none⟩) n cap') n (strV (txtQ Q n)) /\ w.Since w.heap.size w' := by
 obtain ⟨i0, hi, hz0, hz1, hz2⟩ := infoStr; have sA := sal w (.cells #[] 9); have oA : (w.alloc (.cells #[] 9)).ownsRow w.heap.size 9 1 (.slice (some ⟨w.heap.size, 0, none⟩) 0 0) 0 (strV (txtQ Q 0)) := World.ownsRow_made w #[] 0 (Nat.le_refl _) (Nat.zero_le _) rfl; have HQ := hide hq; have HH := hide H; clear hq H; go_enter Tryz.func48, Tryz.ntmps48; go_wp2
 go_loopw [3, 9] (fun u i wr => ∃ k : Nat, k <= n /\ i = .int .i64 k /\ w.Since w.heap.size wr /\ ∃ g cap', u = .slice (some ⟨g, 0, none⟩) k cap' /\ wr.ownsRow w.heap.size 9 1 (.slice (some ⟨g, 0, none⟩) k cap') k (strV (txtQ Q k))) (fun _ i _ => n - (intOf i).toNat)
 case atStart => exact ⟨0, Nat.zero_le _, rfl, sA, w.heap.size, 0, rfl, oA⟩
 case round =>
  obtain ⟨k, hk, rfl, s, g, cap', rfl, O⟩ := hrel
  by_cases hlt : k < n
  . obtain ⟨ea, x, y, M⟩ := HH.out k hlt
    subst ea; have hz : (k : Int) < (n : Int) := by omega
    have hqk := hide (HQ.out k hlt); have M1 := M.keep s; have g0 := M1.c0; have g1 := M1.c1; have g2 := M1.c2; obtain ⟨xa, xn, xc, ya, yn, yc, -, -, -, -, -, -, he, -⟩ := id M1.R; simp only [Value.agg.injEq, Array.mk.injEq, List.cons.injEq, and_true, true_and] at he; obtain ⟨ex, ey⟩ := he; subst ex ey; have sN := sal wr (.cells #[.bool (qn (Q k)), .slice xa xn xc, .slice ya yn yc] 61); have nB := Box3.new wr (.bool (qn (Q k))) (.slice xa xn xc) (.slice ya yn yc) 61; go_wp2_with fail; generalize wr.alloc (.cells #[.bool (qn (Q k)), .slice xa xn xc, .slice ya yn yc] 61) = w1 at *; have S1 := s.trans (sM sN s.size); refine (textOf_Q hqk.out (M.keep S1).R.read (hP.stay S1)).mono ?_; rintro e w2 ⟨rfl, s2⟩; obtain ⟨T, hT⟩ : ∃ T, qtxt (Q k) = T := ⟨_, rfl⟩; rw [hT]; have HT := hide hT; clear hT; have u2 := sN.trans (sM s2 sN.size); have S2 := s.trans (sM u2 s.size); have O2 := own_keep O u2; have z2 := u2.size; have z0 := s.size; clear g0 g1 g2 M1
    go_wp2_with (at_builtin; refine wpList_append_own_at _ rfl _ _ 45 rfl w.heap.size 9 i0 (.string ⟨#[]⟩) 1 16 Tryz.underlying45 hi hz0 hz1 hz2 rfl (by decide) _ _ _ rfl (O2.alloc _) ⟨w2.heap.size, 0, none⟩ 1 1 [.string ⟨T.toArray⟩] rfl rfl (xj2 _ _ _) (xj6 _ rfl) (by unfold maxLen; omega) (by omega) (by simp; omega) ?_)
    intro v' w5 hown' hgrow hnn hat; obtain ⟨g', capn, rfl, hg1, hg2⟩ := hown'.form (by omega); have sW := sal w2 (.cells #[.string ⟨T.toArray⟩] 9); have S5 := (S2.trans (sM sW S2.size)).grown hgrow (by simp; omega) (fun q hq => (O2.lt q hq).1)
    have O5 : w5.ownsRow w.heap.size 9 1 (.slice (some ⟨g', 0, none⟩) (k + 1) capn) (k + 1) (strV (txtQ Q (k + 1))) := by
     rw [txtQ_succ, HT.out, show strV (txtQ Q k ++ [T]) = strV (txtQ Q k) ++ [.string ⟨T.toArray⟩] by simp [strV]]; exact hown'
    clear hnn hat hown' hgrow; go_wp2; go_roundw
    case rel => exact ⟨k + 1, by omega, by go_num, S5, g', capn, rfl, O5⟩
    case measure => simp [intOf]; omega
  . have e : k = n := by omega
    subst e; go_wp2; go_ret; exact ⟨g, cap', rfl, O, s⟩
theorem net_qb {A : Nat -> AffD} {X : Nat -> RatD} {n : Nat} (P : NetP n A) (l : ∀ k, k < n -> (A k).lim) (ok : RatsOk X (A 0).cols.toNat) (lx : ∀ i, i < (A 0).cols.toNat -> (X i).lim) {K : Nat} (hz : szR X (A 0).cols.toNat + szA A n < K) {k : Nat} (hk : k < n) :
 ∀ r, r < (A k).rows.toNat -> Qb (qLay A (fun i => (X i).q) k r) K := fun r hr => by
 have big : ∀ j, j <= n -> TK A (fun i => (X i).q) (A 0).cols.toNat j < 4294967296 ^ K := fun j hj => by
  have h1 := TK_small P l ok lx hj; have h2 := szA_mono (A := A) hj; exact Nat.lt_of_le_of_lt h1 (Nat.pow_lt_pow_right (by decide) (by omega))
 have hin := in_rep (x := fun i => (X i).q) P hk; have h := layer_rep (P.shape k hk) (DK_TK A (fun i => (X i).q) (A 0).cols.toNat k) hin hr (Nat.le_refl _); have hb := Rep.qb (T := TK A (fun i => (X i).q) (A 0).cols.toNat (k + 1)) (D := DK A (fun i => (X i).q) (A 0).cols.toNat (k + 1)) h (DK_pos _ _ _ _) (big _ hk) (Nat.lt_of_le_of_lt (DK_TK _ _ _ _) (big _ hk)); rw [qLay_eq]; exact hb
end Go.Proofs.YtnogbaapcjjngaaGreatDoor
