import Derived.Test.YtnogbaapcjjngaaGreatDoorOwnP19
import Derived.Test.YtnogbaapcjjngaaGreatDoorOwnP2
import Derived.Lib.AppendStr
import Derived.Lib.AppendIntMem
import Derived.Laws.IdiomStrings
import Derived.Test.YtnogbaapcjjngaaGreatDoorOwnP4
set_option maxHeartbeats 6400000
set_option maxRecDepth 100000
namespace Go.Proofs.YtnogbaapcjjngaaGreatDoor
open Go.RowKit
theorem Tryz.info5 : (Tryz.prog.info? 5).map (fun i => (i.zero, i.size, i.bytes)) = some (some (.int .u8 0), 1, 1) := by kernel_rfl
def yl (X : Nat -> Nat) (m : Nat) : List Value := (List.range m).map fun j => .int .u8 (X j)
theorem yl_succ (X : Nat -> Nat) (m : Nat) : yl X (m + 1) = yl X m ++ [.int .u8 (X m)] := by simp [yl, List.range_succ]
theorem yl_get (X : Nat -> Nat) (m j : Nat) (h : j < m) : (yl X m)[j]? = some (.int .u8 (X j)) := by simp [yl, h]
theorem yl_congr {B C : Nat -> Nat} {m : Nat} (h : ∀ j, j < m -> B j = C j) : yl B m = yl C m := by
 unfold yl; exact List.map_congr_left (fun j hj => by rw [h j (List.mem_range.1 hj)])
theorem ownY_some {w : World} {base : Nat} {v : Value} {m : Nat} {X : Nat -> Nat} (h : w.ownsRow base 5 1 v m (yl X m)) (hv : v ≠ .slice none 0 0) :
 ∃ g cap, v = .slice (some ⟨g, 0, none⟩) m cap /\ m <= cap /\ base <= g /\ g < w.heap.size /\ (∀ j, j < m -> w.cell? ⟨g, j, none⟩ = some (.int .u8 (X j))) /\ (∀ o, w.frozen? ⟨g, o, none⟩ = false) := by
 have hc := @World.ownsRow.cells _ _ _ _ _ _ _ h
 rcases h.2 with ⟨rfl, rfl⟩ | ⟨g, cap, cur, rfl, hb, hg, hm, _⟩
 . exact absurd rfl hv
 . refine ⟨g, cap, rfl, hm, hb, (Array.getElem?_eq_some_iff.1 hg).1, fun j hj => ?_, fun o => by simp [World.frozen?, hg]⟩
   have := hc (g := g) rfl j _ (yl_get X m j hj); rw [Addr.add_lit] at this
   simpa using this
theorem ownY_set {w : World} {base g n cap : Nat} {V : Nat -> Nat} (h : w.ownsRow base 5 1 (.slice (some ⟨g, 0, none⟩) n cap) n (yl V n)) (i x : Nat) (E : Int) (hE : E = (x : Int)) :
 (w.setCell ⟨g, i, none⟩ (.int .u8 E)).ownsRow base 5 1 (.slice (some ⟨g, 0, none⟩) n cap) n (yl (upd V i x) n) := by
 subst hE; obtain ⟨hl, h | ⟨g', cap', cur, e, hb, hh, hn, hm, hs, ht⟩⟩ := h
 . cases h.1
 . cases e
   have r : w.rowIs g 5 cap (fun j => cur[j]?.getD (.bool false)) := ⟨cur, hh, by simpa using hs, fun j hj => by
    show cur[j]? = some (cur[j]?.getD (.bool false)); rw [Array.getElem?_eq_getElem (by omega)]; rfl⟩
   obtain ⟨c2, k1, k2, k3⟩ := r.set i (.int .u8 x); refine ⟨by simp [yl], Or.inr ⟨g, cap, c2, rfl, hb, k1, hn, hm, by simpa using k2, ?_⟩⟩
   apply List.ext_getElem?
   intro j; rw [Nat.mul_one] at ht ⊢
   by_cases hj : j < n
   . rw [List.getElem?_take_of_lt hj, Array.getElem?_toList, k3 j (by omega)]
     have h2 : (yl V n)[j]? = cur[j]? := by rw [<- ht, List.getElem?_take_of_lt hj, Array.getElem?_toList]
     simp only [yl, List.getElem?_map, List.getElem?_range hj, Option.map_some] at h2 ⊢
     by_cases e : j = i
     . subst e; simp [xq5]
     . rw [if_neg e, xq3 _ _ _ _ e, <- h2]; rfl
   . rw [List.getElem?_eq_none (by simp; omega), List.getElem?_eq_none (by simp [yl]; omega)]
def tv (B : Nat -> Bool) (n k : Nat) : Nat := bv (fun j => B (k + j)) (n - k)
theorem tv_all (B : Nat -> Bool) (n : Nat) : tv B n 0 = bv B n := xk0 (fun j _ => by rw [Nat.zero_add])
theorem tv_none (B : Nat -> Bool) (n : Nat) : tv B n n = 0 := by simp [tv, bv]
theorem tv_step (B : Nat -> Bool) {n k : Nat} (h : k < n) : tv B n k = 2 * tv B n (k + 1) + (B k).toNat := by
 unfold tv; rw [show n - k = (n - (k + 1)) + 1 by omega, bv_front]
 congr 1
 congr 1
 exact xk0 (fun j _ => by rw [show k + (j + 1) = k + 1 + j by omega])
theorem tv_lt (B : Nat -> Bool) (n k : Nat) : tv B n k < 2 ^ n := Nat.lt_of_lt_of_le (bv_lt _ _) (Nat.pow_le_pow_right (by omega) (by omega))
def DblI (V c : Nat) (D : Nat -> Nat) (j : Nat) : Prop := ∀ q, D q = if q < j then dgt (2 * V + c) q else dgt V q
theorem dblI_start (V c : Nat) : DblI V c (dgt V) 0 := fun q => by simp
theorem dblI_step {V c j x y : Nat} {D : Nat -> Nat} (h : DblI V c D j) (hx : D j = x) (hy : y = (2 * x + cry V c j) % 10) : DblI V c (upd D j y) (j + 1) := by
 intro q
 by_cases e : q = j
 . subst e
   rw [xq5, if_pos (by omega), dgt_dbl, hy, <- hx, h q, if_neg (by omega)]
 . rw [xq3 _ _ _ _ e, h q]
   by_cases h1 : q < j
   . rw [if_pos h1, if_pos (by omega)]
   . rw [if_neg h1, if_neg (by omega)]
theorem dblI_at {V c j : Nat} {D : Nat -> Nat} (h : DblI V c D j) : D j = dgt V j := by rw [h j, if_neg (by omega)]
theorem dblI_end {V c m : Nat} {D : Nat -> Nat} (h : DblI V c D m) : ∀ q, q < m -> D q = dgt (2 * V + c) q := fun q hq => by rw [h q, if_pos hq]
theorem dd_row (V : Nat) : yl (fun t => 48 + dgt V (Lib.nDigits V - 1 - t)) (Lib.nDigits V) = Lib.byteCells (Lib.decDigits V) := by
 rw [dd_dgt]; unfold yl Lib.byteCells; rw [List.map_map]; refine List.map_congr_left fun t _ => ?_
 have hd := dgt_lt V (Lib.nDigits V - 1 - t); simp only [Function.comp, UInt8.toNat_ofNat']; rw [Nat.mod_eq_of_lt (by omega)]
theorem xk7 {w : World} {base : Nat} {v : Value} {m : Nat} {l : List UInt8} (h : w.ownsRow base 5 1 v m (Lib.byteCells l)) (hv : v ≠ .slice none 0 0) (hl : m = l.length) :
 ∃ g cap, v = .slice (some ⟨g, 0, none⟩) m cap /\ (convert 114 9 (.slice (some ⟨g, 0, none⟩) m cap)).run Tryz.prog w = .ok (.string ⟨l.toArray⟩) w := by
 subst hl; have hc := @World.ownsRow.cells _ _ _ _ _ _ _ h
 rcases h.2 with ⟨rfl, -⟩ | ⟨g, cap, cur, rfl, hb, hg, hm, _⟩
 . exact absurd rfl hv
 . refine ⟨g, cap, rfl, run_convert_bytes_back w 114 9 5 ⟨g, 0, none⟩ cap l Tryz.underlying114 Tryz.underlying5 Tryz.underlying9 (fun j hj => ?_)⟩
   exact hc (g := g) rfl j _ (by simp [Lib.byteCells, hj])
theorem xw6 (a : Option Addr) (b off n cap : Nat) (B : Nat -> Bool) (w : World) (hn : n <= 134217728) (hB : Bits w a b off n B) :
 Calls Tryz.prog 157 #[.slice a n cap] w fun e w' => e = .returned (.string ⟨(Lib.decDigits (bv B n)).toArray⟩) /\ w.Since w.heap.size w' := by
 obtain ⟨i0, hi, hz0, hz1, hz2⟩ := info_parts Tryz.info5; go_enter Tryz.func157, Tryz.ntmps157; have hA0 : (w.alloc (.cells #[.int .u8 0] 5)).ownsRow w.heap.size 5 1 (.slice (some ⟨w.heap.size, 0, none⟩) 1 1) 1 (yl (dgt 0) 1) := own_one w w.heap.size (.int .u8 0) 5 (Nat.le_refl _); have HE0 := hide (tv_none B n); go_wp2
 go_loopw [3, 4] (fun v t wr => ∃ (k m V : Nat) (z : Int), k <= n /\ t = .int .i64 z /\ Hid (z = (k : Int) - 1) /\ Hid (v ≠ .slice none 0 0) /\ wr.ownsRow w.heap.size 5 1 v m (yl (dgt V) m) /\ w.Since w.heap.size wr /\ Hid (V = tv B n k /\ m = Lib.nDigits V)) (fun _ t _ => (intOf t + 1).toNat)
 case atStart => exact ⟨n, 1, 0, (n : Int) - 1, Nat.le_refl _, rfl, hide rfl, hide (by simp), hA0, (World.Since.refl _ _).alloc (Nat.le_refl _) _, hide ⟨HE0.out.symm, (Lib.nDigits_small (by omega)).symm⟩⟩
 case round =>
  clear hA0; obtain ⟨k, m, V, z, hk, rfl, HZ, HN, hown, hs, HV⟩ := hrel
  have hm : m <= 134217729 := by
   have h1 := nd_lim (tv_lt B n k); have h2 := HV.out.1; have h3 := HV.out.2; rw [<- h2, <- h3] at h1; omega
  by_cases h0 : 0 < k
  . have hzk : z = ((k - 1 : Nat) : Int) := by have := HZ.out; omega
    clear HZ; subst hzk; have hzp : (0 : Int) <= ((k - 1 : Nat) : Int) := by omega
    obtain ⟨rfl, hc⟩ := hB (k - 1) (by omega); have g0 : wr.cell? ⟨b, off + (k - 1), none⟩ = some (.bool (B (k - 1))) := by rw [hs.cell (a := ⟨b, off + (k - 1), none⟩) (hB.lt (by omega))]; exact hc
    clear hc; have HS := hide (tv_step B (show k - 1 < n by omega)); obtain ⟨x, hx⟩ : ∃ x, x = B (k - 1) := ⟨_, rfl⟩; rw [<- hx] at g0 HS; clear hx; obtain ⟨g, cap1, rfl, hmc, hg, hgl, -, -⟩ := ownY_some hown HN.out; obtain ⟨c, hc⟩ : ∃ c, c = x.toNat := ⟨_, rfl⟩; have hc1 : c <= 1 := by rw [hc]; cases x <;> decide
    have HS2 := HS.out; rw [<- hc, show k - 1 + 1 = k by omega, <- HV.out.1] at HS2; have HC := hide hc; clear HS hc; have HS := hide HS2; clear HS2; cases x
    focus
     go_wp2
    rotate_left
    focus
     go_wp2
    all_goals
     go_loopw [5, 6] (fun q t wr2 => ∃ (j cb : Nat) (D : Nat -> Nat), j <= m /\ t = .int .i64 j /\ q = .int .u8 cb /\ cb <= 1 /\ Hid (cb = cry V c j) /\ wr2.ownsRow w.heap.size 5 1 (.slice (some ⟨g, 0, none⟩) m cap1) m (yl D m) /\ w.Since w.heap.size wr2 /\ Hid (DblI V c D j)) (fun _ t _ => m - (intOf t).toNat)
     case atStart => exact ⟨0, c, dgt V, Nat.zero_le _, rfl, by rw [HC.out]; rfl, hc1, hide (cry_zero V c).symm, hown, hs, hide (dblI_start V c)⟩
     case round =>
      clear hown hs g0; obtain ⟨j, cb, D, hj, rfl, rfl, hcb, HCB, hown, hs, HD⟩ := hrel
      by_cases hjm : j < m
      . obtain ⟨g', cap2, e, -, -, -, hc, hf⟩ := ownY_some hown (by simp)
        cases e; have g1 := hc j hjm; have f1 := hf j; have hx9 : D j <= 9 := by rw [dblI_at HD.out]; have := dgt_lt V j; omega
        have HSt := hide (fun (y : Nat) => dblI_step (y := y) HD.out rfl); rw [<- HCB.out] at HSt; have HCs := hide (cry_succ V c j); rw [<- HCB.out, <- dblI_at HD.out] at HCs; obtain ⟨d, hd⟩ : ∃ d, d = D j := ⟨_, rfl⟩; rw [<- hd] at g1 hx9 HSt HCs; clear hd hc hf HCB; have hji : (j : Int) < (m : Int) := by omega
        go_wp2; go_roundw
        case rel => go_light; exact ⟨j + 1, (2 * d + cb) / 10, _, by omega, by go_num, congrArg (Value.int .u8) (by omega), by omega, hide HCs.out.symm, ownY_set hown j ((2 * d + cb) % 10) _ (by omega), hs.setCell hg _, hide (HSt.out _ rfl)⟩
        case measure => simp [intOf] <;> omega
      . have e : j = m := by omega
        subst e; have HD2 := hide (dblI_end HD.out); clear HD; have hrow := hown; rw [yl_congr HD2.out] at hrow; have hHV := HV.out
        rcases Nat.eq_zero_or_pos cb with h2 | h2
        . subst h2
          have HM := hide (nd_same hc1 (by rw [<- hHV.2]; exact HCB.out.symm)); clear hHV; go_wp2; go_roundw
          case rel => exact ⟨k - 1, j, 2 * V + c, ((k - 1 : Nat) : Int) - 1, by omega, by go_num, hide rfl, hide (by simp), hrow, hs, hide ⟨HS.out.symm, by rw [HM.out]; exact HV.out.2⟩⟩
          case measure => simp [intOf] <;> omega
        . have hcp : ((0 : Int) < (cb : Int)) := by omega
          have HM := hide (nd_more hc1 (by rw [<- hHV.2, <- HCB.out]; exact h2)); clear hHV; have hsz := hs.size
          go_wp2_with (at_builtin; refine wpList_append_own _ rfl _ _ 114 rfl w.heap.size 5 i0 (.int .u8 0) 1 1 Tryz.underlying114 hi hz0 hz1 hz2 rfl (by decide) _ _ _ rfl (hrow.alloc _) ⟨wr.heap.size, 0, none⟩ 1 1 [.int .u8 cb] rfl rfl (xj2 _ _ _) (xj6 _ rfl) (by unfold maxLen; omega) (by omega) (by simp; omega) ?_)
          intro v' w1 hown' hgrow hnn; have hs1 : w.Since w.heap.size w1 := (hs.alloc hs.size _).grown hgrow (by simp; omega) (fun k hk => (hrow.lt k hk).1); have HN' := hide hnn
          have hown2 : w1.ownsRow w.heap.size 5 1 v' (j + 1) (yl (dgt (2 * V + c)) (j + 1)) := by
           rw [yl_succ, show dgt (2 * V + c) j = cb from by rw [HCB.out, HV.out.2]; exact HM.out.2]; exact hown'
          clear hown' hgrow hnn hown hrow hs HN; go_wp2; go_roundw
          case rel => exact ⟨k - 1, j + 1, 2 * V + c, ((k - 1 : Nat) : Int) - 1, by omega, by go_num, hide rfl, HN', hown2, hs1, hide ⟨HS.out.symm, by rw [HM.out.1, <- HV.out.2]⟩⟩
          case measure => simp [intOf] <;> omega
  . have hzk : z = -1 := by have := HZ.out; omega
    clear HZ; subst hzk; have k0 : k = 0 := by omega
    subst k0; have HVV := hide (HV.out.1.trans (tv_all B n)); have HMM := hide HV.out.2; clear HV; obtain ⟨g, cap1, rfl, hmc, hg, hgl, hcl, -⟩ := ownY_some hown HN.out; clear HN hown hB; have hm1 : 1 <= m := by have := Lib.nDigits_pos V; rw [HMM.out]; exact this
    generalize wr = w3 at *; have sA := sal w3 (.cells #[] 5); have hA1 : (w3.alloc (.cells #[] 5)).ownsRow w3.heap.size 5 1 (.slice (some ⟨w3.heap.size, 0, none⟩) 0 0) 0 [] := World.ownsRow_made w3 #[] 0 (Nat.le_refl _) (by decide) rfl; go_wp2
    go_loopw [8, 9] (fun v t wr2 => ∃ (k : Nat) (z : Int), k <= m /\ t = .int .i64 z /\ Hid (z = (k : Int) - 1) /\ Hid (v ≠ .slice none 0 0) /\ wr2.ownsRow w3.heap.size 5 1 v (m - k) (yl (fun q => 48 + dgt V (m - 1 - q)) (m - k)) /\ w3.Since w3.heap.size wr2) (fun _ t _ => (intOf t + 1).toNat)
    case atStart => exact ⟨m, (m : Int) - 1, Nat.le_refl _, rfl, hide rfl, hide (by simp), by rw [Nat.sub_self]; exact hA1, sA⟩
    case round =>
     clear sA hA1; obtain ⟨k, z, hk, rfl, HZ, HN, hown, hs2⟩ := hrel
     by_cases h1 : 0 < k
     . have hzk : z = ((k - 1 : Nat) : Int) := by have := HZ.out; omega
       clear HZ; subst hzk; have hzp : (0 : Int) <= ((k - 1 : Nat) : Int) := by omega
       have g1 : wr.cell? ⟨g, k - 1, none⟩ = some (.int .u8 (dgt V (k - 1))) := by rw [hs2.cell (a := ⟨g, k - 1, none⟩) hgl]; exact hcl (k - 1) (by omega)
       have HDG : Hid (dgt V (m - 1 - (m - k)) = dgt V (k - 1)) := by rw [show m - 1 - (m - k) = k - 1 by omega]; rfl
       have hd9 := dgt_lt V (k - 1); obtain ⟨d, hd⟩ : ∃ d, d = dgt V (k - 1) := ⟨_, rfl⟩; rw [<- hd] at g1 hd9 HDG; clear hd; have hsz := hs2.size; have hkm : ((k - 1 : Nat) : Int) < (m : Int) := by omega
       have hwr : IntKind.u8.wrap (48 + (d : Int)) = ((48 + d : Nat) : Int) := by rw [IntKind.wrap_u8]; omega
       go_wp2_with (at_builtin; refine wpList_append_own _ rfl _ _ 114 rfl w3.heap.size 5 i0 (.int .u8 0) 1 1 Tryz.underlying114 hi hz0 hz1 hz2 rfl (by decide) _ _ _ rfl (hown.alloc _) ⟨wr.heap.size, 0, none⟩ 1 1 [.int .u8 _] rfl rfl (xj2 _ _ _) (xj6 _ rfl) (by unfold maxLen; omega) (by omega) (by simp; omega) ?_)
       intro v' w1 hown' hgrow hnn; have hs1 : w3.Since w3.heap.size w1 := (hs2.alloc hs2.size _).grown hgrow (by simp; omega) (fun k hk => (hown.lt k hk).1); have HN' := hide hnn
       have hown2 : w1.ownsRow w3.heap.size 5 1 v' (m - (k - 1)) (yl (fun q => 48 + dgt V (m - 1 - q)) (m - (k - 1))) := by
        rw [show m - (k - 1) = (m - k) + 1 by omega, yl_succ, HDG.out]; exact hown'
       clear hown' hgrow hnn hown hs2 HN; go_wp2; go_roundw
       case rel => exact ⟨k - 1, ((k - 1 : Nat) : Int) - 1, by omega, by go_num, hide rfl, HN', hown2, hs1⟩
       case measure => simp [intOf] <;> omega
     . have hzk : z = -1 := by have := HZ.out; omega
       clear HZ; subst hzk; have k0 : k = 0 := by omega
       subst k0; rw [Nat.sub_zero] at hown; have HR := hide (dd_row V); rw [<- HMM.out] at HR; rw [HR.out] at hown; have hcv := xk7 hown HN.out (by rw [Lib.decDigits_length]; exact HMM.out); rw [HVV.out] at hcv; obtain ⟨g2, cap2, rfl, hcv⟩ := hcv; have hs3 := hs.trans (sM hs2 hs.size); clear hown hs2 HN; go_wp2; go_ret; exact ⟨rfl, hs3⟩
def yz4 (neg : Bool) (N D : Nat) : List UInt8 := (if neg then [45] else []) ++ (Lib.decDigits N ++ (if D = 1 then [] else 47 :: Lib.decDigits D))
theorem str_app (l m : List UInt8) : (⟨l.toArray⟩ : ByteArray) ++ ⟨m.toArray⟩ = ⟨(l ++ m).toArray⟩ := by
 have h : ((⟨l.toArray⟩ : ByteArray) ++ ⟨m.toArray⟩).data = (l ++ m).toArray := by simp
 cases hx : ((⟨l.toArray⟩ : ByteArray) ++ ⟨m.toArray⟩); rw [hx] at h; rw [<- h]
theorem dd_lim {X : Nat -> Nat} {n : Nat} (hn : n <= 1048576) (h : ∀ j, j < n -> X j < 4294967296) : (Lib.decDigits (lv X n)).length <= 33554433 := by
 rw [Lib.decDigits_length]; have := nd_lim (yj5 X n h); omega
theorem lv_is_one {Y : Nat -> Nat} {m : Nat} (lY : ∀ j, j < m -> Y j < 4294967296) (pY : 0 < m -> Y (m - 1) ≠ 0) (h : lv Y m = 1) : m = 1 /\ Y 0 = 1 := by
 obtain ⟨e, h2⟩ := lv_inj (Y := fun _ => 1) (m := 1) lY (fun _ _ => by decide) pY (fun _ => by decide) (by rw [h]; simp [lv]); exact ⟨e, h2 0 (by omega)⟩
theorem l1Text_any (neg : Bool) (a b : Option Addr) (ba oa n ca bb ob m cb : Nat) (X Y : Nat -> Nat) (w : World) (hn : n <= 1048576) (hm : m <= 1048576) (hX : xq1 w a ba oa n X) (hY : xq1 w b bb ob m Y)
 (hXl : ∀ j, j < n -> X j < 4294967296) (hYl : ∀ j, j < m -> Y j < 4294967296) (pY : 0 < m -> Y (m - 1) ≠ 0) :
 Calls Tryz.prog 120 #[.agg #[.bool neg, .slice a n ca, .slice b m cb]] w fun e w' => e = .returned (.string ⟨(yz4 neg (lv X n) (lv Y m)).toArray⟩) /\ w.Since w.heap.size w' := by
 have sA := sal w (.cells #[.bool neg, .slice a n ca, .slice b m cb] 61); have bA := Box3.new w (.bool neg) (.slice a n ca) (.slice b m cb) 61; have HXl := hide hXl; have HYl := hide hYl; have HP := hide pY; clear hXl hYl pY; go_enter Tryz.func120, Tryz.ntmps120; go_wp2_with fail; generalize w.alloc (.cells #[.bool neg, .slice a n ca, .slice b m cb] 61) = w1 at *; refine (xq7 a ba oa n ca X w1 (by omega) (hX.keep sA) HXl.out).mono ?_; rintro e w2 ⟨a2, g2, m2, c2, B2, rfl, h21, h22, L2, -, -, v2, s2⟩; have HV2 := hide v2; have S2 := sA.trans (sM s2 sA.size); have K2 := bA.keep s2; clear v2 s2 sA bA; go_wp2_with fail; refine (xw6 a2 g2 0 m2 c2 B2 w2 (by omega) L2).mono ?_; rintro e w3 ⟨rfl, s3⟩; rw [HV2.out]; have S3 := S2.trans (sM s3 S2.size); have K3 := K2.keep s3; have hY3 := hY.keep S3; clear s3 S2 K2 L2 HV2 h21 h22; have hlN := dd_lim hn HXl.out; have hlD := dd_lim hm HYl.out; have k0 := K3.c0; have k1 := K3.c1; have k2 := K3.c2
 by_cases h1 : m = 1
 . subst h1
   obtain ⟨rfl, hc⟩ := hY3 0 (by omega); rw [Nat.add_zero] at hc
   by_cases h2 : Y 0 = 1
   . have HD : Hid (lv Y 1 = 1) := by show lv Y 1 = 1; simp [lv, h2]
     rw [h2] at hc; cases neg
     . go_wp2
       go_ret; refine ⟨?_, S3⟩; rw [HD.out]
       simp [yz4]
     . go_wp2
       go_ret; refine ⟨?_, S3⟩; rw [HD.out]
       simp [yz4, str_app]
   . have HD : Hid (¬ lv Y 1 = 1) := fun h => h2 (by simpa [lv] using h)
     have hne : ((Y 0 : Int) == 1) = false := by simp; omega
     cases neg
     . go_wp2_with fail
       refine (xq7 _ bb ob _ cb Y w3 (by omega) hY3 HYl.out).mono ?_; rintro e w4 ⟨a4, g4, m4, c4, B4, rfl, h41, h42, L4, -, -, v4, s4⟩; have HV4 := hide v4; have S4 := S3.trans (sM s4 S3.size); clear v4 s4; go_wp2_with fail; refine (xw6 a4 g4 0 m4 c4 B4 w4 (by omega) L4).mono ?_; rintro e w5 ⟨rfl, s5⟩; rw [HV4.out]; go_wp2; go_ret; refine ⟨?_, S4.trans (sM s5 S4.size)⟩; have hD := HD.out
       simp [yz4, str_app, hD]
     . go_wp2_with fail
       refine (xq7 _ bb ob _ cb Y w3 (by omega) hY3 HYl.out).mono ?_; rintro e w4 ⟨a4, g4, m4, c4, B4, rfl, h41, h42, L4, -, -, v4, s4⟩; have HV4 := hide v4; have S4 := S3.trans (sM s4 S3.size); clear v4 s4; go_wp2_with fail; refine (xw6 a4 g4 0 m4 c4 B4 w4 (by omega) L4).mono ?_; rintro e w5 ⟨rfl, s5⟩; rw [HV4.out]; go_wp2; go_ret; refine ⟨?_, S4.trans (sM s5 S4.size)⟩; have hD := HD.out
       simp [yz4, str_app, hD]
 . have HD : Hid (¬ lv Y m = 1) := fun h => h1 (lv_is_one HYl.out HP.out h).1
   have hne : ((m : Int) == 1) = false := by simp; omega
   cases neg
   . go_wp2_with fail
     refine (xq7 _ bb ob _ cb Y w3 (by omega) hY3 HYl.out).mono ?_; rintro e w4 ⟨a4, g4, m4, c4, B4, rfl, h41, h42, L4, -, -, v4, s4⟩; have HV4 := hide v4; have S4 := S3.trans (sM s4 S3.size); clear v4 s4; go_wp2_with fail; refine (xw6 a4 g4 0 m4 c4 B4 w4 (by omega) L4).mono ?_; rintro e w5 ⟨rfl, s5⟩; rw [HV4.out]; go_wp2; go_ret; refine ⟨?_, S4.trans (sM s5 S4.size)⟩; have hD := HD.out
     simp [yz4, str_app, hD]
   . go_wp2_with fail
     refine (xq7 _ bb ob _ cb Y w3 (by omega) hY3 HYl.out).mono ?_; rintro e w4 ⟨a4, g4, m4, c4, B4, rfl, h41, h42, L4, -, -, v4, s4⟩; have HV4 := hide v4; have S4 := S3.trans (sM s4 S3.size); clear v4 s4; go_wp2_with fail; refine (xw6 a4 g4 0 m4 c4 B4 w4 (by omega) L4).mono ?_; rintro e w5 ⟨rfl, s5⟩; rw [HV4.out]; go_wp2; go_ret; refine ⟨?_, S4.trans (sM s5 S4.size)⟩; have hD := HD.out
     simp [yz4, str_app, hD]
end Go.Proofs.YtnogbaapcjjngaaGreatDoor
