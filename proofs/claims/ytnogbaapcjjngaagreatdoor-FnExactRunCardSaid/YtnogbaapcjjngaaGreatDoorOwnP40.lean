import Derived.Test.YtnogbaapcjjngaaGreatDoorOwnP13
import Derived.Test.YtnogbaapcjjngaaGreatDoorOwnP14
import Derived.Lib.SlicesS
import Derived.Test.YtnogbaapcjjngaaGreatDoorOwnP7
set_option maxHeartbeats 6400000
set_option maxRecDepth 100000
namespace Go.Proofs.YtnogbaapcjjngaaGreatDoor
open Go.RowKit
theorem since_b {B : Nat} {w w' : World} (h : Below B w w') : w.Since B w' := ⟨h.os, h.tape, h.output, h.size, h.block⟩
theorem growF_q (B b n : Nat) (w : World) (hB : B <= b) (hbk : w.heap[b]? = some (.cells #[.pointer none, .slice none 0 0] 116 (0, 0))) (hBw : B <= w.heap.size) (hn : n <= 281474976710656) :
 Calls Tryz.prog 87 #[.pointer (some ⟨b, 0, none⟩), .int .i64 n] w fun e w' => e = .returned (.tuple #[]) /\ (Lib.BuilderAt 116 5 B b (.pointer (some ⟨b, 0, none⟩)) [] w' /\ Below B w w') :=
 Go.Proofs.Any.Builder_Grow_fresh { Tryz.lays156 with } Tryz.Builder_Extra_156 B b n w hB hbk hBw hn
theorem stringB_q (B b : Nat) (bs : List UInt8) (w : World) (h : Lib.IsBuilder 116 5 B b (Lib.byteCells bs) w) (hBw : B <= w.heap.size) :
 Calls Tryz.prog 89 #[.pointer (some ⟨b, 0, none⟩)] w fun e w' => e = .returned (.string ⟨bs.toArray⟩) /\ Below B w w' :=
 Tryz.Builder_String_any B b bs w h hBw
theorem replace_q (s : ByteArray) (w : World) (hs : s.size <= 20000) :
 Calls Tryz.prog 121 #[.string s, .string ⟨#[10]⟩, .string ⟨#[32]⟩, .int .i64 (-1)] w fun e w' => e = .returned (.string (rp s)) /\ w.Since w.heap.size w' := by
 obtain ⟨K, hK⟩ : ∃ K, s.data.toList.count 10 = K := ⟨_, rfl⟩; have hC := stringsCount_c 10 s K (by rw [pcs_count, hK]) w; have hKs : K <= s.size := by rw [<- hK, Lib.size_eq]; exact List.count_le_length
 obtain ⟨o, ho⟩ : ∃ o : ByteArray, o = ⟨#[10]⟩ := ⟨_, rfl⟩; obtain ⟨v, hv⟩ : ∃ v : ByteArray, v = ⟨#[32]⟩ := ⟨_, rfl⟩; have hbeq : (o.toList == v.toList) = false := (Lib.bytes_beq_false_iff o v).2 (by rw [ho, hv]; decide); have ho1 : (o.size : Int) = 1 := by rw [ho]; rfl
 have hv1 : (v.size : Int) = 1 := by rw [hv]; rfl
 have hop : (1 : Int) > 0 := by omega
 have HI : Hid (∀ (t : ByteArray) (w : World), t.size <= 1048577 -> Calls Tryz.prog 138 #[.string t, .string o] w fun e w' => e = .returned (.int .i64 (firstIdx t 10)) /\ w' = w) := hide (fun t w ht => by rw [ho]; exact stringsIndex_c 10 t w ht); have HV : Hid (v = ⟨[32].toArray⟩) := hide hv; rw [<- ho, <- hv]; rw [<- ho] at hC; clear ho hv
 by_cases h0 : K = 0
 . subst h0
   have hrp : rp s = s := by rw [rp_list, rpl_no hK]
   rw [hrp]; clear hK hrp; go_enter Tryz.func121, Tryz.ntmps121; go_wp2_with fail; refine hC.mono ?_; rintro e w1 ⟨rfl, rfl⟩; clear hC; go_wp2; go_ret; exact ⟨rfl, World.Since.refl _ _⟩
 have hcz : ((K : Int) == 0) = false := by simp; omega
 have HK := hide hK; have hK0 : 0 < K := by omega
 clear hK h0; have sA := sal w (.cells #[.pointer none, .slice none 0 0] 116); have hbk : (w.alloc (.cells #[.pointer none, .slice none 0 0] 116)).heap[w.heap.size]? = some (.cells #[.pointer none, .slice none 0 0] 116 (0, 0)) := heap_alloc_new w _; go_enter Tryz.func121, Tryz.ntmps121; go_wp2_with fail; refine hC.mono ?_; rintro e w1 ⟨rfl, rfl⟩; clear hC; go_wp2_with fail; generalize w1.alloc (.cells #[.pointer none, .slice none 0 0] 116) = wA at *; obtain ⟨B, hB⟩ : ∃ B, w1.heap.size = B := ⟨_, rfl⟩; rw [hB] at hbk ⊢; have hBw := sA.size; rw [hB] at hBw; refine (growF_q B B s.size wA (Nat.le_refl _) hbk hBw (by omega)).mono ?_; rintro e w2 ⟨rfl, hb2, bl2⟩; have S2 : w1.Since B w2 := (by rw [<- hB]; exact sA : w1.Since B wA).trans (since_b bl2); have HB2 : Hid (Lib.IsBuilder 116 5 B B (Lib.byteCells []) w2) := hide (Or.inr hb2); clear hb2 bl2 hbk sA hBw; go_wp2_with fail
 go_loopw [11, 53] (fun st i wr => ∃ (k start : Nat) (acc : List UInt8), k <= K /\ i = .int .i64 (k : Int) /\ st = .int .i64 (start : Int) /\ start <= s.size /\ w1.Since B wr /\ Hid (Lib.IsBuilder 116 5 B B (Lib.byteCells acc) wr) /\ Hid (acc ++ rpl (s.data.toList.drop start) = rpl s.data.toList) /\ Hid ((s.data.toList.drop start).count 10 = K - k)) (fun _ i _ => K - (intOf i).toNat)
 case atStart => exact ⟨0, 0, [], Nat.zero_le _, rfl, rfl, Nat.zero_le _, S2, HB2, hide (by simp), hide (by simpa using HK.out)⟩
 case round =>
  obtain ⟨k, start, acc, hk, rfl, rfl, hst, S, HB, HR, HC⟩ := hrel; have hBr : B <= wr.heap.size := by have := S.size; omega
  have hal : acc.length + (s.size - start) = s.size := by
   have h1 := congrArg List.length HR.out; rw [List.length_append, rpl_len, rpl_len, List.length_drop, <- Lib.size_eq] at h1; exact h1
  have c1 : (0 : Int) <= (start : Int) := by omega
  have c2 : (start : Int) <= (s.size : Int) := by omega
  by_cases hlt : k < K
  . have hz : (k : Int) < (K : Int) := by omega
    obtain ⟨j, hj, ej, hc, hr⟩ := firstIdx_l (s.extract start s.size) (m := K - k - 1) (by rw [Lib.extract_to_end, HC.out]; omega); rw [yj8 s hst (Nat.le_refl _)] at hj; rw [Lib.extract_to_end] at hc hr; have JX := HI.out (s.extract start s.size) wr (by rw [yj8 s hst (Nat.le_refl _)]; omega); rw [ej] at JX; have JW := yx9 B B acc ((s.data.toList.drop start).take j) wr HB.out (by rw [List.length_take]; omega) hBr; rw [show (⟨((s.data.toList.drop start).take j).toArray⟩ : ByteArray) = s.extract start (start + j) by rw [ext_list, Nat.add_sub_cancel_left]] at JW; have c3 : (start : Int) <= (start : Int) + (j : Int) := by omega
    have c4 : (start : Int) + (j : Int) <= (s.size : Int) := by omega
    have HR2 : Hid (acc ++ (s.data.toList.drop start).take j ++ [32] ++ rpl (s.data.toList.drop (start + j + 1)) = rpl s.data.toList) := hide (by
     rw [<- HR.out, hr, List.drop_drop, <- Nat.add_assoc]
     simp)
    have HC2 : Hid ((s.data.toList.drop (start + j + 1)).count 10 = K - (k + 1)) := hide (by
     rw [List.drop_drop, <- Nat.add_assoc] at hc; omega)
    have htl : ((s.data.toList.drop start).take j).length <= 20000 := by rw [List.length_take]; omega
    clear hc hr ej HR HC; go_wp2_with fail; refine JX.mono ?_; rintro e w3 ⟨rfl, rfl⟩; clear JX; go_wp2_with fail; refine JW.mono ?_; rintro e w4 ⟨⟨x4, rfl⟩, hb4, s4, -⟩; have S4 := S.trans s4; have hB4 : B <= w4.heap.size := by have := s4.size; omega
    have JV := yx9 B B (acc ++ (s.data.toList.drop start).take j) [32] w4 hb4 (by rw [List.length_append]; simp; omega) hB4; rw [<- HV.out] at JV; clear JW hb4; go_wp2_with fail; refine JV.mono ?_; rintro e w5 ⟨⟨x5, rfl⟩, hb5, s5, -⟩; have S5 := S4.trans s5; have HB5 := hide hb5; clear JV hb5; go_wp2; go_roundw
    case rel => exact ⟨k + 1, start + j + 1, acc ++ (s.data.toList.drop start).take j ++ [32], by omega, by go_num, by go_num, by omega, S5, HB5, HR2, HC2⟩
    case measure => simp [intOf]; omega
  . have hz : ¬ (k : Int) < (K : Int) := by omega
    have HF : Hid (acc ++ s.data.toList.drop start = rpl s.data.toList) := hide (by
     have h1 := HR.out; rw [rpl_no (by rw [HC.out]; omega)] at h1; exact h1)
    have JW := yx9 B B acc (s.data.toList.drop start) wr HB.out (by rw [List.length_drop, <- Lib.size_eq]; omega) hBr
    rw [show (⟨(s.data.toList.drop start).toArray⟩ : ByteArray) = s.extract start s.size by
     apply xw9
     rw [Lib.extract_to_end], HF.out] at JW
    go_wp2_with fail; refine JW.mono ?_; rintro e w4 ⟨⟨x4, rfl⟩, hb4, s4, -⟩; have S4 := S.trans s4; have JS := stringB_q B B (rpl s.data.toList) w4 hb4 (by have := s4.size; omega); clear JW hb4; go_wp2_with fail; refine JS.mono ?_; rintro e w5 ⟨rfl, bl5⟩; have S5 := S4.trans (since_b bl5); clear JS; go_wp2; go_ret; exact ⟨rfl, by rw [hB]; exact S5⟩
end Go.Proofs.YtnogbaapcjjngaaGreatDoor
