import Derived.Test.YtnogbaapcjjngaaGreatDoorOwnP12
import Derived.Test.YtnogbaapcjjngaaGreatDoorOwnP13
import Derived.WalkLawsBesides
import Derived.Deep.RegionHeldLaw
import Derived.BigQuiet
set_option maxHeartbeats 6400000
set_option maxRecDepth 100000
namespace Go.Proofs.YtnogbaapcjjngaaGreatDoor
open Go.RowKit
theorem stop_q (c bl wb t : Nat) (L ws : List ByteArray) (w : World) (h : Rdr w c bl wb L t ws) :
 Calls Tryz.prog 95 #[.pointer (some ⟨c, 0, none⟩)] w fun e w' => e = xx7 t /\ w' = w := by
 have c1 := h.c1; go_enter Tryz.func95, Tryz.ntmps95; go_wp2; exact ⟨rfl, rfl, rfl⟩
theorem StrsL.of {w : World} {base g cap : Nat} {ws : List ByteArray} (h : StrO w base g cap ws) : StrsL w g (.slice (some ⟨g, 0, none⟩) ws.length cap) ws := by
 obtain ⟨h1, h2, h3, h4⟩ := h.cells; exact ⟨_, 0, cap, rfl, h4, fun j x hx => ⟨rfl, by rw [Nat.zero_add]; exact h1 j x hx⟩⟩
theorem words_len (l : ByteArray) : (xj7 l).length <= l.size + 1 := Nat.le_trans (List.length_filter_le _ _) (pcs_len 32 l)
def Nxt (w w' : World) (c bl t : Nat) (L : List ByteArray) (e : Ending) : Prop :=
 (lnsF t (L.drop t) = [] /\ e = .returned (.bool false) /\ ∃ wb ws', Rdr w' c bl wb L L.length ws') ∨
 ∃ n x rest wb, lnsF t (L.drop t) = (n, x) :: rest /\ e = .returned (.bool true) /\ Rdr w' c bl wb L n x /\ w.heap.size <= wb /\ lnsF n (L.drop n) = rest /\ 0 < x.length
theorem nextLine_q (c bl wb t : Nat) (L ws : List ByteArray) (w : World) (h : Rdr w c bl wb L t ws) :
 Calls Tryz.prog 93 #[.pointer (some ⟨c, 0, none⟩)] w fun e w' => But c w w' /\ Nxt w w' c bl t L e := by
 have hll := h.ll; have HSZ := hide h.sz; go_enter Tryz.func93, Tryz.ntmps93; go_wp2_with fail
 go_loopw [] (fun wr => ∃ (k wb' : Nat) (ws' : List ByteArray), k <= L.length /\ Rdr wr c bl wb' L k ws' /\ But c w wr /\ Hid (lnsF t (L.drop t) = lnsF k (L.drop k))) (fun wr => L.length - (intOf ((wr.cell? ⟨c, 1, none⟩).getD undef)).toNat)
 case atStart => exact ⟨t, wb, ws, h.tl, h, But.refl c w, hide rfl⟩
 case round =>
  obtain ⟨k, wb', ws', hk, R, B, HE⟩ := hrel; have c0 := R.c0; have c1 := R.c1
  by_cases hlt : k < L.length
  . have hlt' : (k : Int) < (L.length : Int) := by omega
    obtain ⟨l, hl⟩ : ∃ l, L[k]? = some l := ⟨_, List.getElem?_eq_getElem hlt⟩; have hlz : l.size <= 100000 := HSZ.out l (List.mem_of_getElem? hl); have d0 := R.ln k l hl; go_wp2_with fail
    go_quiet (fail)
    go_wp2_with fail; have sd : wr.Since wr.heap.size (wr.drewN nq) := ((Same.refl wr).drewN nq).since _; have R1 := R.keep sd; have B1 : But c w (wr.drewN nq) := B.trans (But.of sd); generalize wr.drewN nq = wq at *; clear c0 c1 d0; have c0 := R1.c0; have c1 := R1.c1; have d0 := R1.ln k l hl; have lc := R1.lt; have hzw := fun x (hx : x ∈ xj7 l) => Nat.le_trans (words_le hx).1 hlz
    have hlw : (xj7 l).length <= 100001 := Nat.le_trans (words_len l) (by omega); have dr := sdr wq; have J1 := wordsOf_q l wq.drew (by omega); obtain ⟨xs, hxs⟩ : ∃ xs, xj7 l = xs := ⟨_, rfl⟩; rw [hxs] at J1 hlw hzw; have HZW := hide hzw; have HX := hide hxs; have HL := hide hl; clear hxs hzw hl
    go_region_held_law (fun w' => w'.cell? ⟨c, 0, none⟩ = some (.slice (some ⟨bl, 0, none⟩) L.length L.length) /\ w'.cell? ⟨c, 1, none⟩ = some (.int .i64 (k : Int)) /\ w'.cell? ⟨bl, k, none⟩ = some (.string l)) (go_keep)
     (first
       | (go_at_call 81
          with_reducible refine J1.mono ?_
          rintro e w2 ⟨g, cap, rfl, O, s2⟩; have v2 := dr.trans (sM s2 dr.size); have R2 := R1.keep v2; have p0 := R2.c0; have p1 := R2.c1; have p2 := R2.ln k l HL.out; obtain ⟨u, hu, -⟩ := R2.c2; have f2 := R2.f 2; have lg := O.lt g rfl; have lg1 : wq.heap.size <= g := lg.1; have R3 := R2.setWords (StrsL.of O) (by omega) lg.2 HZW.out hlw; have k0 := R3.c0; have k1 := R3.c1; have k2 := R3.ln k l HL.out; have k3 : (w2.setCell ⟨c, 2, none⟩ (.slice (some ⟨g, 0, none⟩) xs.length cap)).cell? ⟨c, 2, none⟩ = some (.slice (some ⟨g, 0, none⟩) xs.length cap) := World.cell?_setCell_same _ _ _ hu))
    all_goals clear c0 c1 d0 p0 p1 p2 hu f2 k0 k1 k2 J1
    have B3 : But c w (w2.setCell ⟨c, 2, none⟩ (.slice (some ⟨g, 0, none⟩) xs.length cap)) := (B1.trans (But.of v2)).set 2 _; generalize w2.setCell ⟨c, 2, none⟩ (.slice (some ⟨g, 0, none⟩) xs.length cap) = w3 at *; have c1 := R3.c1; have f1 := R3.f 1; have R4 := R3.setTaken (t' := k + 1) (by omega); have B4 : But c w (w3.setCell ⟨c, 1, none⟩ (.int .i64 ((k + 1 : Nat) : Int))) := B3.set 1 _; have en : ((k + 1 : Nat) : Int) = (k : Int) + 1 := by omega
    rw [en] at R4 B4
    have c2 : (w3.setCell ⟨c, 1, none⟩ (.int .i64 ((k : Int) + 1))).cell? ⟨c, 2, none⟩ = some (.slice (some ⟨g, 0, none⟩) xs.length cap) := by
     rw [World.cell?_setCell_other _ _ _ _ (by simp)]; exact k3
    have c1' : (w3.setCell ⟨c, 1, none⟩ (.int .i64 ((k : Int) + 1))).cell? ⟨c, 1, none⟩ = some (.int .i64 ((k : Int) + 1)) := World.cell?_setCell_same _ _ _ c1; clear k3 en
    rcases Nat.eq_zero_or_pos xs.length with h0 | h0
    . have hx0 : ¬ ((0 : Int) < (xs.length : Int)) := by omega
      have HB := hide (lnsF_blank HL.out (by rw [HX.out]; exact List.length_eq_zero_iff.1 h0)); clear h0; go_wp2; go_roundw
      case rel => exact ⟨k + 1, g, xs, by omega, R4, B4, hide (HE.out.trans HB.out)⟩
      case measure => rw [c1', R.c1]; simp [intOf]; omega
    . have hx0 : (0 : Int) < (xs.length : Int) := by omega
      have HB := hide (lnsF_line HL.out (by rw [HX.out]; intro e; rw [e] at h0; simp at h0)); go_wp2; go_ret; exact ⟨B4, Or.inr ⟨k + 1, xs, _, g, by rw [HE.out, HB.out, HX.out], rfl, R4, Nat.le_trans B1.size lg1, rfl, h0⟩⟩
  . have e : k = L.length := by omega
    subst e; have hz1 : ¬ ((L.length : Int) < (L.length : Int)) := by omega
    go_wp2_with fail
    go_quiet (fail)
    go_wp2; go_ret; have sd : wr.Since wr.heap.size (wr.drewN nq) := ((Same.refl wr).drewN nq).since _; exact ⟨B.trans (But.of sd), Or.inl ⟨by rw [HE.out]; exact lnsF_end (Nat.le_refl _), rfl, wb', ws', R.keep sd⟩⟩
end Go.Proofs.YtnogbaapcjjngaaGreatDoor
