import Derived.Test.YtnogbaapcjjngaaGreatDoorOwnP3
import Derived.Lib.Builder
import Derived.Lib.OthersKept
import Derived.Lib.AppendStr
import Derived.Lib.OwnKind
import Derived.Laws.Externs
set_option maxHeartbeats 6400000
set_option maxRecDepth 100000
namespace Go.Proofs.YtnogbaapcjjngaaGreatDoor
open Go.RowKit
theorem info_bld : ∃ j, Tryz.prog.info? 116 = some j /\ j.size ≠ 0 := by
 have h : (Tryz.prog.info? 116).map (fun i => i.size) = some 2 := by kernel_rfl
 obtain ⟨i, hi, h⟩ := Option.map_eq_some_iff.1 h; exact ⟨i, hi, by omega⟩
theorem copyCheck_q (B b : Nat) (bs : List Value) (w : World) (h : Lib.IsBuilder 116 5 B b bs w) :
 Calls Tryz.prog 132 #[.pointer (some ⟨b, 0, none⟩)] w fun e w' => e = .returned (.tuple #[]) /\ Lib.BuilderAt 116 5 B b (.pointer (some ⟨b, 0, none⟩)) bs w' /\ w.Since B w' /\ Lib.OthersKept 5 (some b) w w' := by
 obtain ⟨j, hj, hj0⟩ := info_bld
 rcases h with h | h
 . have c0 := h.cell0
   have f0 := h.frozen0; have hu := Lib.run_to_unsafe (P := Tryz.prog) w (src := 113) (dst := 199) (t := 116) (e := 116) (cells := 2) ⟨b, 0, none⟩ Tryz.underlying113 Tryz.underlying199 hj hj0 h.shape (show 0 < 2 by omega); have hf := Lib.run_from_unsafe (P := Tryz.prog) w (src := 199) (dst := 113) (u := 116) (e := 116) (cells := 2) ⟨b, 0, none⟩ Tryz.underlying199 Tryz.underlying113 hj h.shape (by kernel_rfl)
   have hx : (callFunc 167 #[.pointer (some ⟨b, 0, none⟩)]).run Tryz.prog w = .ok (.value (.pointer (some ⟨b, 0, none⟩))) w := by
    rw [run_callFunc_extern Tryz.func167 (by kernel_rfl) (by kernel_rfl) (by kernel_rfl) (e := Extern.AbiNoEscape.same) (by kernel_rfl), Lib.run_noEscape]
    rfl
   have U := h.used (.pointer (some ⟨b, 0, none⟩)); have S1 : w.Since B (w.setCell ⟨b, 0, none⟩ (.pointer (some ⟨b, 0, none⟩))) := (World.Since.refl B w).setCell h.1 _; have K1 := (Lib.OthersKept.refl 5 (some b) w).setCell ⟨b, 0, none⟩ rfl (.pointer (some ⟨b, 0, none⟩)); have u0 := U.cell0; have hn := Lib.run_neq_ptr_same (P := Tryz.prog) (w.setCell ⟨b, 0, none⟩ (.pointer (some ⟨b, 0, none⟩))) (tp := 113) (te := 116) ⟨b, 0, none⟩ Tryz.underlying113 hj; go_enter Tryz.func132, Tryz.ntmps132; go_wp2
   go_end0
   exact ⟨rfl, U, S1, K1⟩
 . have u0 := h.cell0
   have hn := Lib.run_neq_ptr_same (P := Tryz.prog) w (tp := 113) (te := 116) ⟨b, 0, none⟩ Tryz.underlying113 hj; go_enter Tryz.func132, Tryz.ntmps132; go_wp2
   go_end0
   exact ⟨rfl, h, World.Since.refl _ _, Lib.OthersKept.refl _ _ _⟩
theorem info_byte : ∃ i, Tryz.prog.info? 5 = some i /\ i.zero = some (.int .u8 0) /\ i.size = 1 /\ i.bytes = 1 := by
 have h : (Tryz.prog.info? 5).map (fun i => (i.zero, i.size, i.bytes)) = some (some (.int .u8 0), 1, 1) := by kernel_rfl
 obtain ⟨i, hi, h⟩ := Option.map_eq_some_iff.1 h; simp only [Prod.mk.injEq] at h; exact ⟨i, hi, h.1, h.2.1, h.2.2⟩
theorem str_cells (s : List UInt8) : Lib.strCells ⟨s.toArray⟩ = Lib.byteCells s := by simp [Lib.strCells, Lib.byteCells]
theorem yx9 (B b : Nat) (l s : List UInt8) (w : World) (h : Lib.IsBuilder 116 5 B b (Lib.byteCells l) w) (hlen : l.length + s.length <= 140737488355328) (hBw : B <= w.heap.size) :
 Calls Tryz.prog 88 #[.pointer (some ⟨b, 0, none⟩), .string ⟨s.toArray⟩] w fun e w' => (∃ x, e = .returned x) /\ Lib.IsBuilder 116 5 B b (Lib.byteCells (l ++ s)) w' /\ w.Since B w' /\ Lib.OthersKept 5 (some b) w w' := by
 obtain ⟨i0, hi, hz0, hz1, hz2⟩ := info_byte; have hss : (⟨s.toArray⟩ : ByteArray).size = s.length := by simp [ByteArray.size]
 go_enter Tryz.func88, Tryz.ntmps88; go_wp2_with fail; refine (copyCheck_q B b (Lib.byteCells l) w h).mono ?_; rintro e w1 ⟨rfl, ⟨hB, v, hb, hown, hne⟩, s1, k1⟩; rw [Lib.byteCells_length] at hown; have c1 := Lib.cell_of_heap hb 1; have hlt : b < w1.heap.size := (Array.getElem?_eq_some_iff.1 hb).1; have z1 := s1.size; have c1 : w1.cell? ⟨b, 1, none⟩ = some v := c1
 go_wp2_with (at_builtin; refine Lib.wpList_append_own_string _ rfl _ _ 114 9 rfl B 5 i0 Tryz.underlying114 Tryz.underlying9 hi hz0 hz1 hz2 _ _ _ rfl hown ⟨s.toArray⟩ rfl (by rw [hss]; unfold maxLen; omega) (by rw [hss]; omega) (by omega) ?_)
 intro v2 w2 ho2 hg2 _; replace hg2 : w1.grownBy w2 v.ownBlock := hg2; have hb2 : w2.heap[b]? = some (.cells #[.pointer (some ⟨b, 0, none⟩), v] 116 (0, 0)) := (hg2.block b hlt (fun e => hne e.symm)).trans hb; have c2 : w2.cell? ⟨b, 1, none⟩ = some v := Lib.cell_of_heap hb2 1; have f2 := Lib.frozen_of_heap hb2 1; rw [str_cells] at ho2
 have ho3 : w2.ownsRow B 5 1 v2 (Lib.byteCells (l ++ s)).length (Lib.byteCells (l ++ s)) := by
  rw [Lib.byteCells_length, List.length_append, show Lib.byteCells (l ++ s) = Lib.byteCells l ++ Lib.byteCells s from List.map_append]; exact ho2
 have P2 := Lib.BuilderAt.put hB hb2 ho3 (by decide); have S2 : w.Since B w2 := s1.grown hg2 (by omega) (fun q hq => (hown.lt q hq).1); have S3 : w.Since B (w2.setCell ⟨b, 1, none⟩ v2) := S2.setCell hB _; have K3 := (k1.grown hg2 (Lib.ownsRow_kind hown)).setCell ⟨b, 1, none⟩ rfl v2
 obtain ⟨a9, n9, k9, e9⟩ : ∃ a n c, v2 = .slice a n c := by
  obtain ⟨-, ⟨e, -⟩ | ⟨g', cap', cur, e, -⟩⟩ := ho2
  . exact ⟨_, _, _, e⟩
  . exact ⟨_, _, _, e⟩
 subst e9; clear c1 ho2 hg2; go_wp2; go_ret2; exact ⟨⟨_, rfl⟩, Or.inr P2, S3, K3⟩
end Go.Proofs.YtnogbaapcjjngaaGreatDoor
