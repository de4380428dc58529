import Derived.Test.YtlpabmcebpppfaaGreatDoorOwnP24
import Derived.Test.YtlpabmcebpppfaaGreatDoorOwnP11
import Derived.Test.YtlpabmcebpppfaaGreatDoorOwnP30
import Derived.Deep.AppendLies
import Derived.Test.YtlpabmcebpppfaaGreatDoorOwnP8
import Derived.Test.YtlpabmcebpppfaaGreatDoorOwnP19
import Derived.Test.YtlpabmcebpppfaaGreatDoorOwnP17
namespace Go.Proofs.YtlpabmcebpppfaaGreatDoor
open Go.RowKit

/-- strconv.Itoa at an int that is not negative. -/
theorem itoa_q (z : Int) (w : World) (h0 : 0 ≤ z) (h1 : z ≤ 9223372036854775807) (hP : Pow w) :
    Calls Tryz.prog 26 #[.int .i64 z] w fun e w' => e = .returned (.string ⟨(decB z).toArray⟩) ∧ w.Since w.heap.size w' := by
  refine (Tryz.strconv_Itoa z (by omega) h1 w hP).mono ?_
  rintro e w' ⟨rfl, k, os, rfl⟩
  exact ⟨by rw [itoa_dec h0], since_of_below (Lib.below_grow w.heap.size w (Nat.le_refl _) k os)⟩

theorem bytes_map (ws : List (List UInt8)) : ((ws.map fun l => (⟨l.toArray⟩ : ByteArray)).map (·.data.toList)) = ws := by
  rw [List.map_map]
  conv => rhs; rw [← List.map_id ws]
  rfl

set_option maxHeartbeats 1600000 in
set_option maxRecDepth 100000 in
/-- impl.lineOf. -/
theorem lineOf_q (bk o c : Nat) (ws : List (List UInt8)) (w : World) (hc : ∀ j x, ws[j]? = some x → w.cell? ⟨bk, o + j, none⟩ = some (.string ⟨x.toArray⟩)) (hbk : bk < w.heap.size) (hcap : ws.length ≤ c) (hn : ws.length ≤ 100000000) (hlen : (Lib.join ws [32]).length ≤ 1000000000) :
    Calls Tryz.prog 25 #[.slice (some ⟨bk, o, none⟩) ws.length c] w fun e w' => e = .returned (.string ⟨(Lib.join ws [32] ++ [10]).toArray⟩) ∧ w.Since w.heap.size w' := by
  have J := Tryz.strings_Join bk o c (ws.map fun l => (⟨l.toArray⟩ : ByteArray)) ⟨#[32]⟩ w (fun j x h => by
    rw [List.getElem?_map] at h
    obtain ⟨y, hy, rfl⟩ := Option.map_eq_some_iff.1 h
    exact hc j y hy) hbk (by rw [List.length_map]; omega) (by rw [List.length_map]; omega) (by rw [bytes_map]; exact Nat.le_trans hlen (by decide))
  rw [List.length_map, bytes_map] at J
  have hl2 : (Lib.join ws [32]).length ≤ 1000000000 := hlen
  go_enter Tryz.func25, Tryz.ntmps25
  go_wp2_with fail
  refine J.mono ?_
  rintro e w1 ⟨rfl, b1⟩
  go_wp2
  go_ret
  exact ⟨by simp [str_app], since_of_below b1⟩

theorem infoStr : ∃ i, Tryz.prog.info? 9 = some i ∧ i.zero = some (.string ⟨#[]⟩) ∧ i.size = 1 ∧ i.bytes = 16 := by
  have h : (Tryz.prog.info? 9).map (fun i => (i.zero, i.size, i.bytes)) = some (some (.string ⟨#[]⟩), 1, 16) := by kernel_rfl
  obtain ⟨i, hi, h⟩ := Option.map_eq_some_iff.1 h
  simp only [Prod.mk.injEq] at h
  exact ⟨i, hi, h.1, h.2.1, h.2.2⟩

/-- The cells of a list of texts. -/
def strV (ws : List (List UInt8)) : List Value := ws.map fun l => .string ⟨l.toArray⟩

theorem strV_len (ws : List (List UInt8)) : (strV ws).length = ws.length := by simp [strV]
theorem strV_get {ws : List (List UInt8)} {j : Nat} {x : List UInt8} (h : ws[j]? = some x) : (strV ws)[j]? = some (.string ⟨x.toArray⟩) := by
  unfold strV
  rw [List.getElem?_map, h]; rfl

/-- A list of texts that a row of its own holds. -/
theorem own_texts {w : World} {base g n cap : Nat} {ws : List (List UInt8)} (h : w.ownsRow base 9 1 (.slice (some ⟨g, 0, none⟩) n cap) n (strV ws)) : (∀ j x, ws[j]? = some x → w.cell? ⟨g, j, none⟩ = some (.string ⟨x.toArray⟩)) ∧ g < w.heap.size ∧ base ≤ g ∧ n ≤ cap ∧ ws.length = n := by
  have hc := @World.ownsRow.cells _ _ _ _ _ _ _ h
  have hl := h.lt g rfl
  refine ⟨fun j x hx => ?_, hl.2, hl.1, ?_, ?_⟩
  · have e1 := hc (g := g) rfl _ _ (strV_get hx)
    rw [Go.WideShapes.add_plain, Nat.zero_add] at e1
    exact e1
  · obtain ⟨_, ⟨e, _⟩ | ⟨g', cap', cur, e, hg, hb, hn, _⟩⟩ := h
    · simp at e
    · simp only [Value.slice.injEq] at e
      obtain ⟨_, _, rfl⟩ := e
      assumption
  · have := h.1
    rw [strV_len] at this
    omega

theorem textOf_m {w : World} {lo : Nat} {r : RatD} {a1 a2 : Option Addr} {k1 k2 : Nat} (L : RatL w lo r a1 a2 k1 k2) (ok : r.ok = true) (h : r.n + r.m ≤ 1048576) (hP : Pow w) :
    Calls Tryz.prog 27 #[.agg #[.bool r.neg, .slice a1 r.n k1, .slice a2 r.m k2]] w fun e w' => e = .returned (.string ⟨r.txt.toArray⟩) ∧ w.Since w.heap.size w' := by
  obtain ⟨ba, oa, -, LX⟩ := L.LX
  obtain ⟨bb, ob, -, LY⟩ := L.LY
  exact textOf_any r.neg a1 a2 ba oa r.n k1 bb ob r.m k2 r.X r.Y w (Nat.zero_le _) (by omega) (by omega) L.nc L.mc L.ac L.bc LX LY L.lX L.lY trivial hP ok

set_option maxHeartbeats 6400000 in
set_option maxRecDepth 100000 in
/-- impl.textsOf. -/
theorem textsOf_q (a : Option Addr) (lo b off n cap : Nat) (V : Nat → RatD) (w : World) (hn : n + szR V n ≤ 1048576) (H : Rats w lo a b off n V) (ok : RatsOk V n) (hP : Pow w) :
    Calls Tryz.prog 40 #[.slice a n cap] w fun e w' => ∃ g cap', e = .returned (.slice (some ⟨g, 0, none⟩) n cap') ∧ w'.ownsRow w.heap.size 9 1 (.slice (some ⟨g, 0, none⟩) n cap') n (strV (txts V n)) ∧ w.Since w.heap.size w' := by
  obtain ⟨i0, hi, hz0, hz1, hz2⟩ := infoStr
  have sA : w.Since w.heap.size (w.alloc (.cells #[] 9)) := (World.Since.refl _ _).alloc (Nat.le_refl _) _
  have oA : (w.alloc (.cells #[] 9)).ownsRow w.heap.size 9 1 (.slice (some ⟨w.heap.size, 0, none⟩) 0 0) 0 (strV (txts V 0)) := World.ownsRow_made w #[] 0 (Nat.le_refl _) (Nat.zero_le _) rfl
  go_enter Tryz.func40, Tryz.ntmps40
  go_wp2
  go_loopw [3, 9] (fun u i wr => ∃ k : Nat, k ≤ n ∧ i = .int .i64 k ∧ w.Since w.heap.size wr ∧ ∃ g cap', u = .slice (some ⟨g, 0, none⟩) k cap' ∧ wr.ownsRow w.heap.size 9 1 (.slice (some ⟨g, 0, none⟩) k cap') k (strV (txts V k))) (fun _ i _ => n - (intOf i).toNat)
  case atStart => exact ⟨0, Nat.zero_le _, rfl, sA, w.heap.size, 0, rfl, oA⟩
  case round =>
    obtain ⟨k, hk, rfl, s, g, cap', rfl, O⟩ := hrel
    by_cases hlt : k < n
    · obtain ⟨ea, a1, a2, k1, k2, M⟩ := H k hlt
      subst ea
      have hz : (k : Int) < (n : Int) := by omega
      have hok := ok k hlt
      have hsz : (V k).n + (V k).m ≤ 1048576 := by have := szR_at (R := V) hlt; omega
      have M1 := M.keep s
      have g0 := M1.c0
      have g1 := M1.c1
      have g2 := M1.c2
      have sN : wr.Since wr.heap.size (wr.alloc (.cells #[.bool (V k).neg, .slice a1 (V k).n k1, .slice a2 (V k).m k2] 53)) := (World.Since.refl _ _).alloc (Nat.le_refl _) _
      have nB := Box3.new wr (.bool (V k).neg) (.slice a1 (V k).n k1) (.slice a2 (V k).m k2) 53
      go_wp2_with fail
      generalize wr.alloc (.cells #[.bool (V k).neg, .slice a1 (V k).n k1, .slice a2 (V k).m k2] 53) = w1 at *
      have S1 := s.trans (sinceMono sN s.size)
      refine (textOf_m (M.keep S1).L hok hsz (hP.stay S1)).mono ?_
      rintro e w2 ⟨rfl, s2⟩
      obtain ⟨T, hT⟩ : ∃ T, (V k).txt = T := ⟨_, rfl⟩
      rw [hT]
      have HT := hide hT
      clear hT
      have u2 : wr.Since wr.heap.size w2 := sN.trans (sinceMono s2 sN.size)
      have S2 := s.trans (sinceMono u2 s.size)
      have O2 := own_keep O u2
      have z2 := u2.size
      have z0 := s.size
      clear g0 g1 g2 M1
      go_wp2_with (at_builtin; refine wpList_append_own_at _ rfl _ _ 75 rfl w.heap.size 9 i0 (.string ⟨#[]⟩) 1 16 Tryz.underlying75 hi hz0 hz1 hz2 rfl (by decide) _ _ _ rfl (O2.alloc _) ⟨w2.heap.size, 0, none⟩ 1 1 [.string ⟨T.toArray⟩] rfl rfl (new_cell _ _ _) (one_one _ rfl) (by unfold maxLen; omega) (by omega) (by simp; omega) ?_)
      intro v' w5 hown' hgrow hnn hat
      obtain ⟨g', capn, rfl, hg1, hg2⟩ := hown'.form (by omega)
      have sW := (World.Since.refl w2.heap.size w2).alloc (Nat.le_refl _) (.cells #[.string ⟨T.toArray⟩] 9)
      have S5 : w.Since w.heap.size w5 := (S2.trans (sinceMono sW S2.size)).grown hgrow (by simp; omega) (fun q hq => (O2.lt q hq).1)
      have O5 : w5.ownsRow w.heap.size 9 1 (.slice (some ⟨g', 0, none⟩) (k + 1) capn) (k + 1) (strV (txts V (k + 1))) := by
        rw [txts_succ, HT.out, show strV (txts V k ++ [T]) = strV (txts V k) ++ [.string ⟨T.toArray⟩] by simp [strV]]
        exact hown'
      clear hnn hat hown' hgrow
      go_wp2
      go_roundw
      case rel => exact ⟨k + 1, by omega, by go_num, S5, g', capn, rfl, O5⟩
      case measure => simp [intOf]; omega
    · have e : k = n := by omega
      subst e
      go_wp2
      go_ret
      exact ⟨g, cap', rfl, O, s⟩

end Go.Proofs.YtlpabmcebpppfaaGreatDoor

namespace Go.Proofs.YtlpabmcebpppfaaGreatDoor
open Go.RowKit

end Go.Proofs.YtlpabmcebpppfaaGreatDoor

namespace Go.Proofs.YtlpabmcebpppfaaGreatDoor
open Go.RowKit

end Go.Proofs.YtlpabmcebpppfaaGreatDoor
