import Derived.Test.YtigggjcnnlidgaaW4
import Derived.Test.YtigggjcnnlidgaaMath2
namespace Go.Proofs.Ytigggjcnnlidgaa
open Go.RowKit

theorem own_bits_some {w : World} {base : Nat} {v : Value} {m : Nat} {B : Nat → Bool} (h : w.ownsRow base 4 1 v m (bl B m)) (hv : v ≠ .slice none 0 0) :
    ∃ g cap, v = .slice (some ⟨g, 0, none⟩) m cap ∧ m ≤ cap ∧ base ≤ g ∧ Bits w (some ⟨g, 0, none⟩) g 0 m B := by
  have hc := @World.ownsRow.cells _ _ _ _ _ _ _ h
  rcases h.2 with ⟨rfl, rfl⟩ | ⟨g, cap, cur, rfl, hb, hg, hm, _⟩
  · exact absurd rfl hv
  · refine ⟨g, cap, rfl, hm, hb, fun j hj => ⟨rfl, ?_⟩⟩
    have := hc (g := g) rfl j _ (bl_get B m j hj)
    rw [Addr.add_lit] at this; exact this

theorem bl_congr {B C : Nat → Bool} {m : Nat} (h : ∀ j, j < m → B j = C j) : bl B m = bl C m := by
  unfold bl
  exact List.map_congr_left (fun j hj => by rw [h j (List.mem_range.1 hj)])

theorem bl_upd (D : Nat → Bool) (i : Nat) (v : Bool) : bl (upd D i v) (i + 1) = bl D i ++ [.bool v] := by
  rw [bl_succ, upd_same, bl_congr (fun j hj => upd_other D i v j (by omega))]

/-- A new cell, read at its place. -/
theorem new_cell (w : World) (x : Value) (t : TypeId) : ∀ j u, [x][j]? = some u → (w.alloc (.cells #[x] t)).cell? ((⟨w.heap.size, 0, none⟩ : Addr).add j) = some u := by
  intro j u hj
  match j, hj with
  | 0, hj => simp at hj; subst hj; simp [Addr.add]

theorem one_one (x : Value) (h : x.oneCell' = true) : ∀ u ∈ [x], u.oneCell' = true := by
  intro u hu; simp at hu; subst hu; exact h

theorem not_eq3 (x y c : Bool) : (!(!x == y) == c) = ((x != y) != c) := by cases x <;> cases y <;> cases c <;> rfl
theorem not_eq2 (x c : Bool) : (!(x == c)) = ((x != false) != c) := by cases x <;> cases c <;> rfl

set_option maxHeartbeats 6400000 in
set_option maxRecDepth 100000 in
theorem l1SubBits_any (a a' : Option Addr) (b off n cap b' off' m cap' : Nat) (A B : Nat → Bool) (w : World) (hn : n ≤ 268435456) (hm : m ≤ n) (hA : Bits w a b off n A) (hB : Bits w a' b' off' m B) (hle : bv B m ≤ bv A n) :
    Calls Try.prog 25 #[.slice a n cap, .slice a' m cap'] w fun e w' => ∃ g t cap'' D, e = .returned (.slice (some ⟨g, 0, none⟩) t cap'') ∧ t ≤ cap'' ∧ t ≤ n ∧ Bits w' (some ⟨g, 0, none⟩) g 0 t D ∧ w.heap.size ≤ g ∧
      (0 < t → D (t - 1) = true) ∧ bv D t = bv A n - bv B m ∧ w.Since w.heap.size w' := by
  obtain ⟨i0, hi, hz0, hz1, hz2⟩ := info_parts Try.info4
  have HL : Hid (bv B m ≤ bv A n) := hle
  clear hle
  go_enter Try.func25, Try.ntmps25
  go_wp2
  go_loopw [5, 6, 7] (fun v c t wr => ∃ (i : Nat) (cb : Bool) (D : Nat → Bool), i ≤ n ∧ t = .int .i64 i ∧ c = .bool cb ∧ Hid (v ≠ .slice none 0 0) ∧ wr.ownsRow w.heap.size 4 1 v i (bl D i) ∧ w.Since w.heap.size wr ∧ Hid (SubRel D A B m i cb)) (fun _ _ t _ => n - (intOf t).toNat)
  case atStart => exact ⟨0, false, fun _ => false, Nat.zero_le _, rfl, rfl, hide (by simp), World.ownsRow_made w #[] 0 (Nat.le_refl _) (by decide) rfl, (World.Since.refl _ _).alloc (Nat.le_refl _) _, hide rfl⟩
  case round =>
    obtain ⟨i, cb, D, hin, rfl, rfl, HN, hown, hs, HR⟩ := hrel
    by_cases hlt : i < n
    · obtain ⟨rfl, hc⟩ := hA i hlt
      have g0 : wr.cell? ⟨b, off + i, none⟩ = some (.bool (A i)) := by rw [hs.cell (a := ⟨b, off + i, none⟩) (hA.lt (by omega))]; exact hc
      clear hc
      obtain ⟨x, hx⟩ : ∃ x, x = A i := ⟨_, rfl⟩
      rw [← hx] at g0
      have HX : Hid (A i = x) := hx.symm
      clear hx
      by_cases him : i < m
      · obtain ⟨rfl, hc⟩ := hB i him
        have g1 : wr.cell? ⟨b', off' + i, none⟩ = some (.bool (B i)) := by rw [hs.cell (a := ⟨b', off' + i, none⟩) (hB.lt (by omega))]; exact hc
        obtain ⟨y, hy⟩ : ∃ y, y = B i := ⟨_, rfl⟩
        rw [← hy] at g1
        have HY : Hid (ext B m i = y) := by simp [Hid, ext, him, hy]
        clear hc hy
        have HS := hide (subRel_step HR.out HX.out HY.out)
        go_wp2_with (at_builtin; refine wpList_append_own _ rfl _ _ 30 rfl w.heap.size 4 i0 (.bool false) 1 1 Try.underlying30 hi hz0 hz1 hz2 rfl (by decide) _ _ _ rfl (hown.alloc _) ⟨wr.heap.size, 0, none⟩ 1 1 [.bool _] rfl rfl (new_cell _ _ _) (one_one _ rfl) (by unfold maxLen; omega) (by omega) (by have := hs.size; simp; omega) ?_)
        intro v' w1 hown' hgrow hnn
        have hs1 : w.Since w.heap.size w1 := (hs.alloc hs.size _).grown hgrow (by have := hs.size; simp; omega) (fun k hk => (hown.lt k hk).1)
        have HN' := hide hnn
        rw [not_eq3 x y cb, ← bl_upd] at hown'
        clear hgrow hown hs hnn HN
        cases x <;> cases y <;> cases cb
        all_goals
          go_wp2
          go_roundw
          case rel => exact ⟨i + 1, _, _, by omega, by go_num, rfl, HN', hown', hs1, HS⟩
          case measure => simp [intOf]; omega
      · have HY : Hid (ext B m i = false) := by simp [Hid, ext, him]
        have HS := hide (subRel_step HR.out HX.out HY.out)
        go_wp2_with (at_builtin; refine wpList_append_own _ rfl _ _ 30 rfl w.heap.size 4 i0 (.bool false) 1 1 Try.underlying30 hi hz0 hz1 hz2 rfl (by decide) _ _ _ rfl (hown.alloc _) ⟨wr.heap.size, 0, none⟩ 1 1 [.bool _] rfl rfl (new_cell _ _ _) (one_one _ rfl) (by unfold maxLen; omega) (by omega) (by have := hs.size; simp; omega) ?_)
        intro v' w1 hown' hgrow hnn
        have hs1 : w.Since w.heap.size w1 := (hs.alloc hs.size _).grown hgrow (by have := hs.size; simp; omega) (fun k hk => (hown.lt k hk).1)
        have HN' := hide hnn
        rw [not_eq2 x cb, ← bl_upd] at hown'
        clear hgrow hown hs hnn HN
        cases x <;> cases cb
        all_goals
          go_wp2
          go_roundw
          case rel => exact ⟨i + 1, _, _, by omega, by go_num, rfl, HN', hown', hs1, HS⟩
          case measure => simp [intOf]; omega
    · have e : i = n := by omega
      subst e
      obtain ⟨g, cap', rfl, hmc, hg, hD⟩ := own_bits_some hown HN.out
      go_wp2_with fail
      refine (l1Trim_any _ g 0 i cap' D _ (by omega) hmc hD).mono ?_
      rintro e w1 ⟨rfl, rfl⟩
      go_wp2
      go_ret
      have htl := tlen_le D i
      exact ⟨g, _, cap', D, rfl, by omega, htl, hD.take htl, hg, fun h => tlen_top _ _ h, (bv_tlen _ _).trans (subRel_end HR.out hm HL.out), hs⟩

end Go.Proofs.Ytigggjcnnlidgaa
