import Derived.Test.YtdfcckifbbeoiaaOwnP1
import Derived.Test.YtdfcckifbbeoiaaG1P2
import Derived.Maps.AppendAt
import Derived.Lib.Explode
namespace Go.Proofs.Ytdfcckifbbeoiaa
open Go.RowKit

theorem Try.info9 : (Try.prog.info? 9).map (fun i => (i.zero, i.size, i.bytes)) = some (some (.string ByteArray.empty), 1, 16) := by kernel_rfl

/-- The pieces so far. -/
def CutI (s : ByteArray) (i : Nat) (ps : List ByteArray) (f : Nat) : Prop :=
  (ps = [] ∧ f = 0 ∧ ∀ k, k < i → bt s k ≠ 47) ∨
  (∃ j, j < i ∧ bt s j = 47 ∧ (∀ k, k < i → k ≠ j → bt s k ≠ 47) ∧ ps = [s.extract 0 j] ∧ f = j + 1) ∨
  (2 ≤ ps.length ∧ ∃ j j', j < j' ∧ j' < i ∧ bt s j = 47 ∧ bt s j' = 47)

/-- The pieces. -/
def CutR (s : ByteArray) (qs : List ByteArray) : Prop :=
  (qs = [s] ∧ ∀ k, k < s.size → bt s k ≠ 47) ∨
  (∃ j, j < s.size ∧ bt s j = 47 ∧ (∀ k, k < s.size → k ≠ j → bt s k ≠ 47) ∧ qs = [s.extract 0 j, s.extract (j + 1) s.size]) ∨
  (3 ≤ qs.length ∧ ∃ j j', j < j' ∧ j' < s.size ∧ bt s j = 47 ∧ bt s j' = 47)

theorem cutI_skip {s : ByteArray} {i : Nat} {ps : List ByteArray} {f : Nat} (h : CutI s i ps f) (hb : bt s i ≠ 47) : CutI s (i + 1) ps f := by
  rcases h with ⟨h1, h2, h3⟩ | ⟨j, h1, h2, h3, h4, h5⟩ | ⟨h1, j, j', h2, h3, h4, h5⟩
  · refine Or.inl ⟨h1, h2, fun k hk => ?_⟩
    by_cases e : k = i
    · subst e; exact hb
    · exact h3 k (by omega)
  · refine Or.inr (Or.inl ⟨j, by omega, h2, fun k hk hne => ?_, h4, h5⟩)
    by_cases e : k = i
    · subst e; exact hb
    · exact h3 k (by omega) hne
  · exact Or.inr (Or.inr ⟨h1, j, j', h2, by omega, h4, h5⟩)

theorem cutI_hit {s : ByteArray} {i : Nat} {ps : List ByteArray} {f : Nat} (h : CutI s i ps f) (hb : bt s i = 47) : CutI s (i + 1) (ps ++ [s.extract f i]) (i + 1) := by
  rcases h with ⟨rfl, rfl, h3⟩ | ⟨j, h1, h2, h3, rfl, h5⟩ | ⟨h1, j, j', h2, h3, h4, h5⟩
  · exact Or.inr (Or.inl ⟨i, by omega, hb, fun k hk hne => h3 k (by omega), rfl, rfl⟩)
  · exact Or.inr (Or.inr ⟨by simp, j, i, h1, by omega, h2, hb⟩)
  · exact Or.inr (Or.inr ⟨by simp; omega, j, j', h2, by omega, h4, h5⟩)

theorem cutI_end {s : ByteArray} {ps : List ByteArray} {f : Nat} (h : CutI s s.size ps f) : CutR s (ps ++ [s.extract f s.size]) := by
  rcases h with ⟨rfl, rfl, h3⟩ | ⟨j, h1, h2, h3, rfl, rfl⟩ | ⟨h1, j, j', h2, h3, h4, h5⟩
  · exact Or.inl ⟨by rw [Lib.whole_piece]; rfl, h3⟩
  · exact Or.inr (Or.inl ⟨j, h1, h2, h3, rfl⟩)
  · exact Or.inr (Or.inr ⟨by simp; omega, j, j', h2, h3, h4, h5⟩)

set_option maxHeartbeats 1600000 in
set_option maxRecDepth 100000 in
theorem l1Cut_any (s : ByteArray) (w : World) (hs : s.size ≤ 1048577) :
    Calls Try.prog 81 #[.string s, .int .u8 47, .int .u8 47] w fun e w' => ∃ v qs, e = .returned v ∧ w'.ownsRow w.heap.size 9 1 v qs.length (qs.map Value.string) ∧ CutR s qs ∧ qs.length ≤ s.size + 1 ∧ w.Since w.heap.size w' := by
  obtain ⟨i0, hi, hz0, hz1, hz2⟩ := info_parts Try.info9
  go_enter Try.func81, Try.ntmps81
  go_wp2
  go_loopw [7, 8, 9] (fun v f t wr => ∃ (i fr : Nat) (ps : List ByteArray), i ≤ s.size ∧ fr ≤ i ∧ t = .int .i64 i ∧ f = .int .i64 fr ∧ wr.ownsRow w.heap.size 9 1 v ps.length (ps.map Value.string) ∧ Hid (CutI s i ps fr) ∧ ps.length ≤ i ∧ w.Since w.heap.size wr) (fun _ _ t _ => s.size - (intOf t).toNat)
  case atStart => exact ⟨0, 0, [], Nat.zero_le _, Nat.le_refl _, rfl, rfl, World.ownsRow_made w #[] 0 (Nat.le_refl _) (by decide) rfl, hide (Or.inl ⟨rfl, rfl, fun k hk => absurd hk (by omega)⟩), Nat.le_refl _, (World.Since.refl _ _).alloc (Nat.le_refl _) _⟩
  case round =>
    obtain ⟨i, fr, ps, hik, hfr, rfl, rfl, hown, HC, hpl, hS⟩ := hrel
    have hs1 := hS.size
    by_cases hlt : i < s.size
    · have hlt' : (i : Int) < (s.size : Int) := by omega
      have hx := bt_in hlt
      have hx2 := bt_lt s i
      by_cases c1 : bt s i = 47
      · have HC1 := hide (cutI_hit HC.out c1)
        rw [c1] at hx
        have hb0 : (0 : Int) ≤ (fr : Int) := by omega
        have hb1 : (fr : Int) ≤ (i : Int) := by omega
        clear c1 hx2 HC
        go_wp2_with (at_builtin; refine wpList_append_own _ rfl _ _ 80 rfl w.heap.size 9 i0 (.string ByteArray.empty) 1 16 Try.underlying80 hi hz0 hz1 hz2 rfl (by decide) _ _ _ rfl (hown.alloc _) ⟨wr.heap.size, 0, none⟩ 1 1 [.string (s.extract fr i)] rfl rfl (new_cell _ _ _) (one_one _ rfl) (by unfold maxLen; omega) (by omega) (by simp; omega) ?_)
        intro v' w1 hown' hgrow hnn
        have hs2 : w.Since w.heap.size w1 := (hS.alloc hS.size _).grown hgrow (by simp; omega) (fun k hk => (hown.lt k hk).1)
        rw [show ps.map Value.string ++ [.string (s.extract fr i)] = (ps ++ [s.extract fr i]).map Value.string by simp, show ps.length + 1 = (ps ++ [s.extract fr i]).length by simp] at hown'
        clear hgrow hnn hown
        go_wp2
        go_roundw
        case rel => exact ⟨i + 1, i + 1, _, by omega, by omega, by go_num, by go_num, hown', HC1, by simp; omega, hs2⟩
        case measure => simp [intOf]; omega
      · have HC1 := hide (cutI_skip HC.out c1)
        have c1' : ¬ ((bt s i : Int) = 47) := by omega
        obtain ⟨x, ex⟩ : ∃ x, x = bt s i := ⟨_, rfl⟩
        rw [← ex] at hx hx2 c1'
        have hxb : ((x : Int) == 47) = false := by simpa using c1'
        clear ex c1 HC
        go_wp2
        go_roundw
        case rel => exact ⟨i + 1, fr, ps, by omega, by omega, by go_num, rfl, hown, HC1, by omega, hS⟩
        case measure => simp [intOf]; omega
    · have e : i = s.size := by omega
      subst e
      have HC1 := hide (cutI_end HC.out)
      go_wp2_with (at_builtin; refine wpList_append_own _ rfl _ _ 80 rfl w.heap.size 9 i0 (.string ByteArray.empty) 1 16 Try.underlying80 hi hz0 hz1 hz2 rfl (by decide) _ _ _ rfl (hown.alloc _) ⟨wr.heap.size, 0, none⟩ 1 1 [.string (s.extract fr s.size)] rfl rfl (new_cell _ _ _) (one_one _ rfl) (by unfold maxLen; omega) (by omega) (by simp; omega) ?_)
      intro v' w1 hown' hgrow hnn
      have hs2 : w.Since w.heap.size w1 := (hS.alloc hS.size _).grown hgrow (by simp; omega) (fun k hk => (hown.lt k hk).1)
      rw [show ps.map Value.string ++ [.string (s.extract fr s.size)] = (ps ++ [s.extract fr s.size]).map Value.string by simp, show ps.length + 1 = (ps ++ [s.extract fr s.size]).length by simp] at hown'
      clear hgrow hnn hown
      go_wp2
      go_ret
      exact ⟨_, _, rfl, hown', HC1.out, by simp; omega, hs2⟩

end Go.Proofs.Ytdfcckifbbeoiaa
