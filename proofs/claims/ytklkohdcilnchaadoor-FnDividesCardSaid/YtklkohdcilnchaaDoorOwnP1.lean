import Derived.Test.YtklkohdcilnchaaDoorG1P5
import Derived.Test.YtklkohdcilnchaaDoorG1P3
import Derived.Test.YtklkohdcilnchaaDoorG1P7
import Derived.Test.YtklkohdcilnchaaDoorG1P4
import Derived.Test.YtklkohdcilnchaaDoorG1P8
namespace Go.Proofs.YtklkohdcilnchaaDoor
open Go.RowKit

/-- The bytes handed in. -/
def Code (w : World) (a : Option Addr) (b off n : Nat) (X : Nat → Nat) : Prop := ∀ j, j < n → X j < 256 ∧ a = some ⟨b, off, none⟩ ∧ w.cell? ⟨b, off + j, none⟩ = some (.int .u8 (X j))

/-- A reader in its box. -/
structure Rd (w : World) (c : Nat) (a : Option Addr) (b off n cap : Nat) (X : Nat → Nat) : Prop where
  c0 : w.cell? ⟨c, 0, none⟩ = some (.slice a n cap)
  c1 : ∃ p : Nat, p ≤ n ∧ w.cell? ⟨c, 1, none⟩ = some (.int .i64 p)
  f : ∀ k, w.frozen? ⟨c, k, none⟩ = false
  code : Code w a b off n X
  ne : 0 < n → b ≠ c

theorem Code.lt {w : World} {a : Option Addr} {b off n : Nat} {X : Nat → Nat} (h : Code w a b off n X) (h0 : 0 < n) : b < w.heap.size := World.block_lt_of_cell? _ _ (h 0 h0).2.2
theorem Code.oth {w w' : World} {a : Option Addr} {b off n c : Nat} {X : Nat → Nat} (h : Code w a b off n X) (s : Oth c w w') (hne : 0 < n → b ≠ c) : Code w' a b off n X :=
  fun j hj => ⟨(h j hj).1, (h j hj).2.1, (s.cell (a := ⟨b, off + j, none⟩) (h.lt (by omega)) (hne (by omega))).trans (h j hj).2.2⟩
theorem Code.keep {w w' : World} {a : Option Addr} {b off n : Nat} {X : Nat → Nat} (h : Code w a b off n X) (s : w.Since w.heap.size w') : Code w' a b off n X :=
  fun j hj => ⟨(h j hj).1, (h j hj).2.1, (s.cell (a := ⟨b, off + j, none⟩) (h.lt (by omega))).trans (h j hj).2.2⟩
theorem Rd.lt {w : World} {c : Nat} {a : Option Addr} {b off n cap : Nat} {X : Nat → Nat} (h : Rd w c a b off n cap X) : c < w.heap.size := World.block_lt_of_cell? _ _ h.c0
theorem Rd.keep {w w' : World} {c : Nat} {a : Option Addr} {b off n cap : Nat} {X : Nat → Nat} (h : Rd w c a b off n cap X) (s : w.Since w.heap.size w') : Rd w' c a b off n cap X := by
  obtain ⟨p, hp, h1⟩ := h.c1
  exact ⟨(s.cell (a := ⟨c, 0, none⟩) h.lt).trans h.c0, ⟨p, hp, (s.cell (a := ⟨c, 1, none⟩) h.lt).trans h1⟩, fun k => (s.frozen (a := ⟨c, k, none⟩) h.lt).trans (h.f k), h.code.keep s, h.ne⟩

theorem Rd.same {w w' : World} {c : Nat} {a : Option Addr} {b off n cap : Nat} {X : Nat → Nat} (h : Rd w c a b off n cap X) (s : Same w w') : Rd w' c a b off n cap X := h.keep (s.since _)
theorem Oth.ofSame {w w' : World} (c : Nat) (s : Same w w') : Oth c w w' := Oth.ofSince c (s.since _)

theorem Rd.step {w w1 : World} {c : Nat} {a : Option Addr} {b off n cap p : Nat} {X : Nat → Nat} (h : Rd w c a b off n cap X) (hp : p < n) (k1 : w.cell? ⟨c, 1, none⟩ = some (.int .i64 p)) (s : Same w w1) :
    Rd (w1.setCell ⟨c, 1, none⟩ (.int .i64 ((p : Int) + 1))) c a b off n cap X ∧ Oth c w (w1.setCell ⟨c, 1, none⟩ (.int .i64 ((p : Int) + 1))) := by
  have M := (Marked.refl w1 c).setCell 1 (.int .i64 ((p : Int) + 1))
  have O : Oth c w (w1.setCell ⟨c, 1, none⟩ (.int .i64 ((p : Int) + 1))) := (Oth.ofSame c s).trans (Oth.ofMarked M)
  refine ⟨⟨?_, ⟨p + 1, hp, ?_⟩, fun k => ?_, h.code.oth O h.ne, h.ne⟩, O⟩
  · rw [World.cell?_setCell_other _ _ _ _ (by simp), s.cell]; exact h.c0
  · exact World.cell?_setCell_same _ _ _ (by rw [s.cell]; exact k1)
  · rw [M.frozen, s.frozen]; exact h.f k

set_option maxHeartbeats 800000 in
set_option maxRecDepth 100000 in
theorem next_any (c : Nat) (a : Option Addr) (b off n cap : Nat) (X : Nat → Nat) (w : World) (hn : n ≤ 1048576) (R : Rd w c a b off n cap X) :
    Calls Tryd.prog 44 #[.pointer (some ⟨c, 0, none⟩)] w fun e w' => ∃ v : Nat, e = .returned (.int .i64 v) ∧ v < 256 ∧ Rd w' c a b off n cap X ∧ Oth c w w' := by
  have k0 := R.c0
  obtain ⟨p, hp, k1⟩ := R.c1
  have kf := R.f 1
  by_cases hlt : p < n
  · obtain ⟨hx, rfl, kx⟩ := R.code p hlt
    have hlt' : (p : Int) < (n : Int) := by omega
    obtain ⟨x, ex⟩ : ∃ x, x = X p := ⟨_, rfl⟩
    rw [← ex] at kx hx
    clear ex
    go_enter Tryd.func44, Tryd.ntmps44
    go_wp2
    go_quiet (fail)
    go_wp2
    go_quiet (fail)
    go_wp2
    go_ret
    go_light
    exact ⟨x, rfl, hx, R.step hlt k1 ((Same.refl _).drewN _)⟩
  · go_enter Tryd.func44, Tryd.ntmps44
    go_wp2
    go_quiet (fail)
    go_wp2
    go_ret
    exact ⟨0, rfl, by omega, R.same (w' := w.drewN nq) ((Same.refl _).drewN _), Oth.ofSame c ((Same.refl _).drewN _)⟩

set_option maxHeartbeats 800000 in
set_option maxRecDepth 100000 in
theorem left_any (c : Nat) (a : Option Addr) (b off n cap : Nat) (X : Nat → Nat) (w : World) (hn : n ≤ 1048576) (R : Rd w c a b off n cap X) :
    Calls Tryd.prog 78 #[.pointer (some ⟨c, 0, none⟩)] w fun e w' => ∃ v : Nat, e = .returned (.int .i64 v) ∧ v ≤ 1048576 ∧ Same w w' := by
  have k0 := R.c0
  obtain ⟨p, hp, k1⟩ := R.c1
  go_enter Tryd.func78, Tryd.ntmps78
  go_wp2
  go_quiet (fail)
  go_wp2
  go_ret
  go_light
  exact ⟨n - p, ret_int (by omega), by omega, (Same.refl _).drewN _⟩

set_option maxHeartbeats 1600000 in
set_option maxRecDepth 100000 in
theorem l1DrawLimb_any (c : Nat) (a : Option Addr) (b off n cap : Nat) (X : Nat → Nat) (w : World) (hn : n ≤ 1048576) (R : Rd w c a b off n cap X) :
    Calls Tryd.prog 79 #[.pointer (some ⟨c, 0, none⟩)] w fun e w' => ∃ v : Nat, e = .returned (.int .u32 v) ∧ v < 4294967296 ∧ Rd w' c a b off n cap X ∧ Oth c w w' := by
  go_enter Tryd.func79, Tryd.ntmps79
  go_wp2_with fail
  refine (next_any c a b off n cap X w hn R).mono ?_
  rintro e w1 ⟨v, rfl, hv, R1, O1⟩
  by_cases c1 : (v : Int) % 8 = 1
  · have h1 : ((v : Int) % 8 == 1) = true := by simp [c1]
    go_wp2_with fail
    go_ret
    exact ⟨4294967295, rfl, by omega, R1, O1⟩
  have h1 : ((v : Int) % 8 == 1) = false := by simp [c1]
  by_cases c2 : (v : Int) % 8 = 2
  · have h2 : ((v : Int) % 8 == 2) = true := by simp [c2]
    go_wp2_with fail
    go_ret
    exact ⟨2147483648, rfl, by omega, R1, O1⟩
  have h2 : ((v : Int) % 8 == 2) = false := by simp [c2]
  by_cases c3 : (v : Int) % 8 = 3
  · have h3 : ((v : Int) % 8 == 3) = true := by simp [c3]
    go_wp2_with fail
    go_ret
    exact ⟨0, rfl, by omega, R1, O1⟩
  have h3 : ((v : Int) % 8 == 3) = false := by simp [c3]
  by_cases c4 : (v : Int) % 8 = 4
  · have h4 : ((v : Int) % 8 == 4) = true := by simp [c4]
    go_wp2_with fail
    go_ret
    exact ⟨v / 8, rfl, by omega, R1, O1⟩
  have h4 : ((v : Int) % 8 == 4) = false := by simp [c4]
  clear c1 c2 c3 c4
  go_wp2_with fail
  · go_loopw [4, 5] (fun q t wr => ∃ (x k : Nat), q = .int .u32 x ∧ x < 4294967296 ∧ t = .int .i64 k ∧ k ≤ 3 ∧ Rd wr c a b off n cap X ∧ Oth c w wr) (fun _ t _ => 3 - (intOf t).toNat)
    case atStart => exact ⟨v, 0, rfl, by omega, rfl, by omega, R1, O1⟩
    case round =>
      obtain ⟨x, k, rfl, hx, rfl, hk, R2, O2⟩ := hrel
      by_cases hlt : k < 3
      · go_wp2_with fail
        refine (next_any c a b off n cap X wr hn R2).mono ?_
        rintro e w2 ⟨y, rfl, hy, R3, O3⟩
        go_wp2
        go_roundw
        case rel =>
          go_light
          exact ⟨x * 256 % 4294967296 + y, k + 1, congrArg (Value.int .u32) (by omega), by omega, by go_num, by omega, R3, O2.trans O3⟩
        case measure => simp [intOf]; omega
      · go_wp2
        go_ret
        exact ⟨x, rfl, hx, R2, O2⟩

end Go.Proofs.YtklkohdcilnchaaDoor

namespace Go.Proofs.YtklkohdcilnchaaDoor
open Go.RowKit

theorem Oth.grown {c : Nat} {w w1 w2 : World} {row : Option Nat} (h : Oth c w w1) (g : w1.grownBy w2 row) (hr : ∀ k, row = some k → w.heap.size ≤ k) : Oth c w w2 :=
  ⟨g.os.trans h.os, g.tape.trans h.tape, g.output.trans h.output, Nat.le_trans h.size g.size, fun k h1 h2 => (g.block k (Nat.lt_of_lt_of_le h1 h.size) (fun e => by have := hr k e.symm; omega)).trans (h.block k h1 h2)⟩
theorem own_oth {w w' : World} {base c : Nat} {e : TypeId} {size : Nat} {v : Value} {n : Nat} {xs : List Value} (h : w.ownsRow base e size v n xs) (s : Oth c w w') (hc : c < base) : w'.ownsRow base e size v n xs :=
  h.kept (row := some c) ⟨s.os, s.tape, s.output, s.size, fun k h1 h2 => s.block k h1 (fun e => h2 (by rw [e]))⟩ (Or.inr (fun e => by have := (h.lt c e).1; omega))
theorem Rd.grown {w1 w2 : World} {c : Nat} {a : Option Addr} {b off n cap : Nat} {X : Nat → Nat} {row : Option Nat} (h : Rd w1 c a b off n cap X) (g : w1.grownBy w2 row) (hc : some c ≠ row) (hb : 0 < n → some b ≠ row) : Rd w2 c a b off n cap X := by
  obtain ⟨p, hp, h1⟩ := h.c1
  have e := g.block c h.lt hc
  exact ⟨(World.cell?_of_block (w := w1) (a := ⟨c, 0, none⟩) e).trans h.c0, ⟨p, hp, (World.cell?_of_block (w := w1) (a := ⟨c, 1, none⟩) e).trans h1⟩, fun k => (World.frozen?_of_block (w := w1) (a := ⟨c, k, none⟩) e).trans (h.f k),
    fun j hj => ⟨(h.code j hj).1, (h.code j hj).2.1, (World.cell?_of_block (w := w1) (a := ⟨b, off + j, none⟩) (g.block b (h.code.lt (by omega)) (hb (by omega)))).trans (h.code j hj).2.2⟩, h.ne⟩

set_option maxHeartbeats 3200000 in
set_option maxRecDepth 100000 in
theorem l1DrawNat_any (c : Nat) (a : Option Addr) (b off n cap : Nat) (X : Nat → Nat) (w : World) (hn : n ≤ 1048576) (R : Rd w c a b off n cap X) (hbl : 0 < n → b < w.heap.size) :
    Calls Tryd.prog 45 #[.pointer (some ⟨c, 0, none⟩)] w fun e w' => ∃ g t cap' D, e = .returned (.slice (some ⟨g, 0, none⟩) t cap') ∧ t ≤ cap' ∧ t ≤ 11 ∧ Limbs w' (some ⟨g, 0, none⟩) g 0 t D ∧ (∀ j, j < t → D j < 4294967296) ∧ w.heap.size ≤ g ∧ g < w'.heap.size ∧ Rd w' c a b off n cap X ∧ Oth c w w' := by
  obtain ⟨i0, hi, hz0, hz1, hz2⟩ := info_parts Tryd.info43
  have hcl := R.lt
  go_enter Tryd.func45, Tryd.ntmps45
  go_wp2_with fail
  refine (next_any c a b off n cap X w hn R).mono ?_
  rintro e w1 ⟨v, rfl, hv, R1, O1⟩
  by_cases c1 : (v : Int) % 5 = 4
  · have h1 : ((v : Int) % 5 == 4) = true := by simp [c1]
    clear c1
    go_wp2_with fail
    refine (left_any c a b off n cap X w1 hn R1).mono ?_
    rintro e w2 ⟨q, rfl, hq, s2⟩
    have O2 := O1.trans (Oth.ofSame c s2)
    have R2 := R1.same s2
    clear O1 R1 s2
    obtain ⟨M, hM⟩ : ∃ M : Nat, 4 + (q : Int) / 12 = (M : Int) := ⟨4 + q / 12, by omega⟩
    by_cases c2 : (10 : Int) < (M : Int)
    · obtain ⟨N, hN⟩ : ∃ N : Nat, N = 10 := ⟨_, rfl⟩
      have hN' : (N : Int) = 10 := by omega
      go_wp2_with fail
      rw [← hN']
      have hNl : N ≤ 10 := by omega
      clear hN hN'
      go_loopw [5, 6] (fun o t wr => ∃ (k : Nat) (D : Nat → Nat), k ≤ N ∧ t = .int .i64 k ∧ Hid (o ≠ .slice none 0 0) ∧ wr.ownsRow w.heap.size 43 1 o k (ll D k) ∧ Hid (∀ j, j < k → D j < 4294967296) ∧ Rd wr c a b off n cap X ∧ Oth c w wr) (fun _ t _ => N - (intOf t).toNat)
      case atStart => exact ⟨0, fun _ => 0, Nat.zero_le _, rfl, hide (by simp), World.ownsRow_made w2 #[] 0 O2.size (by decide) rfl, hide (fun j hj => absurd hj (by omega)), R2.keep ((World.Since.refl _ _).alloc (Nat.le_refl _) _), O2.trans (Oth.ofSince c ((World.Since.refl _ _).alloc (Nat.le_refl _) _))⟩
      case round =>
        obtain ⟨k, D, hkN, rfl, HN0, hown, HD, R2, O2⟩ := hrel
        have hs2 := O2.size
        by_cases hlt : k < N
        · go_wp2_with fail
          refine (l1DrawLimb_any c a b off n cap X wr hn R2).mono ?_
          rintro e w2 ⟨x, rfl, hx, R3, O3⟩
          have own3 := own_oth hown O3 hcl
          have hs3 := O3.size
          have O03 := O2.trans O3
          clear hown R2 O3 O2
          go_wp2_with (at_builtin; refine wpList_append_own _ rfl _ _ 23 rfl w.heap.size 43 i0 (.int .u32 0) 1 4 Tryd.underlying23 hi hz0 hz1 hz2 rfl (by decide) _ _ _ rfl (own3.alloc _) ⟨w2.heap.size, 0, none⟩ 1 1 [.int .u32 x] rfl rfl (new_cell _ _ _) (one_one _ rfl) (by unfold maxLen; omega) (by omega) (by simp; omega) ?_)
          intro v' w3 hown' hgrow hnn
          rw [show ll D k ++ [.int .u32 (x : Int)] = ll (upd D k x) (k + 1) from by rw [ll_succ, upd_same, ll_congr (fun j hj => upd_other _ _ _ _ (show j ≠ k by omega))]] at hown'
          have sW := (World.Since.refl w2.heap.size w2).alloc (Nat.le_refl _) (.cells #[.int .u32 (x : Int)] 43)
          have hlow := fun q hq => (own3.lt q hq).1
          have O4 : Oth c w w3 := (O03.trans (Oth.ofSince c sW)).grown hgrow hlow
          have R4 : Rd w3 c a b off n cap X := (R3.keep sW).grown hgrow (fun e => by have := hlow c e.symm; omega) (fun h0 e => by have := hlow b e.symm; have := hbl h0; omega)
          have HN1 := hide hnn
          have HD1 : Hid (∀ j, j < k + 1 → upd D k x j < 4294967296) := hide (fun j hj => by
            by_cases e2 : j = k
            · subst e2; rw [upd_same]; exact hx
            · rw [upd_other _ _ _ _ e2]; exact HD.out j (by omega))
          clear hgrow own3 hnn HN0 HD R3 O03 sW hlow
          go_wp2
          go_roundw
          case rel => exact ⟨k + 1, _, by omega, by go_num, HN1, hown', HD1, R4, O4⟩
          case measure => simp [intOf]; omega
        · have e : k = N := by omega
          subst e
          by_cases h224 : (224 : Int) ≤ (v : Int)
          · go_wp2_with (at_builtin; refine wpList_append_own _ rfl _ _ 23 rfl w.heap.size 43 i0 (.int .u32 0) 1 4 Tryd.underlying23 hi hz0 hz1 hz2 rfl (by decide) _ _ _ rfl (hown.alloc _) ⟨wr.heap.size, 0, none⟩ 1 1 [.int .u32 0] rfl rfl (new_cell _ _ _) (one_one _ rfl) (by unfold maxLen; omega) (by omega) (by simp; omega) ?_)
            intro v' w3 hown' hgrow hnn
            rw [show ll D k ++ [.int .u32 0] = ll (upd D k 0) (k + 1) from by rw [ll_succ, upd_same, ll_congr (fun j hj => upd_other _ _ _ _ (show j ≠ k by omega))]; rfl] at hown'
            have sW := (World.Since.refl wr.heap.size wr).alloc (Nat.le_refl _) (.cells #[.int .u32 0] 43)
            have hlow := fun q hq => (hown.lt q hq).1
            have O4 : Oth c w w3 := (O2.trans (Oth.ofSince c sW)).grown hgrow hlow
            have R4 : Rd w3 c a b off n cap X := (R2.keep sW).grown hgrow (fun e => by have := hlow c e.symm; omega) (fun h0 e => by have := hlow b e.symm; have := hbl h0; omega)
            obtain ⟨g, cap3, rfl, hmc, hbg, hgl, L3, -⟩ := own_limbs_some hown' hnn
            clear hgrow hown sW hlow R2 O2
            go_wp2
            go_ret
            refine ⟨g, k + 1, cap3, upd D k 0, rfl, hmc, by omega, L3, fun j hj => ?_, hbg, hgl, R4, O4⟩
            by_cases e2 : j = k
            · subst e2; rw [upd_same]; omega
            · rw [upd_other _ _ _ _ e2]; exact HD.out j (by omega)
          · obtain ⟨g, cap3, rfl, hmc, hbg, hgl, L3, -⟩ := own_limbs_some hown HN0.out
            go_wp2
            go_ret

            first
            | exact ⟨g, k, cap3, D, rfl, hmc, by omega, L3, HD.out, hbg, hgl, R2, O2⟩
            | exact ⟨g, k, cap3, rfl, hmc, by omega, D, L3, HD.out, hbg, hgl, R2, O2⟩
    · obtain ⟨N, hN⟩ : ∃ N : Nat, N = M := ⟨_, rfl⟩
      subst hN
      have hNl : N ≤ 10 := by omega
      go_wp2_with fail
      go_loopw [5, 6] (fun o t wr => ∃ (k : Nat) (D : Nat → Nat), k ≤ N ∧ t = .int .i64 k ∧ Hid (o ≠ .slice none 0 0) ∧ wr.ownsRow w.heap.size 43 1 o k (ll D k) ∧ Hid (∀ j, j < k → D j < 4294967296) ∧ Rd wr c a b off n cap X ∧ Oth c w wr) (fun _ t _ => N - (intOf t).toNat)
      case atStart => exact ⟨0, fun _ => 0, Nat.zero_le _, rfl, hide (by simp), World.ownsRow_made w2 #[] 0 O2.size (by decide) rfl, hide (fun j hj => absurd hj (by omega)), R2.keep ((World.Since.refl _ _).alloc (Nat.le_refl _) _), O2.trans (Oth.ofSince c ((World.Since.refl _ _).alloc (Nat.le_refl _) _))⟩
      case round =>
        obtain ⟨k, D, hkN, rfl, HN0, hown, HD, R2, O2⟩ := hrel
        have hs2 := O2.size
        by_cases hlt : k < N
        · go_wp2_with fail
          refine (l1DrawLimb_any c a b off n cap X wr hn R2).mono ?_
          rintro e w2 ⟨x, rfl, hx, R3, O3⟩
          have own3 := own_oth hown O3 hcl
          have hs3 := O3.size
          have O03 := O2.trans O3
          clear hown R2 O3 O2
          go_wp2_with (at_builtin; refine wpList_append_own _ rfl _ _ 23 rfl w.heap.size 43 i0 (.int .u32 0) 1 4 Tryd.underlying23 hi hz0 hz1 hz2 rfl (by decide) _ _ _ rfl (own3.alloc _) ⟨w2.heap.size, 0, none⟩ 1 1 [.int .u32 x] rfl rfl (new_cell _ _ _) (one_one _ rfl) (by unfold maxLen; omega) (by omega) (by simp; omega) ?_)
          intro v' w3 hown' hgrow hnn
          rw [show ll D k ++ [.int .u32 (x : Int)] = ll (upd D k x) (k + 1) from by rw [ll_succ, upd_same, ll_congr (fun j hj => upd_other _ _ _ _ (show j ≠ k by omega))]] at hown'
          have sW := (World.Since.refl w2.heap.size w2).alloc (Nat.le_refl _) (.cells #[.int .u32 (x : Int)] 43)
          have hlow := fun q hq => (own3.lt q hq).1
          have O4 : Oth c w w3 := (O03.trans (Oth.ofSince c sW)).grown hgrow hlow
          have R4 : Rd w3 c a b off n cap X := (R3.keep sW).grown hgrow (fun e => by have := hlow c e.symm; omega) (fun h0 e => by have := hlow b e.symm; have := hbl h0; omega)
          have HN1 := hide hnn
          have HD1 : Hid (∀ j, j < k + 1 → upd D k x j < 4294967296) := hide (fun j hj => by
            by_cases e2 : j = k
            · subst e2; rw [upd_same]; exact hx
            · rw [upd_other _ _ _ _ e2]; exact HD.out j (by omega))
          clear hgrow own3 hnn HN0 HD R3 O03 sW hlow
          go_wp2
          go_roundw
          case rel => exact ⟨k + 1, _, by omega, by go_num, HN1, hown', HD1, R4, O4⟩
          case measure => simp [intOf]; omega
        · have e : k = N := by omega
          subst e
          by_cases h224 : (224 : Int) ≤ (v : Int)
          · go_wp2_with (at_builtin; refine wpList_append_own _ rfl _ _ 23 rfl w.heap.size 43 i0 (.int .u32 0) 1 4 Tryd.underlying23 hi hz0 hz1 hz2 rfl (by decide) _ _ _ rfl (hown.alloc _) ⟨wr.heap.size, 0, none⟩ 1 1 [.int .u32 0] rfl rfl (new_cell _ _ _) (one_one _ rfl) (by unfold maxLen; omega) (by omega) (by simp; omega) ?_)
            intro v' w3 hown' hgrow hnn
            rw [show ll D k ++ [.int .u32 0] = ll (upd D k 0) (k + 1) from by rw [ll_succ, upd_same, ll_congr (fun j hj => upd_other _ _ _ _ (show j ≠ k by omega))]; rfl] at hown'
            have sW := (World.Since.refl wr.heap.size wr).alloc (Nat.le_refl _) (.cells #[.int .u32 0] 43)
            have hlow := fun q hq => (hown.lt q hq).1
            have O4 : Oth c w w3 := (O2.trans (Oth.ofSince c sW)).grown hgrow hlow
            have R4 : Rd w3 c a b off n cap X := (R2.keep sW).grown hgrow (fun e => by have := hlow c e.symm; omega) (fun h0 e => by have := hlow b e.symm; have := hbl h0; omega)
            obtain ⟨g, cap3, rfl, hmc, hbg, hgl, L3, -⟩ := own_limbs_some hown' hnn
            clear hgrow hown sW hlow R2 O2
            go_wp2
            go_ret
            refine ⟨g, k + 1, cap3, upd D k 0, rfl, hmc, by omega, L3, fun j hj => ?_, hbg, hgl, R4, O4⟩
            by_cases e2 : j = k
            · subst e2; rw [upd_same]; omega
            · rw [upd_other _ _ _ _ e2]; exact HD.out j (by omega)
          · obtain ⟨g, cap3, rfl, hmc, hbg, hgl, L3, -⟩ := own_limbs_some hown HN0.out
            go_wp2
            go_ret

            first
            | exact ⟨g, k, cap3, D, rfl, hmc, by omega, L3, HD.out, hbg, hgl, R2, O2⟩
            | exact ⟨g, k, cap3, rfl, hmc, by omega, D, L3, HD.out, hbg, hgl, R2, O2⟩
  · have h1 : ((v : Int) % 5 == 4) = false := by simp [c1]
    clear c1
    obtain ⟨N, hN⟩ : ∃ N : Nat, (v : Int) % 6 = (N : Int) := ⟨v % 6, by omega⟩
    have hNl : N ≤ 10 := by omega
    go_wp2_with fail
    rw [hN]
    clear hN
    go_loopw [5, 6] (fun o t wr => ∃ (k : Nat) (D : Nat → Nat), k ≤ N ∧ t = .int .i64 k ∧ Hid (o ≠ .slice none 0 0) ∧ wr.ownsRow w.heap.size 43 1 o k (ll D k) ∧ Hid (∀ j, j < k → D j < 4294967296) ∧ Rd wr c a b off n cap X ∧ Oth c w wr) (fun _ t _ => N - (intOf t).toNat)
    case atStart => exact ⟨0, fun _ => 0, Nat.zero_le _, rfl, hide (by simp), World.ownsRow_made w1 #[] 0 O1.size (by decide) rfl, hide (fun j hj => absurd hj (by omega)), R1.keep ((World.Since.refl _ _).alloc (Nat.le_refl _) _), O1.trans (Oth.ofSince c ((World.Since.refl _ _).alloc (Nat.le_refl _) _))⟩
    case round =>
      obtain ⟨k, D, hkN, rfl, HN0, hown, HD, R2, O2⟩ := hrel
      have hs2 := O2.size
      by_cases hlt : k < N
      · go_wp2_with fail
        refine (l1DrawLimb_any c a b off n cap X wr hn R2).mono ?_
        rintro e w2 ⟨x, rfl, hx, R3, O3⟩
        have own3 := own_oth hown O3 hcl
        have hs3 := O3.size
        have O03 := O2.trans O3
        clear hown R2 O3 O2
        go_wp2_with (at_builtin; refine wpList_append_own _ rfl _ _ 23 rfl w.heap.size 43 i0 (.int .u32 0) 1 4 Tryd.underlying23 hi hz0 hz1 hz2 rfl (by decide) _ _ _ rfl (own3.alloc _) ⟨w2.heap.size, 0, none⟩ 1 1 [.int .u32 x] rfl rfl (new_cell _ _ _) (one_one _ rfl) (by unfold maxLen; omega) (by omega) (by simp; omega) ?_)
        intro v' w3 hown' hgrow hnn
        rw [show ll D k ++ [.int .u32 (x : Int)] = ll (upd D k x) (k + 1) from by rw [ll_succ, upd_same, ll_congr (fun j hj => upd_other _ _ _ _ (show j ≠ k by omega))]] at hown'
        have sW := (World.Since.refl w2.heap.size w2).alloc (Nat.le_refl _) (.cells #[.int .u32 (x : Int)] 43)
        have hlow := fun q hq => (own3.lt q hq).1
        have O4 : Oth c w w3 := (O03.trans (Oth.ofSince c sW)).grown hgrow hlow
        have R4 : Rd w3 c a b off n cap X := (R3.keep sW).grown hgrow (fun e => by have := hlow c e.symm; omega) (fun h0 e => by have := hlow b e.symm; have := hbl h0; omega)
        have HN1 := hide hnn
        have HD1 : Hid (∀ j, j < k + 1 → upd D k x j < 4294967296) := hide (fun j hj => by
          by_cases e2 : j = k
          · subst e2; rw [upd_same]; exact hx
          · rw [upd_other _ _ _ _ e2]; exact HD.out j (by omega))
        clear hgrow own3 hnn HN0 HD R3 O03 sW hlow
        go_wp2
        go_roundw
        case rel => exact ⟨k + 1, _, by omega, by go_num, HN1, hown', HD1, R4, O4⟩
        case measure => simp [intOf]; omega
      · have e : k = N := by omega
        subst e
        by_cases h224 : (224 : Int) ≤ (v : Int)
        · go_wp2_with (at_builtin; refine wpList_append_own _ rfl _ _ 23 rfl w.heap.size 43 i0 (.int .u32 0) 1 4 Tryd.underlying23 hi hz0 hz1 hz2 rfl (by decide) _ _ _ rfl (hown.alloc _) ⟨wr.heap.size, 0, none⟩ 1 1 [.int .u32 0] rfl rfl (new_cell _ _ _) (one_one _ rfl) (by unfold maxLen; omega) (by omega) (by simp; omega) ?_)
          intro v' w3 hown' hgrow hnn
          rw [show ll D k ++ [.int .u32 0] = ll (upd D k 0) (k + 1) from by rw [ll_succ, upd_same, ll_congr (fun j hj => upd_other _ _ _ _ (show j ≠ k by omega))]; rfl] at hown'
          have sW := (World.Since.refl wr.heap.size wr).alloc (Nat.le_refl _) (.cells #[.int .u32 0] 43)
          have hlow := fun q hq => (hown.lt q hq).1
          have O4 : Oth c w w3 := (O2.trans (Oth.ofSince c sW)).grown hgrow hlow
          have R4 : Rd w3 c a b off n cap X := (R2.keep sW).grown hgrow (fun e => by have := hlow c e.symm; omega) (fun h0 e => by have := hlow b e.symm; have := hbl h0; omega)
          obtain ⟨g, cap3, rfl, hmc, hbg, hgl, L3, -⟩ := own_limbs_some hown' hnn
          clear hgrow hown sW hlow R2 O2
          go_wp2
          go_ret
          refine ⟨g, k + 1, cap3, upd D k 0, rfl, hmc, by omega, L3, fun j hj => ?_, hbg, hgl, R4, O4⟩
          by_cases e2 : j = k
          · subst e2; rw [upd_same]; omega
          · rw [upd_other _ _ _ _ e2]; exact HD.out j (by omega)
        · obtain ⟨g, cap3, rfl, hmc, hbg, hgl, L3, -⟩ := own_limbs_some hown HN0.out
          go_wp2
          go_ret

          first
          | exact ⟨g, k, cap3, D, rfl, hmc, by omega, L3, HD.out, hbg, hgl, R2, O2⟩
          | exact ⟨g, k, cap3, rfl, hmc, by omega, D, L3, HD.out, hbg, hgl, R2, O2⟩

end Go.Proofs.YtklkohdcilnchaaDoor

namespace Go.Proofs.YtklkohdcilnchaaDoor
open Go.RowKit

set_option maxHeartbeats 3200000 in
set_option maxRecDepth 100000 in
theorem l1Limbs_any2 (a : Option Addr) (b off n cap : Nat) (B : Nat → Bool) (w : World) (hn : n ≤ 268435456) (hnc : n ≤ cap) (hB : Bits w a b off n B) :
    Calls Tryd.prog 47 #[.slice a n cap] w fun e w' => ∃ a' g m cap' Y, e = .returned (.slice a' m cap') ∧ m ≤ cap' ∧ (a' = none → cap' = 0) ∧ 32 * m < n + 32 ∧ Limbs w' a' g 0 m Y ∧ (0 < m → w.heap.size ≤ g) ∧ (0 < m → ∀ o, w'.frozen? ⟨g, o, none⟩ = false) ∧
      (∀ j, Y j < 4294967296) ∧ (0 < m → Y (m - 1) ≠ 0) ∧ lv Y m = bv B n ∧ w.Since w.heap.size w' := by
  obtain ⟨i0, hi, hz0, hz1, hz2⟩ := info_parts Tryd.info43
  obtain ⟨m, hm⟩ : ∃ m, m = tlen B n := ⟨_, rfl⟩
  have hmn : m ≤ n := by rw [hm]; exact tlen_le _ _
  have HM : Hid (m = tlen B n) := hm
  clear hm
  obtain ⟨E, hE⟩ : ∃ E, E = ext B m := ⟨_, rfl⟩
  have HE : Hid (E = ext B m) := hE
  clear hE
  have hB' := hB.take hmn
  go_enter Tryd.func47, Tryd.ntmps47
  go_wp2_with fail
  refine (l1Trim_any a b off n cap B _ (by omega) hnc hB).mono ?_
  rintro e w1 ⟨rfl, rfl⟩
  rw [← HM.out]
  clear hB
  go_wp2
  go_loopw [4, 5] (fun v t wr => ∃ q : Nat, 32 * q < m + 32 ∧ t = .int .i64 ((32 * q : Nat) : Int) ∧ wr.ownsRow w1.heap.size 43 1 v q (ll (limbsOf E) q) ∧ w1.Since w1.heap.size wr) (fun _ t _ => m + 32 - (intOf t).toNat)
  case atStart => exact ⟨0, by omega, rfl, World.ownsRow_made w1 #[] 0 (Nat.le_refl _) (by decide) rfl, (World.Since.refl _ _).alloc (Nat.le_refl _) _⟩
  case round =>
    obtain ⟨q, hq, rfl, hown, hs⟩ := hrel
    by_cases hlt : 32 * q < m
    · go_wp2
      go_loop [6, 7] (fun v t => ∃ (k p : Nat) (z : Int), k ≤ 32 ∧ t = .int .i64 z ∧ v = .int .u32 p ∧ Hid (z = k - 1) ∧ Hid (p = part E (32 * q) k)) (fun _ t => (intOf t + 1).toNat)
      case atStart => exact ⟨32, 0, 31, by omega, rfl, rfl, (by decide : (31 : Int) = ((32 : Nat) : Int) - 1), (part_top E (32 * q)).symm⟩
      case round =>
        obtain ⟨k, p, z, hk, rfl, rfl, HZ, HP⟩ := hrel
        by_cases hz : 0 ≤ z
        · obtain ⟨k', rfl⟩ := Int.eq_ofNat_of_zero_le hz
          have hkk : k = k' + 1 := by have := HZ.out; omega
          subst hkk
          clear HZ
          have hp := part_lt E (32 * q) (k' + 1) (by omega)
          rw [← HP.out] at hp
          have HS : Hid (part E (32 * q) k' = 2 * p + (E (32 * q + k')).toNat) := by have := part_step E (32 * q) k' (by omega); rw [← HP.out] at this; exact this
          by_cases hin : 32 * q + k' < m
          · obtain ⟨rfl, hc⟩ := hB' (32 * q + k') hin
            have g0 : wr.cell? ⟨b, off + (32 * q + k'), none⟩ = some (.bool (B (32 * q + k'))) := by rw [hs.cell (a := ⟨b, off + (32 * q + k'), none⟩) (hB'.lt (by omega))]; exact hc
            have HEk : Hid (E (32 * q + k') = B (32 * q + k')) := by rw [HE.out]; simp [Hid, ext, hin]
            clear hc
            cases hb : B (32 * q + k')
            · rw [hb] at g0
              have HF : Hid (E (32 * q + k') = false) := HEk.out.trans hb
              clear hb HEk
              go_wp2
              go_light
              exact ⟨⟨k', by omega, 2 * p, by omega, show (k' : Int) = k' from rfl, show 2 * p = _ by rw [HS.out, HF.out]; rfl⟩, by simp [intOf]; omega⟩
            · rw [hb] at g0
              have HF : Hid (E (32 * q + k') = true) := HEk.out.trans hb
              clear hb HEk
              go_wp2
              go_light
              exact ⟨⟨k', by omega, 2 * p + 1, by omega, show (k' : Int) = k' from rfl, show 2 * p + 1 = _ by rw [HS.out, HF.out]; rfl⟩, by simp [intOf]; omega⟩
          · have HF : Hid (E (32 * q + k') = false) := by rw [HE.out]; simp [Hid, ext, hin]
            go_wp2
            go_light
            exact ⟨⟨k', by omega, 2 * p, by omega, show (k' : Int) = k' from rfl, show 2 * p = _ by rw [HS.out, HF.out]; rfl⟩, by simp [intOf]; omega⟩
        · have hk0 : k = 0 := by have := HZ.out; omega
          subst hk0
          go_wp2_with (at_builtin; refine wpList_append_own _ rfl _ _ 23 rfl w1.heap.size 43 i0 (.int .u32 0) 1 4 Tryd.underlying23 hi hz0 hz1 hz2 rfl (by decide) _ _ _ rfl (hown.alloc _) ⟨wr.heap.size, 0, none⟩ 1 1 [.int .u32 p] rfl rfl ?c1 ?c2 ?c3 ?c4 ?c5 ?_)
          case c2 => first | rfl | (intro u hu; simp at hu; subst hu; rfl)
          case c3 => unfold maxLen; omega
          case c4 => omega
          case c5 => have := hs.size; simp; omega
          intro v' w2 hown' hgrow _
          have hs1 : w1.Since w1.heap.size w2 := (hs.alloc hs.size _).grown hgrow (by have := hs.size; simp; omega) (fun k hk => (hown.lt k hk).1)
          rw [HP.out, part_all, ← ll_succ] at hown'
          clear hgrow hown hs
          go_wp2
          go_roundw
          case rel => exact ⟨q + 1, by omega, by go_num, hown', hs1⟩
          case measure => simp [intOf]; omega
    · obtain ⟨a', g, cap', rfl, hmc, hnn, hg, -, -, hL, hf⟩ := own_nat hown w1.heap.size (Nat.le_refl _)
      go_wp2
      go_ret
      refine ⟨a', g, q, cap', limbsOf E, rfl, hmc, hnn, by omega, hL, fun _ => hg, hf, fun j => limbsOf_lt E j, ?_, ?_, hs⟩
      · intro h0
        have hm0 : 0 < m := by omega
        refine limbs_top E m (q - 1) (by omega) (by omega) ?_
        rw [HE.out]
        have := tlen_top B n (by rw [← HM.out]; exact hm0)
        rw [← HM.out] at this
        simp [ext, this]; omega
      · rw [lv_limbs, HE.out, bv_ext B m (32 * q) (by omega), HM.out, bv_tlen]

end Go.Proofs.YtklkohdcilnchaaDoor

namespace Go.Proofs.YtklkohdcilnchaaDoor
open Go.RowKit

set_option maxHeartbeats 800000 in
set_option maxRecDepth 100000 in
theorem l1Open_any (a : Option Addr) (b off n cap : Nat) (X : Nat → Nat) (w : World) (hC : Code w a b off n X) :
    Calls Tryd.prog 23 #[.slice a n cap] w fun e w' => e = .returned (.pointer (some ⟨w.heap.size, 0, none⟩)) ∧ Rd w' w.heap.size a b off n cap X ∧ w.Since w.heap.size w' := by
  have sA : w.Since w.heap.size (w.alloc (.cells #[.slice a n cap, .int .i64 0] 70)) := (World.Since.refl _ _).alloc (Nat.le_refl _) _
  go_enter Tryd.func23, Tryd.ntmps23
  go_wp2
  go_ret
  exact ⟨rfl, ⟨by simp, ⟨0, Nat.zero_le _, by simp⟩, fun k => by simp, hC.keep sA, fun h => Nat.ne_of_lt (hC.lt h)⟩, sA⟩

/-- A list of limbs in an answer, whatever it holds. -/
def Some32 (w : World) (v : Value) (M : Nat) : Prop := ∃ a g n cap X, v = .slice a n cap ∧ n ≤ cap ∧ n ≤ M ∧ (a = none → cap = 0) ∧ Limbs w a g 0 n X ∧ ∀ j, j < n → X j < 4294967296

set_option maxHeartbeats 3200000 in
set_option maxRecDepth 100000 in
theorem drawNatDivMod_any (a : Option Addr) (b off n cap : Nat) (X : Nat → Nat) (w : World) (hn : n ≤ 1048576) (hC : Code w a b off n X) :
    Calls Tryd.prog 16 #[.slice a n cap] w fun e w' => ∃ v1 v2, e = .returned (.tuple #[v1, v2]) ∧ Some32 w' v1 64 ∧ Some32 w' v2 64 ∧ w.Since w.heap.size w' := by
  have hbl := hC.lt
  go_enter Tryd.func16, Tryd.ntmps16
  go_wp2_with fail
  refine (l1Open_any a b off n cap X w hC).mono ?_
  rintro e w1 ⟨rfl, R1, s1⟩
  have z1 := s1.size
  go_wp2_with fail
  refine (next_any w.heap.size a b off n cap X w1 hn R1).mono ?_
  rintro e w2 ⟨k, rfl, hk, R2, O2⟩
  have O02 := (Oth.ofSince w.heap.size s1).trans O2
  have z2 := O02.size
  clear R1 s1 O2
  go_wp2_with fail
  refine (l1DrawNat_any w.heap.size a b off n cap X w2 hn R2 (fun h => by have := hbl h; omega)).mono ?_
  rintro e w3 ⟨gb, nb, cb, B, rfl, kb1, kb2, LB, lB, kb3, kb4, R3, O3⟩
  have O03 := O02.trans O3
  have z3 := O03.size
  have r2l := R2.lt
  clear R2 O3 O02
  go_wp2_with fail
  refine (l1DrawNat_any w.heap.size a b off n cap X w3 hn R3 (fun h => by have := hbl h; omega)).mono ?_
  rintro e w4 ⟨ga, na, ca, A, rfl, ka1, ka2, LA, lA, ka3, ka4, R4, O4⟩
  have O04 := O03.trans O4
  have rl := R3.lt
  have z4 := O4.size
  have LB4 := LB.oth O4 (fun h => by omega)
  have S4 : w.Since w.heap.size w4 := O04.since (Nat.le_refl _)
  clear R3 O4 O03 LB R4 O04
  have SA : Some32 w4 (.slice (some ⟨ga, 0, none⟩) na ca) 64 := ⟨_, ga, na, ca, A, rfl, ka1, by omega, fun h => (by cases h), LA, lA⟩
  have SB : Some32 w4 (.slice (some ⟨gb, 0, none⟩) nb cb) 64 := ⟨_, gb, nb, cb, B, rfl, kb1, by omega, fun h => (by cases h), LB4, lB⟩
  by_cases c1 : (k : Int) % 2 = 1
  · have h1 : ((k : Int) % 2 == 1) = true := by simp [c1]
    go_wp2_with fail
    refine (l1Bits_any (some ⟨ga, 0, none⟩) ga 0 na ca A w4 (by omega) LA lA).mono ?_
    rintro e w5 ⟨a5, g5, m5, c5, B5, rfl, k51, k52, L5, -, p5, e5, s5⟩
    have S5 : w.Since w.heap.size w5 := S4.trans (sinceMono s5 S4.size)
    go_wp2_with fail
    refine (l1Bits_any (some ⟨gb, 0, none⟩) gb 0 nb cb B w5 (by omega) (LB4.keep s5) lB).mono ?_
    rintro e w6 ⟨a6, g6, m6, c6, B6, rfl, k61, k62, L6, -, p6, e6, s6⟩
    have S6 : w.Since w.heap.size w6 := S5.trans (sinceMono s6 S5.size)
    go_wp2_with fail
    refine (l1MulBits_any a5 a6 g5 0 m5 c5 g6 0 m6 c6 B5 B6 w6 (by omega) (by omega) (L5.keep s6) L6).mono ?_
    rintro e w7 ⟨g7, t7, c7, B7, rfl, k71, k72, L7, -, p7, e7, s7⟩
    have S7 : w.Since w.heap.size w7 := S6.trans (sinceMono s7 S6.size)
    have LB7 := ((LB4.keep s5).keep s6).keep s7
    have LA7 := ((LA.keep s5).keep s6).keep s7
    clear L5 L6 e5 e6 e7 p5 p6 s5 s6 s7 LB4 LA SA SB S4 S5 S6
    obtain ⟨kk, hkk⟩ : ∃ kk : Nat, (k : Int) / 16 = (kk : Int) := ⟨k / 16, by omega⟩
    have hkl : kk < 18446744073709551616 := by omega
    go_wp2_with fail
    refine (l1BitsOf_any kk w7 hkl).mono ?_
    rintro e w8 ⟨x8, t8, B8, rfl, k8, T8, -, s8⟩
    have S8 : w.Since w.heap.size w8 := S7.trans (sinceMono s8 S7.size)
    have L78 := L7.keep s8
    have LB8 := LB7.keep s8
    have LA8 := LA7.keep s8
    clear LB7 LA7 L7 s8 S7
    obtain ⟨a8, b8, o8, c8, rfl, k81, L8, p8⟩ := T8
    have SB8 : Some32 w8 (.slice (some ⟨gb, 0, none⟩) nb cb) 64 := ⟨_, gb, nb, cb, B, rfl, kb1, by omega, fun h => (by cases h), LB8, lB⟩
    have SA8 : Some32 w8 (.slice (some ⟨ga, 0, none⟩) na ca) 64 := ⟨_, ga, na, ca, A, rfl, ka1, by omega, fun h => (by cases h), LA8, lA⟩
    by_cases c2 : (k : Int) % 4 = 1
    · have h2 : ((k : Int) % 4 == 1) = true := by simp [c2]
      go_wp2_with fail
      refine (l1AddBits_any (some ⟨g7, 0, none⟩) a8 g7 0 t7 c7 b8 o8 t8 c8 B7 B8 w8 (by omega) (by omega) L78 L8).mono ?_
      rintro e wA ⟨gA, tA, cA, DA, rfl, kA1, kA2, LA1, -, pA, eA, sA⟩
      have SA1 : w.Since w.heap.size wA := S8.trans (sinceMono sA S8.size)
      have LBA := LB8.keep sA
      go_wp2_with fail
      refine (l1Limbs_any2 (some ⟨gA, 0, none⟩) gA 0 tA cA DA wA (by omega) kA1 LA1).mono ?_
      rintro e wB ⟨aB, gB, mB, capB, YB, rfl, kB1, kB2, kB3, LB1, -, -, lB1, -, -, sB⟩
      have SB1 : w.Since w.heap.size wB := SA1.trans (sinceMono sB SA1.size)
      go_wp2
      go_ret2
      exact ⟨_, _, rfl, ⟨_, gB, mB, capB, YB, rfl, kB1, by omega, kB2, LB1, fun j _ => lB1 j⟩, ⟨_, gb, nb, cb, B, rfl, kb1, by omega, fun h => (by cases h), LBA.keep sB, lB⟩, SB1⟩
    · have h2 : ((k : Int) % 4 == 1) = false := by simp [c2]
      go_wp2_with fail
      refine (l1CmpBits_any (some ⟨g7, 0, none⟩) a8 g7 0 t7 c7 b8 o8 t8 c8 B7 B8 w8 (by omega) (by omega) L78 L8 p7 p8).mono ?_
      rintro e w9 ⟨rfl, s9⟩
      by_cases hle : bv B8 t8 ≤ bv B7 t7
      · have hcp := cmpN_nonneg hle
        have htl : t8 ≤ t7 := by
          rcases Nat.lt_or_ge t7 t8 with h | h
          · have := bv_short (A := B7) (B := B8) h p8
            omega
          · exact h
        have HLE := hide hle
        clear hle
        have S9 : w.Since w.heap.size w9 := S8.trans (s9.since _)
        go_wp2_with fail
        refine (l1SubBits_any (some ⟨g7, 0, none⟩) a8 g7 0 t7 c7 b8 o8 t8 c8 B7 B8 w9 (by omega) htl (L78.same s9) (L8.same s9) HLE.out).mono ?_
        rintro e wA ⟨gA, tA, cA, DA, rfl, kA1, kA2, LA1, -, pA, eA, sA⟩
        have SA1 : w.Since w.heap.size wA := S9.trans (sinceMono sA S9.size)
        have LBA := (LB8.same s9).keep sA
        go_wp2_with fail
        refine (l1Limbs_any2 (some ⟨gA, 0, none⟩) gA 0 tA cA DA wA (by omega) kA1 LA1).mono ?_
        rintro e wB ⟨aB, gB, mB, capB, YB, rfl, kB1, kB2, kB3, LB1, -, -, lB1, -, -, sB⟩
        have SB1 : w.Since w.heap.size wB := SA1.trans (sinceMono sB SA1.size)
        go_wp2
        go_ret2
        exact ⟨_, _, rfl, ⟨_, gB, mB, capB, YB, rfl, kB1, by omega, kB2, LB1, fun j _ => lB1 j⟩, ⟨_, gb, nb, cb, B, rfl, kb1, by omega, fun h => (by cases h), LBA.keep sB, lB⟩, SB1⟩
      · have hcp := cmpN_neg (Nat.lt_of_not_le hle)
        have hge : ¬ ((0 : Int) ≤ cmpN (bv B7 t7) (bv B8 t8)) := by omega
        clear hle
        go_wp2_with fail
        go_ret2
        exact ⟨_, _, rfl, ⟨_, ga, na, ca, A, rfl, ka1, by omega, fun h => (by cases h), LA8.same s9, lA⟩, ⟨_, gb, nb, cb, B, rfl, kb1, by omega, fun h => (by cases h), LB8.same s9, lB⟩, S8.trans (s9.since _)⟩
  · have h1 : ((k : Int) % 2 == 1) = false := by simp [c1]
    go_wp2_with fail
    go_ret2
    exact ⟨_, _, rfl, SA, SB, S4⟩

end Go.Proofs.YtklkohdcilnchaaDoor

namespace Go.Proofs.YtklkohdcilnchaaDoor
open Go.RowKit

/-- A whole number as a Rat: its lists are not nil. -/
def WholeV (w : World) (v : Value) (N M : Nat) : Prop :=
  ∃ g n c h X Y, v = .agg #[.bool false, .slice (some ⟨g, 0, none⟩) n c, .slice (some ⟨h, 0, none⟩) 1 1] ∧ n ≤ c ∧ n ≤ M ∧ Limbs w (some ⟨g, 0, none⟩) g 0 n X ∧ (∀ j, j < n → X j < 4294967296) ∧ (0 < n → X (n - 1) ≠ 0) ∧ lv X n = N ∧ Limbs w (some ⟨h, 0, none⟩) h 0 1 Y ∧ Y 0 = 1

set_option maxHeartbeats 1600000 in
set_option maxRecDepth 100000 in
theorem lwWhole_any (a : Option Addr) (b n cap : Nat) (X : Nat → Nat) (w : World) (hn : n ≤ 1024) (hnc : n ≤ cap) (hX : Limbs w a b 0 n X) (lX : ∀ j, j < n → X j < 4294967296) :
    Calls Tryd.prog 17 #[.slice a n cap] w fun e w' => ∃ v, e = .returned v ∧ WholeV w' v (lv X n) n ∧ w.Since w.heap.size w' := by
  obtain ⟨i0, hi, hz0, hz1, hz2⟩ := info_parts Tryd.info43
  have sA : w.Since w.heap.size (w.alloc (.cells #[.bool false, .slice none 0 0, .slice none 0 0] 25)) := (World.Since.refl _ _).alloc (Nat.le_refl _) _
  have rA := Box3.new w (.bool false) (.slice none 0 0) (.slice none 0 0) 25
  have tB : (w.alloc (.cells #[.bool false, .slice none 0 0, .slice none 0 0] 25)).Since (w.alloc (.cells #[.bool false, .slice none 0 0, .slice none 0 0] 25)).heap.size ((w.alloc (.cells #[.bool false, .slice none 0 0, .slice none 0 0] 25)).alloc (.cells #[] 43)) := (World.Since.refl _ _).alloc (Nat.le_refl _) _
  have SB := sA.trans (sinceMono tB sA.size)
  have own1 := World.ownsRow_made (e := 43) (size := 1) (w.alloc (.cells #[.bool false, .slice none 0 0, .slice none 0 0] 25)) #[] 0 (Nat.le_refl _) (by decide) rfl
  have zA : (w.alloc (.cells #[.bool false, .slice none 0 0, .slice none 0 0] 25)).heap.size = w.heap.size + 1 := by simp
  rw [zA] at own1
  have HZA := hide zA
  clear zA
  have FIN : ∀ (v' : Value) (w2 : World) (k : Nat), tlen (nz X) k = tlen (nz X) n → (k = 0 ∨ nz X (k - 1) = true) → k ≤ n → v' ≠ .slice none 0 0 → w2.ownsRow (w.heap.size + 1) 43 1 v' k (ll X k) → Hid (∃ g c, v' = .slice (some ⟨g, 0, none⟩) k c ∧ k ≤ c ∧ g < w2.heap.size ∧ w.heap.size < g ∧ Limbs w2 (some ⟨g, 0, none⟩) g 0 k X ∧ (0 < k → X (k - 1) ≠ 0) ∧ lv X k = lv X n) := by
    intro v' w2 k ht hk hkn hv ho
    obtain ⟨g, c, rfl, h1, h2, h3, h4, -⟩ := own_limbs_some ho hv
    have e : k = tlen (nz X) k := by
      rcases hk with rfl | hk
      · rfl
      · cases k with
        | zero => rfl
        | succ k => rw [tlen_true (by omega) hk]
    refine ⟨g, c, rfl, h1, h3, by omega, h4, fun h0 => ?_, ?_⟩
    · rcases hk with rfl | hk
      · omega
      · simpa [nz] using hk
    · rw [e, ht, lv_tlen]
  go_enter Tryd.func17, Tryd.ntmps17
  go_wp2
  go_loop [3] (fun i => ∃ k : Nat, k ≤ n ∧ i = .int .i64 k ∧ Hid (tlen (nz X) k = tlen (nz X) n)) (fun i => (intOf i).toNat)
  case atStart => exact ⟨n, Nat.le_refl _, rfl, hide rfl⟩
  case round =>
    obtain ⟨k, hk, rfl, HT⟩ := hrel
    by_cases hlt : 0 < k
    · obtain ⟨rfl, hc⟩ := hX (k - 1) (by omega)
      have sA : w.Since w.heap.size (w.alloc (.cells #[.bool false, .slice none 0 0, .slice none 0 0] 25)) := (World.Since.refl _ _).alloc (Nat.le_refl _) _
      have hc' : (w.alloc (.cells #[.bool false, .slice none 0 0, .slice none 0 0] 25)).cell? ⟨b, k - 1, none⟩ = some (.int .u32 (X (k - 1))) := by have := (sA.cell (a := ⟨b, 0 + (k - 1), none⟩) (hX.lt (by omega))).trans hc; simpa using this
      by_cases hB : X (k - 1) = 0
      · rw [hB] at hc'
        have HB : Hid (nz X (k - 1) = false) := by simp [Hid, nz, hB]
        clear hB hc
        go_wp2
        go_round
        case rel => exact ⟨k - 1, by omega, by go_num, hide ((tlen_false hlt HB.out).trans HT.out)⟩
        case measure => simp [intOf]; omega
      · have HB : Hid (nz X (k - 1) = true) := by simp [Hid, nz, hB]
        have hne : ((X (k - 1) : Int) == 0) = false := by simp; omega
        clear hB hc
        have hXB := hX.keep SB
        go_wp2_with (at_builtin; refine wpList_append_own _ rfl _ _ 23 rfl (w.heap.size + 1) 43 i0 (.int .u32 0) 1 4 Tryd.underlying23 hi hz0 hz1 hz2 rfl (by decide) _ 0 [] rfl own1 ⟨b, 0, none⟩ k cap (ll X k) rfl (by rw [ll_len]; omega) (limbs_news (hXB.take hk)) (ll_one X k) (by unfold maxLen; omega) (by omega) (by simp) ?_)
        intro v' w2 hown' hgrow hnn
        have S2 : w.Since w.heap.size w2 := SB.grown hgrow SB.size (fun q hq => by have := (own1.lt q hq).1; omega)
        have r2 : Box3 w2 w.heap.size (.bool false) (.slice none 0 0) (.slice none 0 0) := (rA.keep tB).ofBlock (hgrow.block w.heap.size (rA.keep tB).lt (fun e => by have := (own1.lt _ e.symm).1; omega))
        obtain ⟨g, c, rfl, v1, v2, v3, L2, t2, e2⟩ := (FIN v' w2 k HT.out (Or.inr HB.out) hk hnn hown').out
        clear hgrow hown' hnn own1 FIN
        have t3 : w2.Since w2.heap.size (w2.alloc (.cells #[.int .u32 1] 43)) := (World.Since.refl _ _).alloc (Nat.le_refl _) _
        have r3 := r2.keep t3
        have u0 := r3.c0
        have u1 := r3.c1
        have u2 := r3.c2
        have uf0 := r3.f 0
        have uf1 := r3.f 1
        have uf2 := r3.f 2
        have o3 : Limbs (w2.alloc (.cells #[.int .u32 1] 43)) (some ⟨w2.heap.size, 0, none⟩) w2.heap.size 0 1 (fun _ => 1) := fun j hj => ⟨rfl, by rw [show 0 + j = 0 by omega]; exact World.cell?_alloc_new w2 _ _ 0⟩
        have E2 := hide e2
        clear e2
        go_wp2
        have rl := r2.lt
        have rC := ((r3.set0 (.bool false)).set1 (.slice (some ⟨g, 0, none⟩) k c)).set2 (.slice (some ⟨w2.heap.size, 0, none⟩) 1 1)
        refine bodyPost_ret (results_box3 rfl _ _ _ _ _ _ rfl rC) rfl ?_
        have M := (((Marked.refl (w2.alloc (.cells #[.int .u32 1] 43)) w.heap.size).setCell 0 (.bool false)).setCell 1 (.slice (some ⟨g, 0, none⟩) k c)).setCell 2 (.slice (some ⟨w2.heap.size, 0, none⟩) 1 1)
        exact ⟨_, rfl, ⟨g, k, c, w2.heap.size, X, fun _ => 1, rfl, v1, by omega, (L2.keep t3).marked M (fun _ => by omega), fun j hj => lX j (by omega), t2, E2.out, o3.marked M (fun _ => by omega), rfl⟩, (S2.trans (sinceMono t3 S2.size)).trans (M.since (Nat.le_refl _))⟩
    · have e : k = 0 := by omega
      subst e
      have sC : w.Since w.heap.size (((w.alloc (.cells #[.bool false, .slice (some ⟨w.heap.size + 1, 0, none⟩) 0 0, .slice (some ⟨w.heap.size + 1 + 1, 0, none⟩) 1 1] 25)).alloc (.cells #[] 43)).alloc (.cells #[.int .u32 1] 43)) := (((World.Since.refl _ _).alloc (Nat.le_refl _) _).alloc (by simp) _).alloc (by simp; omega) _
      have bC : Box3 (((w.alloc (.cells #[.bool false, .slice (some ⟨w.heap.size + 1, 0, none⟩) 0 0, .slice (some ⟨w.heap.size + 1 + 1, 0, none⟩) 1 1] 25)).alloc (.cells #[] 43)).alloc (.cells #[.int .u32 1] 43)) w.heap.size (.bool false) (.slice (some ⟨w.heap.size + 1, 0, none⟩) 0 0) (.slice (some ⟨w.heap.size + 1 + 1, 0, none⟩) 1 1) := ((Box3.new w _ _ _ _).keep ((World.Since.refl _ _).alloc (Nat.le_refl _) _)).keep ((World.Since.refl _ _).alloc (Nat.le_refl _) _)
      have oC : Limbs (((w.alloc (.cells #[.bool false, .slice (some ⟨w.heap.size + 1, 0, none⟩) 0 0, .slice (some ⟨w.heap.size + 1 + 1, 0, none⟩) 1 1] 25)).alloc (.cells #[] 43)).alloc (.cells #[.int .u32 1] 43)) (some ⟨w.heap.size + 1 + 1, 0, none⟩) (w.heap.size + 1 + 1) 0 1 (fun _ => 1) := fun j hj => ⟨rfl, by
        rw [show 0 + j = 0 by omega]
        have := World.cell?_alloc_new ((w.alloc (.cells #[.bool false, .slice (some ⟨w.heap.size + 1, 0, none⟩) 0 0, .slice (some ⟨w.heap.size + 1 + 1, 0, none⟩) 1 1] 25)).alloc (.cells #[] 43)) #[.int .u32 1] 43 0
        simpa using this⟩
      have hl : lv X n = 0 := by rw [← lv_tlen X n, ← HT.out]; rfl
      have HL := hide hl
      clear hl own1 FIN
      cases a with
      | some x =>
        go_wp2
        refine bodyPost_ret (results_box3 rfl _ _ _ _ _ _ rfl bC) rfl ?_
        exact ⟨_, rfl, ⟨w.heap.size + 1, 0, 0, w.heap.size + 1 + 1, X, fun _ => 1, rfl, Nat.le_refl _, Nat.zero_le _, fun j hj => absurd hj (by omega), fun j hj => absurd hj (by omega), fun h => absurd h (by omega), HL.out.symm, oC, rfl⟩, sC⟩
      | none =>
        go_wp2
        refine bodyPost_ret (results_box3 rfl _ _ _ _ _ _ rfl bC) rfl ?_
        exact ⟨_, rfl, ⟨w.heap.size + 1, 0, 0, w.heap.size + 1 + 1, X, fun _ => 1, rfl, Nat.le_refl _, Nat.zero_le _, fun j hj => absurd hj (by omega), fun j hj => absurd hj (by omega), fun h => absurd h (by omega), HL.out.symm, oC, rfl⟩, sC⟩

end Go.Proofs.YtklkohdcilnchaaDoor

namespace Go.Proofs.YtklkohdcilnchaaDoor
open Go.RowKit

set_option maxHeartbeats 1600000 in
set_option maxRecDepth 100000 in
/-- l1Same of two Rats that hold the same. -/
theorem l1Same_true (f : Bool) (a b a' b' : Option Addr) (g h g' h' n c m d c' d' : Nat) (X Y : Nat → Nat) (w : World) (hn : n ≤ 1048576) (hm : m ≤ 1048576) (hX : Limbs w a g 0 n X) (hY : Limbs w b h 0 m Y) (hX' : Limbs w a' g' 0 n X) (hY' : Limbs w b' h' 0 m Y) :
    Calls Tryd.prog 39 #[.agg #[.bool f, .slice a n c, .slice b m d], .agg #[.bool f, .slice a' n c', .slice b' m d']] w fun e w' => e = .returned (.bool true) ∧ w.Since w.heap.size w' := by
  have sA : w.Since w.heap.size ((w.alloc (.cells #[.bool f, .slice a n c, .slice b m d] 25)).alloc (.cells #[.bool f, .slice a' n c', .slice b' m d'] 25)) := ((World.Since.refl _ _).alloc (Nat.le_refl _) _).alloc (by simp) _
  have oA : Box3 ((w.alloc (.cells #[.bool f, .slice a n c, .slice b m d] 25)).alloc (.cells #[.bool f, .slice a' n c', .slice b' m d'] 25)) w.heap.size (.bool f) (.slice a n c) (.slice b m d) := (Box3.new w _ _ _ _).keep ((World.Since.refl _ _).alloc (Nat.le_refl _) _)
  have pA : Box3 ((w.alloc (.cells #[.bool f, .slice a n c, .slice b m d] 25)).alloc (.cells #[.bool f, .slice a' n c', .slice b' m d'] 25)) (w.heap.size + 1) (.bool f) (.slice a' n c') (.slice b' m d') := by
    have := Box3.new (w.alloc (.cells #[.bool f, .slice a n c, .slice b m d] 25)) (.bool f) (.slice a' n c') (.slice b' m d') 25
    simpa using this
  have kA := And.intro oA.cells pA.cells
  go_enter Tryd.func39, Tryd.ntmps39
  go_wp2
  generalize ((w.alloc (.cells #[.bool f, .slice a n c, .slice b m d] 25)).alloc (.cells #[.bool f, .slice a' n c', .slice b' m d'] 25)) = w1 at *
  go_loopw [5] (fun t wr => ∃ k : Nat, k ≤ n ∧ t = .int .i64 k ∧ Same w1 wr) (fun t _ => n - (intOf t).toNat)
  case atStart => exact ⟨0, Nat.zero_le _, rfl, Same.refl _⟩
  case round =>
    obtain ⟨k, hk, rfl, sm⟩ := hrel
    have q1 : wr.cell? ⟨w.heap.size, 1, none⟩ = some (.slice a n c) := by rw [sm.cell]; exact oA.c1
    have q2 : wr.cell? ⟨w.heap.size + 1, 1, none⟩ = some (.slice a' n c') := by rw [sm.cell]; exact pA.c1
    by_cases hlt : k < n
    · obtain ⟨rfl, x1⟩ := hX k hlt
      obtain ⟨rfl, x2⟩ := hX' k hlt
      have y1 := (sA.cell (a := ⟨_, _, none⟩) (World.block_lt_of_cell? _ _ x1)).trans x1
      have y2 := (sA.cell (a := ⟨_, _, none⟩) (World.block_lt_of_cell? _ _ x2)).trans x2
      rw [← sm.cell] at y1 y2
      rw [Nat.zero_add] at y1 y2
      have hlt' : (k : Int) < (n : Int) := by omega
      clear x1 x2
      go_wp2
      go_quiet (fail)
      go_wp2
      go_roundw
      case rel => exact ⟨k + 1, by omega, by go_num, sm.drewN _⟩
      case measure => simp [intOf]; omega
    · have q0 := q1
      have k1 := And.intro oA.cells pA.cells
      have q3 : wr.cell? ⟨w.heap.size, 2, none⟩ = some (.slice b m d) := by rw [sm.cell]; exact oA.c2
      go_wp2
      go_loopw [6] (fun t wr => ∃ k : Nat, k ≤ m ∧ t = .int .i64 k ∧ Same w1 wr) (fun t _ => m - (intOf t).toNat)
      case atStart => exact ⟨0, Nat.zero_le _, rfl, sm⟩
      case round =>
        obtain ⟨k, hk, rfl, sm⟩ := hrel
        have q1 : wr.cell? ⟨w.heap.size, 2, none⟩ = some (.slice b m d) := by rw [sm.cell]; exact oA.c2
        have q2 : wr.cell? ⟨w.heap.size + 1, 2, none⟩ = some (.slice b' m d') := by rw [sm.cell]; exact pA.c2
        by_cases hlt : k < m
        · obtain ⟨rfl, x1⟩ := hY k hlt
          obtain ⟨rfl, x2⟩ := hY' k hlt
          have y1 := (sA.cell (a := ⟨_, _, none⟩) (World.block_lt_of_cell? _ _ x1)).trans x1
          have y2 := (sA.cell (a := ⟨_, _, none⟩) (World.block_lt_of_cell? _ _ x2)).trans x2
          rw [← sm.cell] at y1 y2
          rw [Nat.zero_add] at y1 y2
          have hlt' : (k : Int) < (m : Int) := by omega
          clear x1 x2
          go_wp2
          go_quiet (fail)
          go_wp2
          go_roundw
          case rel => exact ⟨k + 1, by omega, by go_num, sm.drewN _⟩
          case measure => simp [intOf]; omega
        · go_wp2
          go_ret
          exact ⟨rfl, sA.trans (sinceMono (sm.since w1.heap.size) sA.size)⟩

set_option maxHeartbeats 800000 in
set_option maxRecDepth 100000 in
theorem same_true (f : Bool) (a b a' b' : Option Addr) (g h g' h' n c m d c' d' : Nat) (X Y : Nat → Nat) (w : World) (hn : n ≤ 1048576) (hm : m ≤ 1048576) (hX : Limbs w a g 0 n X) (hY : Limbs w b h 0 m Y) (hX' : Limbs w a' g' 0 n X) (hY' : Limbs w b' h' 0 m Y) :
    Calls Tryd.prog 11 #[.agg #[.bool f, .slice a n c, .slice b m d], .agg #[.bool f, .slice a' n c', .slice b' m d']] w fun e w' => e = .returned (.bool true) ∧ w.Since w.heap.size w' := by
  have sA : w.Since w.heap.size ((w.alloc (.cells #[.bool f, .slice a n c, .slice b m d] 25)).alloc (.cells #[.bool f, .slice a' n c', .slice b' m d'] 25)) := ((World.Since.refl _ _).alloc (Nat.le_refl _) _).alloc (by simp) _
  have oA : Box3 ((w.alloc (.cells #[.bool f, .slice a n c, .slice b m d] 25)).alloc (.cells #[.bool f, .slice a' n c', .slice b' m d'] 25)) w.heap.size (.bool f) (.slice a n c) (.slice b m d) := (Box3.new w _ _ _ _).keep ((World.Since.refl _ _).alloc (Nat.le_refl _) _)
  have pA : Box3 ((w.alloc (.cells #[.bool f, .slice a n c, .slice b m d] 25)).alloc (.cells #[.bool f, .slice a' n c', .slice b' m d'] 25)) (w.heap.size + 1) (.bool f) (.slice a' n c') (.slice b' m d') := by
    have := Box3.new (w.alloc (.cells #[.bool f, .slice a n c, .slice b m d] 25)) (.bool f) (.slice a' n c') (.slice b' m d') 25
    simpa using this
  have kA := And.intro oA.cells pA.cells
  go_enter Tryd.func11, Tryd.ntmps11
  go_wp2_with fail
  generalize ((w.alloc (.cells #[.bool f, .slice a n c, .slice b m d] 25)).alloc (.cells #[.bool f, .slice a' n c', .slice b' m d'] 25)) = w1 at *
  refine (l1Same_true f a b a' b' g h g' h' n c m d c' d' X Y w1 hn hm (hX.keep sA) (hY.keep sA) (hX'.keep sA) (hY'.keep sA)).mono ?_
  rintro e w2 ⟨rfl, s2⟩
  go_wp2
  go_ret
  exact ⟨rfl, sA.trans (sinceMono s2 sA.size)⟩

end Go.Proofs.YtklkohdcilnchaaDoor

namespace Go.Proofs.YtklkohdcilnchaaDoor
open Go.RowKit

set_option maxHeartbeats 1600000 in
set_option maxRecDepth 100000 in
theorem implNatMul_any (a a' : Option Addr) (b off n cap b' off' m cap' : Nat) (X Y : Nat → Nat) (w : World) (hn : n ≤ 1048576) (hm : m ≤ 1048576) (hnc : n ≤ cap) (hmc : m ≤ cap') (hX : Limbs w a b off n X) (hY : Limbs w a' b' off' m Y)
    (hXl : ∀ j, j < n → X j < 4294967296) (hYl : ∀ j, j < m → Y j < 4294967296) :
    Calls Tryd.prog 20 #[.slice a n cap, .slice a' m cap'] w fun e w' => ∃ v, e = .returned v ∧ NatOut w w' v (lv X n * lv Y m) (n + m + 1) ∧ w.Since w.heap.size w' := by
  have l1 := tlen_le (nz X) n
  have l2 := tlen_le (nz Y) m
  go_enter Tryd.func20, Tryd.ntmps20
  go_wp2_with fail
  refine (readOnly_any a b off n cap X _ (by omega) hnc hX).mono ?_
  rintro e w1 ⟨rfl, hs1⟩
  go_wp2_with fail
  refine (readOnly_any a' b' off' m cap' Y _ (by omega) hmc (hY.keep (hs1.alloc hs1.size _))).mono ?_
  rintro e w2 ⟨rfl, hs2⟩
  have hs12 : w.Since w.heap.size w2 := (hs1.alloc hs1.size _).trans (sinceMono hs2 (by have := hs1.size; simp; omega))
  have q0 : w2.cell? ⟨w1.heap.size, 0, none⟩ = some (.slice a (tlen (nz X) n) cap) := by rw [hs2.cell (a := ⟨w1.heap.size, 0, none⟩) (by simp)]; simp [go_sem]
  have q1 : w2.frozen? ⟨w1.heap.size, 0, none⟩ = false := by rw [hs2.frozen (a := ⟨w1.heap.size, 0, none⟩) (by simp)]; simp [go_sem]
  have hsz : w1.heap.size + 1 ≤ w2.heap.size := by have := hs2.size; simp at this; omega
  clear hs2
  go_wp2_with fail
  refine (multiply_any w1.heap.size 0 a a' b off _ cap b' off' _ cap' X Y _ (by omega) (by omega) ((hX.keep hs12).take l1) ((hY.keep hs12).take l2) (fun j hj => hXl j (by omega)) (fun j hj => hYl j (by omega)) q0 q1).mono ?_
  rintro e w3 ⟨rfl, w4, P, hs3, hr, hPl, hv, rfl⟩
  have HV : Hid (lv P (tlen (nz X) n + tlen (nz Y) m) = lv X (tlen (nz X) n) * lv Y (tlen (nz Y) m)) := hv
  clear hv
  have q3 : w4.cell? ⟨w1.heap.size, 0, none⟩ = some (.slice a (tlen (nz X) n) cap) := by rw [hs3.cell (a := ⟨w1.heap.size, 0, none⟩) (by show w1.heap.size < _; omega)]; exact q0
  clear q0 q1
  go_wp2
  go_ret
  go_light
  have hb : w1.heap.size ≠ w2.heap.size := by omega
  have htl := tlen_le (nz P) (tlen (nz X) n + tlen (nz Y) m)
  have hr' := hr.setOther (a := ⟨w1.heap.size, 0, none⟩) (by show w2.heap.size ≠ w1.heap.size; omega) (.slice (some ⟨w2.heap.size, 0, none⟩) (tlen (nz P) (tlen (nz X) n + tlen (nz Y) m)) (tlen (nz X) n + tlen (nz Y) m))
  refine ⟨_, rfl, ⟨_, w2.heap.size, _, _, P, rfl, htl, by omega, (limbs_row hr').take htl, hs12.size, fun _ o => hr'.frozen o, fun j _ => hPl j, fun h => by have := tlen_top _ _ h; simpa [nz] using this, ?_⟩, ?_⟩
  · rw [lv_tlen, HV.out, lv_tlen, lv_tlen]
  · exact (hs12.trans (sinceMono hs3 hs12.size)).setCell (by show w.heap.size ≤ w1.heap.size; exact hs1.size) _

set_option maxHeartbeats 1600000 in
set_option maxRecDepth 100000 in
theorem implNatDivMod_zero (a a' : Option Addr) (n cap b' off' m cap' : Nat) (Y : Nat → Nat) (w : World) (hm : m ≤ 1048576) (hmc : m ≤ cap') (hY : Limbs w a' b' off' m Y) (h0 : lv Y m = 0) :
    Calls Tryd.prog 18 #[.slice a n cap, .slice a' m cap'] w fun e w' => e = .returned (.tuple #[.slice none 0 0, .slice none 0 0, .bool false]) ∧ w.Since w.heap.size w' := by
  have e0 := lv_nought h0
  go_enter Tryd.func18, Tryd.ntmps18
  go_wp2_with fail
  refine (readOnly_any a' b' off' m cap' Y _ (by omega) hmc hY).mono ?_
  rintro e w1 ⟨rfl, hs1⟩
  rw [e0]
  clear h0 e0
  go_wp2_with fail
  refine (isZero_any w1.heap.size 0 a' 0 cap' _ (by simp [go_sem])).mono ?_
  rintro e w2 ⟨rfl, rfl⟩
  go_wp2
  go_ret3
  exact ⟨rfl, hs1.alloc hs1.size _⟩

set_option maxHeartbeats 1600000 in
set_option maxRecDepth 100000 in
theorem implNatDivMod_any (a a' : Option Addr) (b n cap b' m cap' : Nat) (X Y : Nat → Nat) (w : World) (hn : n ≤ 1048576) (hm : m ≤ 1048576) (hnc : n ≤ cap) (hmc : m ≤ cap') (hac : a = none → cap = 0) (hX : Limbs w a b 0 n X) (hY : Limbs w a' b' 0 m Y)
    (hXl : ∀ j, j < n → X j < 4294967296) (hYl : ∀ j, j < m → Y j < 4294967296) (h0 : 0 < lv Y m) :
    Calls Tryd.prog 18 #[.slice a n cap, .slice a' m cap'] w fun e w' => ∃ vq vr gq gr, e = .returned (.tuple #[vq, vr, .bool true]) ∧ NatAt w' vq gq (lv X n / lv Y m) (n + 2) ∧ NatAt w' vr gr (lv X n % lv Y m) (n + 2) ∧
      w.heap.size ≤ gq ∧ w.heap.size ≤ gr ∧ gq ≠ gr ∧ w.Since w.heap.size w' := by
  have e0 := lv_some h0
  have l2 := tlen_le (nz Y) m
  have HTY := hide (tlen_top (nz Y) m e0)
  have HVY := hide (lv_tlen Y m)
  obtain ⟨t, ht⟩ : ∃ t, t = tlen (nz Y) m := ⟨_, rfl⟩
  rw [← ht] at e0 l2 HTY HVY
  have HT := hide ht
  clear h0 ht
  go_enter Tryd.func18, Tryd.ntmps18
  go_wp2_with fail
  refine (readOnly_any a' b' 0 m cap' Y _ (by omega) hmc hY).mono ?_
  rintro e w1 ⟨rfl, s1⟩
  rw [← HT.out]
  go_wp2_with fail
  refine (isZero_any w1.heap.size 0 a' t cap' _ (by simp [go_sem])).mono ?_
  rintro e w2 ⟨rfl, hw2⟩
  have s2 : w.Since w.heap.size w2 := by rw [hw2]; exact s1.alloc s1.size _
  have bx2 : w2.cell? ⟨w1.heap.size, 0, none⟩ = some (.slice a' t cap') := by rw [hw2]; simp [go_sem]
  have z12 : w1.heap.size < w2.heap.size := by rw [hw2]; simp
  have zw := s1.size
  clear hw2 s1
  have ht0 : ((t : Int) == 0) = false := by simp; omega
  go_wp2_with fail
  refine (ownCopy_any a b 0 n cap X _ (by omega) hnc hac (hX.keep s2)).mono ?_
  rintro e w3 ⟨v3, rfl, own3, s3⟩
  have S3 : w.Since w.heap.size w3 := s2.trans (sinceMono s3 s2.size)
  have bx3 : w3.cell? ⟨w1.heap.size, 0, none⟩ = some (.slice a' t cap') := by rw [s3.cell (a := ⟨w1.heap.size, 0, none⟩) z12]; exact bx2
  have z23 := s3.size
  obtain ⟨a3, g3, c3, rfl, k1, k2, k3, k4, k5, L3, F3⟩ := own_nat own3 (w3.heap.size + 1) (by omega)
  have HTX := hide (tlen_top (nz X) n)
  have HVX := hide (lv_tlen X n)
  have hxl := tlen_le (nz X) n
  obtain ⟨u, hu⟩ : ∃ t, t = tlen (nz X) n := ⟨_, rfl⟩
  rw [← hu] at k1 k5 L3 F3 HTX HVX hxl ⊢
  clear own3 hu s2 s3 bx2
  have bxA : ∀ x, (w3.alloc x).cell? ⟨w1.heap.size, 0, none⟩ = some (.slice a' t cap') := fun x => by rw [World.cell?_alloc_old _ _ _ (by show w1.heap.size ≠ _; omega)]; exact bx3
  have sA : w3.Since w3.heap.size (w3.alloc (.cells #[.slice a3 u c3] 58)) := (World.Since.refl _ _).alloc (Nat.le_refl _) _
  have SA : w.Since w.heap.size (w3.alloc (.cells #[.slice a3 u c3] 58)) := S3.alloc S3.size _
  have cA : (w3.alloc (.cells #[.slice a3 u c3] 58)).cell? ⟨w3.heap.size, 0, none⟩ = some (.slice a3 u c3) := by simp [go_sem]
  have fA : (w3.alloc (.cells #[.slice a3 u c3] 58)).frozen? ⟨w3.heap.size, 0, none⟩ = false := by simp [go_sem]
  have zA : (w3.alloc (.cells #[.slice a3 u c3] 58)).heap.size = w3.heap.size + 1 := by simp
  have LA := L3.keep sA
  have FA : 0 < u → ∀ x, (w3.alloc (.cells #[.slice a3 u c3] 58)).frozen? ⟨g3, x, none⟩ = false := fun h x => by rw [sA.frozen (a := ⟨g3, x, none⟩) (k5 h)]; exact F3 h x
  have YA := (hY.keep SA).take l2
  go_wp2_with fail
  generalize w3.alloc (.cells #[.slice a3 u c3] 58) = wA at *
  refine (divideBy_any w3.heap.size 0 a3 a' g3 u c3 b' t cap' X Y wA (by omega) k1 k2 e0 (by omega) cA fA LA YA (fun j hj => hXl j (by omega)) (fun j hj => hYl j (by omega)) FA (by omega) (fun h => by have := k5 h; omega) (fun h => by have := HTX.out h; simpa [nz] using this) (by have := HTY.out; simpa [nz] using this)).mono ?_
  rintro e w4 ⟨vq, vr, gq, gr, rfl, q1, q2, q3, q4, q5, q6, q7, q8, fr⟩
  rw [HVX.out, HVY.out] at q2 q3
  have S4 : w.Since w.heap.size w4 := fr.to_since SA (by omega) (by omega)
  rw [zA] at q4 q5
  clear fr LA FA YA SA sA S3 L3 F3 cA fA zA bxA bx3 hX hY hXl hYl
  have p2 := hide q2
  have p3 := hide q3
  clear q2 q3
  go_wp2
  go_quiet (fail)
  go_wp2
  go_ret3
  exact ⟨vq, vr, gq, gr, rfl, natAt_mono (p2.out.same ((Same.refl _).drewN _)) (by omega), natAt_mono (p3.out.same ((Same.refl _).drewN _)) (by omega), by omega, by omega, q6, S4.trans (((Same.refl _).drewN _).since _)⟩

end Go.Proofs.YtklkohdcilnchaaDoor

namespace Go.Proofs.YtklkohdcilnchaaDoor
open Go.RowKit

theorem Tab.keep {w w' : World} (h : Tab w) (hw : 0 < w.heap.size) (s : w.Since w.heap.size w') : Tab w' := fun q hq => by rw [s.cell (a := ⟨0, q, none⟩) hw]; exact h q hq

set_option maxHeartbeats 3200000 in
set_option maxRecDepth 100000 in
theorem implNatGcd_any (a a' : Option Addr) (b off n cap b' off' m cap' : Nat) (X Y : Nat → Nat) (w : World) (hw : 0 < w.heap.size) (hn : n ≤ 1048576) (hm : m ≤ 1048576) (hnc : n ≤ cap) (hmc : m ≤ cap') (hac : a = none → cap = 0) (hbc : a' = none → cap' = 0)
    (hX : Limbs w a b off n X) (hY : Limbs w a' b' off' m Y) (hXl : ∀ j, j < n → X j < 4294967296) (hYl : ∀ j, j < m → Y j < 4294967296) (hT : Tab w) :
    Calls Tryd.prog 21 #[.slice a n cap, .slice a' m cap'] w fun e w' => ∃ v, e = .returned v ∧ NatOut w w' v (Nat.gcd (lv X n) (lv Y m)) 4194304 ∧ w.Since w.heap.size w' := by
  have tX := tlen_le (nz X) n
  have tY := tlen_le (nz Y) m
  go_enter Tryd.func21, Tryd.ntmps21
  go_wp2_with fail
  refine (readOnly_any a b off n cap X _ (by omega) hnc hX).mono ?_
  rintro e w1 ⟨rfl, s1⟩
  go_wp2_with fail
  refine (readOnly_any a' b' off' m cap' Y _ (by omega) hmc (hY.keep s1)).mono ?_
  rintro e w2 ⟨rfl, s2⟩
  have S2 : w.Since w.heap.size w2 := s1.trans (sinceMono s2 s1.size)
  clear s1 s2
  have z2 := S2.size
  go_wp2_with fail
  refine (gcdOf_any a a' b off _ cap b' off' _ cap' X Y _ (by omega) (by omega) (by omega) (by omega) (by omega) hac hbc ((hX.keep S2).take tX) ((hY.keep S2).take tY) (fun j hj => hXl j (by omega)) (fun j hj => hYl j (by omega))
    (fun h => by have := tlen_top (nz X) n h; simpa [nz] using this) (fun h => by have := tlen_top (nz Y) m h; simpa [nz] using this) (hT.keep hw S2)).mono ?_
  rintro e w3 ⟨v, g, rfl, ⟨a3, k, c3, Z, rfl, k1, k2, k3, L, F, l, p, e3⟩, hg, s3⟩
  rw [lv_tlen, lv_tlen] at e3
  have E := hide (And.intro l (And.intro p e3))
  clear l p e3
  go_wp2_with fail
  go_ret
  exact ⟨_, rfl, ⟨a3, g, k, c3, Z, rfl, k1, k2, L, by omega, F, E.out.1, E.out.2.1, E.out.2.2⟩, S2.trans (sinceMono s3 z2)⟩

end Go.Proofs.YtklkohdcilnchaaDoor

namespace Go.Proofs.YtklkohdcilnchaaDoor
open Go.RowKit

theorem WholeV.keep {w w' : World} {v : Value} {N M : Nat} (h : WholeV w v N M) (s : w.Since w.heap.size w') : WholeV w' v N M := by
  obtain ⟨g, n, c, h', X, Y, h1, h2, h3, h4, h5, h6, h7, h8, h9⟩ := h
  exact ⟨g, n, c, h', X, Y, h1, h2, h3, h4.keep s, h5, h6, h7, h8.keep s, h9⟩

theorem cmp_mod {a b : Nat} (h : 0 < b) : cmpR false false (a % b) b = -1 := by
  have := Nat.mod_lt a h
  simp [cmpR, cmpN, this]
theorem lv_at1 {Y : Nat → Nat} (h : Y 0 = 1) : lv Y 1 = 1 := by simp [lv, h]
theorem whole_neg (x y : Nat) : (sumNeg false false x y && sumTop false false x y != 0) = false := by simp [sumNeg]
theorem whole_top (x y : Nat) : sumTop false false x y = x + y := by simp [sumTop]
theorem whole_in {w : World} {g n c h : Nat} {X Y : Nat → Nat} (h1 : n ≤ c) (L : Limbs w (some ⟨g, 0, none⟩) g 0 n X) (l : ∀ j, j < n → X j < 4294967296) (t : 0 < n → X (n - 1) ≠ 0) (M : Limbs w (some ⟨h, 0, none⟩) h 0 1 Y) (o : Y 0 = 1) :
    RIn w (some ⟨g, 0, none⟩) (some ⟨h, 0, none⟩) g 0 n c h 0 1 1 X Y ∧ ratOkB false X n Y 1 = true := by
  have p2 : 0 < 1 → Y (1 - 1) ≠ 0 := fun _ => by simp [o]
  refine ⟨⟨h1, Nat.le_refl _, fun h => (by cases h), fun h => (by cases h), L, M, l, fun j hj => by rw [show j = 0 by omega, o]; omega, t, p2, by omega⟩, ?_⟩
  unfold ratOkB
  rw [plainB_iff.2 t, plainB_iff.2 p2, lv_at1 o]
  simp

theorem gcd_quot {a b : Nat} (h : 0 < Nat.gcd a b) : Nat.gcd (a / Nat.gcd a b) (b / Nat.gcd a b) = 1 := by
  rw [Nat.gcd_div (Nat.gcd_dvd_left _ _) (Nat.gcd_dvd_right _ _)]; exact Nat.div_self h

theorem lv_one {X : Nat → Nat} {n : Nat} (lX : ∀ j, j < n → X j < 4294967296) (tX : 0 < n → X (n - 1) ≠ 0) (e : lv X n = 1) : n = 1 ∧ X 0 = 1 := by
  obtain ⟨rfl, h⟩ := lv_inj (X := X) (Y := fun _ => 1) (n := n) (m := 1) lX (fun _ _ => by omega) tX (fun _ => by simp) (e.trans (by simp [lv]))
  exact ⟨rfl, h 0 (by omega)⟩

set_option maxHeartbeats 800000 in
set_option maxRecDepth 100000 in
theorem divides_long (a : Option Addr) (n cap : Nat) (w : World) (hn : 1048576 < n) (hn' : n ≤ 9223372036854775807) :
    Calls Tryd.prog 4 #[.slice a n cap] w fun e w' => e = .returned (.bool true) ∧ w.Since w.heap.size w' := by
  have h : (1048576 : Int) < (n : Int) := by omega
  go_enter Tryd.func4, Tryd.ntmps4
  go_wp2
  go_ret
  exact ⟨rfl, World.Since.refl _ _⟩

set_option maxHeartbeats 6400000 in
set_option maxRecDepth 100000 in
theorem divides_law (a : Option Addr) (b off n cap : Nat) (X : Nat → Nat) (w : World) (hn : n ≤ 1048576) (hC : Code w a b off n X) (hw : 0 < w.heap.size) (hT : Tab w) :
    Calls Tryd.prog 4 #[.slice a n cap] w fun e w' => e = .returned (.bool true) ∧ w.Since w.heap.size w' := by
  have hle : ¬ ((1048576 : Int) < (n : Int)) := by omega
  go_enter Tryd.func4, Tryd.ntmps4
  go_wp2_with fail
  refine (drawNatDivMod_any a b off n cap X w hn hC).mono ?_
  rintro e w1 ⟨v1, v2, rfl, ⟨aa, ga, na, ca, A, rfl, ka1, ka2, ka3, LA1, lA⟩, ⟨ab, gb, nb, cb, B, rfl, kb1, kb2, kb3, LB1, lB⟩, S1⟩
  clear hC hle
  go_wp2_with fail
  refine (lwWhole_any aa ga na ca A w1 (by omega) ka1 LA1 lA).mono ?_
  rintro e w2 ⟨v, rfl, ⟨g2, n2, c2, h2, X2, Y2, rfl, k21, k22, L2, l2, t2, e2, M2, o2⟩, s2⟩
  have S2 : w.Since w.heap.size w2 := S1.trans (sinceMono s2 S1.size)
  have LA2 := LA1.keep s2
  have LB2 := LB1.keep s2
  clear LA1 LB1 s2
  have s3 : w2.Since w2.heap.size (w2.alloc (.cells #[.bool false, .slice (some ⟨g2, 0, none⟩) n2 c2, .slice (some ⟨h2, 0, none⟩) 1 1] 25)) := (World.Since.refl _ _).alloc (Nat.le_refl _) _
  have B3 := Box3.new w2 (.bool false) (.slice (some ⟨g2, 0, none⟩) n2 c2) (.slice (some ⟨h2, 0, none⟩) 1 1) 25
  have S3 := S2.trans (sinceMono s3 S2.size)
  have LA3 := LA2.keep s3
  have LB3 := LB2.keep s3
  have L23 := L2.keep s3
  have M23 := M2.keep s3
  have z3 : w2.heap.size < (w2.alloc (.cells #[.bool false, .slice (some ⟨g2, 0, none⟩) n2 c2, .slice (some ⟨h2, 0, none⟩) 1 1] 25)).heap.size := B3.lt
  go_wp2_with fail
  generalize w2.alloc (.cells #[.bool false, .slice (some ⟨g2, 0, none⟩) n2 c2, .slice (some ⟨h2, 0, none⟩) 1 1] 25) = w3 at *
  generalize hc3 : w2.heap.size = p3 at *
  clear LA2 LB2 L2 M2 s3
  refine (lwWhole_any ab gb nb cb B w3 (by omega) kb1 LB3 lB).mono ?_
  rintro e w4 ⟨v, rfl, ⟨g4, n4, c4, h4, X4, Y4, rfl, k41, k42, L4, l4, t4, e4, M4, o4⟩, s4⟩
  have S4 : w.Since w.heap.size w4 := S3.trans (sinceMono s4 S3.size)
  have LA4 := LA3.keep s4
  have LB4 := LB3.keep s4
  have L24 := L23.keep s4
  have M24 := M23.keep s4
  have B4 := B3.keep s4
  clear LA3 LB3 L23 M23 B3 s4
  have s5 : w4.Since w4.heap.size (w4.alloc (.cells #[.bool false, .slice (some ⟨g4, 0, none⟩) n4 c4, .slice (some ⟨h4, 0, none⟩) 1 1] 25)) := (World.Since.refl _ _).alloc (Nat.le_refl _) _
  have E5 := Box3.new w4 (.bool false) (.slice (some ⟨g4, 0, none⟩) n4 c4) (.slice (some ⟨h4, 0, none⟩) 1 1) 25
  have S5 := S4.trans (sinceMono s5 S4.size)
  have LA5 := LA4.keep s5
  have LB5 := LB4.keep s5
  have L25 := L24.keep s5
  have M25 := M24.keep s5
  have L45 := L4.keep s5
  have M45 := M4.keep s5
  have B5 := B4.keep s5
  have hp34 := B4.lt
  go_wp2_with fail
  generalize w4.alloc (.cells #[.bool false, .slice (some ⟨g4, 0, none⟩) n4 c4, .slice (some ⟨h4, 0, none⟩) 1 1] 25) = w5 at *
  generalize hc5 : w4.heap.size = p5 at *
  clear LA4 LB4 L24 M24 L4 M4 B4 s5
  rcases Nat.eq_zero_or_pos (lv B nb) with hB | hB
  · refine (implNatDivMod_zero aa ab na ca gb 0 nb cb B w5 (by omega) kb1 LB5 hB).mono ?_
    rintro e w6 ⟨rfl, s6⟩
    have hn4 : n4 = 0 := (lv_zero t4).2 (e4.trans hB)
    subst hn4
    have S6 : w.Since w.heap.size w6 := S5.trans (sinceMono s6 S5.size)
    have LA6 := LA5.keep s6
    have LB6 := LB5.keep s6
    have B6 := B5.keep s6
    have E6 := E5.keep s6
    have i1 := E6.c1
    have i2 := B6.c1
    clear LA5 LB5 B5 E5 s6 L25 M25 L45 M45
    go_wp2_with fail
    refine (implNatGcd_any aa ab ga 0 na ca gb 0 nb cb A B w6 (Nat.lt_of_lt_of_le hw S6.size) (by omega) (by omega) ka1 kb1 ka3 kb3 LA6 LB6 lA lB (hT.stay hw S6)).mono ?_
    rintro e wG ⟨v, rfl, ⟨ag, gg, ng, cg, G, rfl, kg1, kg2, LG, kg3, -, lG, tG, eG⟩, sG⟩
    have SG : w.Since w.heap.size wG := S6.trans (sinceMono sG S6.size)
    have LAG := LA6.keep sG
    have LBG := LB6.keep sG
    have BG := B6.keep sG
    have EG := E6.keep sG
    have j1 := BG.c1
    have j2 := EG.c1
    clear sG
    by_cases z1 : n2 = 0
    · have x1 : lv A na = 0 := by rw [← e2, z1]; rfl
      rw [x1, hB, Nat.gcd_zero_left] at eG
      have x3 : ng = 0 := (lv_zero tG).2 eG
      subst z1 x3
      clear eG e2 e4 x1
      go_wp2
      go_ret
      exact ⟨rfl, SG⟩
    · have hpos : 0 < Nat.gcd (lv A na) (lv B nb) := Nat.gcd_pos_of_pos_left _ (by
        rcases Nat.eq_zero_or_pos (lv A na) with h | h
        · exact absurd ((lv_zero t2).2 (e2.trans h)) z1
        · exact h)
      have h2f : ((n2 : Int) == 0) = false := by simp; omega
      clear e2 e4 t2 t4 z1
      have hG0 : 0 < lv G ng := by rw [eG]; exact hpos
      have hng : 0 < ng := by
        rcases Nat.eq_zero_or_pos ng with h | h
        · subst h; simp [lv] at hG0
        · exact h
      have hng2 : ng ≤ 64 := by
        rcases Nat.eq_zero_or_pos (lv A na) with h | h
        · have := lv_len_le (X := G) (Y := B) (n := ng) (m := nb) lB tG (by rw [eG, h, Nat.gcd_zero_left]; exact Nat.le_refl _)
          omega
        · have := lv_len_le (X := G) (Y := A) (n := ng) (m := na) lA tG (by rw [eG]; exact Nat.gcd_le_left _ h)
          omega
      have JA := implNatDivMod_any aa ag ga na ca gg ng cg A G wG (by omega) (by omega) ka1 kg1 ka3 LAG LG lA lG hG0
      rw [eG, Nat.mod_eq_zero_of_dvd (Nat.gcd_dvd_left _ _)] at JA
      have HG := hide eG
      have HG0 := hide hG0
      have HP := hide hpos
      have hgf : ((ng : Int) == 0) = false := by simp; omega
      clear eG hG0 hpos
      go_wp2_with fail
      refine JA.mono ?_
      rintro e wH ⟨vp, vu, gp, gu, rfl, Np, Nu, kp1, kp2, -, sH⟩
      obtain ⟨ap, np, cp, Pp, rfl, q1, q2, q3, Lp, -, lp, tp, ep⟩ := Np
      obtain ⟨au, nu, cu, Pu, rfl, -, -, -, -, -, -, tu, eu⟩ := Nu
      have hu0 : nu = 0 := (lv_zero tu).2 eu
      subst hu0
      have SH : w.Since w.heap.size wH := SG.trans (sinceMono sH SG.size)
      have LBH := LBG.keep sH
      have LGH := LG.keep sH
      have JB := implNatDivMod_any ab ag gb nb cb gg ng cg B G wH (by omega) (by omega) kb1 kg1 kb3 LBH LGH lB lG HG0.out
      rw [HG.out, Nat.mod_eq_zero_of_dvd (Nat.gcd_dvd_right _ _)] at JB
      have Ep := hide ep
      clear JA ep eu tu sH
      go_wp2_with fail
      refine JB.mono ?_
      rintro e wI ⟨vs, vv, gs, gv, rfl, Ns, Nv, ks1, ks2, -, sI⟩
      obtain ⟨as1, ns, cs, Ps, rfl, r1, r2, r3, Ls, -, ls, ts, es⟩ := Ns
      obtain ⟨av, nv, cv, Pv, rfl, -, -, -, -, -, -, tv, ev⟩ := Nv
      have hv0 : nv = 0 := (lv_zero tv).2 ev
      subst hv0
      have SI : w.Since w.heap.size wI := SH.trans (sinceMono sI SH.size)
      have JC := implNatGcd_any ap as1 gp 0 np cp gs 0 ns cs Pp Ps wI (Nat.lt_of_lt_of_le hw SI.size) (by omega) (by omega) q1 r1 q3 r3 (Lp.keep sI) Ls lp ls (hT.stay hw SI)
      rw [Ep.out, es, gcd_quot HP.out] at JC
      clear JB es ev tv sI
      go_wp2_with fail
      refine JC.mono ?_
      rintro e wJ ⟨v, rfl, ⟨ao, go, no, co, O, rfl, ko1, ko2, LO, ko3, -, lO, tO, eO⟩, sJ⟩
      obtain ⟨hno, hO0⟩ := lv_one lO tO eO
      subst hno
      obtain ⟨rfl, cO⟩ := LO 0 (by omega)
      rw [hO0, Nat.zero_add] at cO
      have SJ : w.Since w.heap.size wJ := SI.trans (sinceMono sJ SI.size)
      clear JC eO LO
      go_wp2
      go_ret
      exact ⟨rfl, SJ⟩
  · refine (implNatDivMod_any aa ab ga na ca gb nb cb A B w5 (by omega) (by omega) ka1 kb1 ka3 LA5 LB5 lA lB hB).mono ?_
    rintro e w6 ⟨vq, vr, gq, gr, rfl, Nq, Nr, k61, k62, -, s6⟩
    obtain ⟨aq, mq, cq, Q, rfl, kq1, kq2, kq3, Lq6, -, lq, tq, eq⟩ := Nq
    obtain ⟨ar, mr, cr, Rr, rfl, kr1, kr2, kr3, Lr6, -, lr, tr, er⟩ := Nr
    have hn4 : 0 < n4 := by
      rcases Nat.eq_zero_or_pos n4 with h | h
      · rw [h] at e4; simp [lv] at e4; omega
      · exact h
    have h4g : (0 : Int) < (n4 : Int) := by omega
    have h4f : ((n4 : Int) == 0) = false := by simp; omega
    have S6 : w.Since w.heap.size w6 := S5.trans (sinceMono s6 S5.size)
    have LA6 := LA5.keep s6
    have LB6 := LB5.keep s6
    have B6 := B5.keep s6
    have E6 := E5.keep s6
    have L26 := L25.keep s6
    have M26 := M25.keep s6
    have L46 := L45.keep s6
    have M46 := M45.keep s6
    have i1 := E6.c1
    have EQ := hide eq
    have ER := hide er
    have E2 := hide e2
    have E4 := hide e4
    have HB := hide hB
    clear LA5 LB5 B5 E5 s6 L25 M25 L45 M45 eq er e2 e4 hB
    go_wp2_with fail
    refine (implNatMul_any aq ab gq 0 mq cq gb 0 nb cb Q B w6 (by omega) (by omega) kq1 kb1 Lq6 LB6 lq lB).mono ?_
    rintro e w7 ⟨v, rfl, ⟨am, gm, mm, cm, Pm, rfl, km1, km2, Lm7, km3, -, lm, tm, em⟩, s7⟩
    have S7 : w.Since w.heap.size w7 := S6.trans (sinceMono s7 S6.size)
    have EM := hide em
    clear em
    go_wp2_with fail
    refine (lwWhole_any am gm mm cm Pm w7 (by omega) km1 Lm7 lm).mono ?_
    rintro e w8 ⟨v, rfl, ⟨g8, n8, c8, h8, X8, Y8, rfl, k81, k82, L8, l8, t8, e8, M8, o8⟩, s8⟩
    have S8 : w.Since w.heap.size w8 := S7.trans (sinceMono s8 S7.size)
    have Lr8 := (Lr6.keep s7).keep s8
    have E8' := hide e8
    clear e8
    go_wp2_with fail
    refine (lwWhole_any ar gr mr cr Rr w8 (by omega) kr1 Lr8 lr).mono ?_
    rintro e w9 ⟨v, rfl, ⟨g9, n9, c9, h9, X9, Y9, rfl, k91, k92, L9, l9, t9, e9, M9, o9⟩, s9⟩
    have S9 : w.Since w.heap.size w9 := S8.trans (sinceMono s9 S8.size)
    have R8 := whole_in k81 (L8.keep s9) l8 t8 (M8.keep s9) o8
    have R9 := whole_in k91 L9 l9 t9 M9 o9
    have JA := specRatAdd_ok false false ⟨g8, 0, none⟩ ⟨h8, 0, none⟩ ⟨g9, 0, none⟩ ⟨h9, 0, none⟩ g8 0 n8 c8 h8 0 1 1 g9 0 n9 c9 h9 0 1 1 X8 Y8 X9 Y9 w9 (by omega) R8.1 R9.1 R8.2 R9.2
    rw [lv_at1 o8, lv_at1 o9, E8'.out, e9, EM.out, EQ.out, ER.out, whole_neg, whole_top, Nat.mul_one, Nat.mul_one, Nat.mul_one, Nat.gcd_one_right, Nat.div_one, Nat.div_one, Nat.div_add_mod'] at JA
    clear R8 R9 e9 L8 M8 L9 M9
    go_wp2_with fail
    refine JA.mono ?_
    rintro e wA ⟨v, rfl, ⟨x1, x2, gA, hA, rfl, NA, DA, -, -, -⟩, sA⟩
    have SA : w.Since w.heap.size wA := S9.trans (sinceMono sA S9.size)
    obtain ⟨aA, qA, cA, YA, rfl, -, -, -, LNA, -, lNA, tNA, eNA⟩ := NA
    obtain ⟨aD, qD, cD, YD, rfl, -, -, -, LDA, -, lDA, tDA, eDA⟩ := DA
    obtain ⟨rfl, hY2⟩ := lv_inj lNA l2 tNA t2 (eNA.trans E2.out.symm)
    obtain ⟨rfl, hD0⟩ := lv_one lDA tDA eDA
    have sB := ((s7.trans (sinceMono s8 s7.size)).trans (sinceMono s9 (Nat.le_trans s7.size s8.size))).trans (sinceMono sA (Nat.le_trans s7.size (Nat.le_trans s8.size s9.size)))
    have LAA := LA6.keep sB
    have LBA := LB6.keep sB
    have BA := B6.keep sB
    have EA := E6.keep sB
    have L2A := (L26.keep sB).congr (fun j hj => (hY2 j hj).symm)
    have M2A := (M26.keep sB).congr (Y := YD) (fun j hj => by rw [show j = 0 by omega, o2, hD0])
    have L4A := L46.keep sB
    have M4A := M46.keep sB
    have LrA := Lr6.keep sB
    clear JA eNA eDA LA6 LB6 B6 E6 L26 M26 L46 M46 Lr6 Lr8 sB s7 s8 s9 sA Lm7 Lq6 i1
    have tK : wA.Since wA.heap.size (wA.alloc (.cells #[.bool false, .slice aA qA cA, .slice aD 1 cD] 25)) := (World.Since.refl _ _).alloc (Nat.le_refl _) _
    have KK := Box3.new wA (.bool false) (.slice aA qA cA) (.slice aD 1 cD) 25
    have SK := SA.trans (sinceMono tK SA.size)
    have LAK := LAA.keep tK
    have LBK := LBA.keep tK
    have BK := BA.keep tK
    have EK := EA.keep tK
    have L2K := L2A.keep tK
    have M2K := M2A.keep tK
    have L4K := L4A.keep tK
    have M4K := M4A.keep tK
    have LrK := LrA.keep tK
    have LNK := LNA.keep tK
    have LDK := LDA.keep tK
    go_wp2_with fail
    generalize (wA.alloc (.cells #[.bool false, .slice aA qA cA, .slice aD 1 cD] 25)) = wK at *
    generalize hpK : wA.heap.size = pK at *
    clear LAA LBA BA EA L2A M2A L4A M4A LrA LNA LDA tK hpK
    have kc := And.intro KK.cells (And.intro BK.cells EK.cells)
    have J1 := same_true false aA aD (some ⟨g2, 0, none⟩) (some ⟨h2, 0, none⟩) gA hA g2 h2 qA cA 1 cD c2 1 YA YD wK.drew (by omega) (by omega) LNK LDK L2K M2K
    go_region_held3 (fun w' => w'.cell? ⟨pK, 0, none⟩ = some (.bool false) ∧ w'.cell? ⟨pK, 1, none⟩ = some (.slice aA qA cA) ∧ w'.cell? ⟨pK, 2, none⟩ = some (.slice aD 1 cD) ∧ w'.cell? ⟨p3, 0, none⟩ = some (.bool false) ∧ w'.cell? ⟨p3, 1, none⟩ = some (.slice (some ⟨g2, 0, none⟩) qA c2) ∧ w'.cell? ⟨p3, 2, none⟩ = some (.slice (some ⟨h2, 0, none⟩) 1 1) ∧ w'.cell? ⟨p5, 0, none⟩ = some (.bool false) ∧ w'.cell? ⟨p5, 1, none⟩ = some (.slice (some ⟨g4, 0, none⟩) n4 c4) ∧ w'.cell? ⟨p5, 2, none⟩ = some (.slice (some ⟨h4, 0, none⟩) 1 1)) (go_keep)
      (first
        | (go_at_call 11
           with_reducible refine J1.mono ?_
           rintro e wL ⟨rfl, sL⟩
           have SL : w.Since w.heap.size wL := (since_drew SK).trans (sinceMono sL SK.size)
           have KL := KK.drew.keep sL
           have BL := BK.drew.keep sL
           have EL := EK.drew.keep sL
           have kl := And.intro KL.cells (And.intro BL.cells EL.cells)
           have LAL : Limbs wL aa ga 0 na A := Limbs.keep (w := wK.drew) LAK sL
           have LBL : Limbs wL ab gb 0 nb B := Limbs.keep (w := wK.drew) LBK sL
           have L4L : Limbs wL (some ⟨g4, 0, none⟩) g4 0 n4 X4 := Limbs.keep (w := wK.drew) L4K sL
           have M4L : Limbs wL (some ⟨h4, 0, none⟩) h4 0 1 Y4 := Limbs.keep (w := wK.drew) M4K sL
           have LrL : Limbs wL ar gr 0 mr Rr := Limbs.keep (w := wK.drew) LrK sL
           have J2 := lwWhole_any ar gr mr cr Rr wL (by omega) kr1 LrL lr)
        | (go_at_call 17
           with_reducible refine J2.mono ?_
           rintro e wM ⟨v, rfl, ⟨gM, nM, cM, hM, XM, YM, rfl, kM1, kM2, LM, lM, tM, eM, MM, oM⟩, sM⟩
           have SM : w.Since w.heap.size wM := SL.trans (sinceMono sM SL.size)
           have KM := KL.keep sM
           have BM := BL.keep sM
           have EM2 := EL.keep sM
           have km := And.intro KM.cells (And.intro BM.cells EM2.cells)
           have LAM := LAL.keep sM
           have LBM := LBL.keep sM
           have RM := whole_in kM1 LM lM tM MM oM
           have R4 := whole_in k41 (L4L.keep sM) l4 t4 (M4L.keep sM) o4
           have J3 := specRatCmp_ok false false ⟨gM, 0, none⟩ ⟨hM, 0, none⟩ ⟨g4, 0, none⟩ ⟨h4, 0, none⟩ gM 0 nM cM hM 0 1 1 g4 0 n4 c4 h4 0 1 1 XM YM X4 Y4 wM (by omega) RM.1 R4.1 RM.2 R4.2
           rw [lv_at1 oM, lv_at1 o4, eM, E4.out, ER.out, Nat.mul_one, Nat.mul_one, cmp_mod HB.out] at J3)
        | (go_at_call 13
           with_reducible refine J3.mono ?_
           rintro e wN ⟨rfl, sN⟩
           have SN : w.Since w.heap.size wN := SM.trans (sinceMono sN SM.size)
           have KN := KM.keep sN
           have BN := BM.keep sN
           have EN := EM2.keep sN
           have kn := And.intro KN.cells (And.intro BN.cells EN.cells)
           have LAN := LAM.keep sN
           have LBN := LBM.keep sN))
    clear J1 J2 J3 SL SM KL BL EL KM BM EM2 kl km LAL LBL L4L M4L LrL LAM LBM sL sM sN kc kn KK BK EK LAK LBK L2K M2K L4K M4K LrK LNK LDK RM R4 LM MM eM
    go_wp2_with fail
    refine (implNatGcd_any aa ab ga 0 na ca gb 0 nb cb A B wN (Nat.lt_of_lt_of_le hw SN.size) (by omega) (by omega) ka1 kb1 ka3 kb3 LAN LBN lA lB (hT.stay hw SN)).mono ?_
    rintro e wG ⟨v, rfl, ⟨ag, gg, ng, cg, G, rfl, kg1, kg2, LG, kg3, -, lG, tG, eG⟩, sG⟩
    have SG : w.Since w.heap.size wG := SN.trans (sinceMono sG SN.size)
    have LAG := LAN.keep sG
    have LBG := LBN.keep sG
    have BG := BN.keep sG
    have EG := EN.keep sG
    have j1 := BG.c1
    have j2 := EG.c1
    clear sG
    have hpos : 0 < Nat.gcd (lv A na) (lv B nb) := Nat.gcd_pos_of_pos_right _ HB.out
    have hG0 : 0 < lv G ng := by rw [eG]; exact hpos
    have hng : 0 < ng := by
      rcases Nat.eq_zero_or_pos ng with h | h
      · subst h; simp [lv] at hG0
      · exact h
    have hng2 : ng ≤ 64 := by
      rcases Nat.eq_zero_or_pos (lv A na) with h | h
      · have := lv_len_le (X := G) (Y := B) (n := ng) (m := nb) lB tG (by rw [eG, h, Nat.gcd_zero_left]; exact Nat.le_refl _)
        omega
      · have := lv_len_le (X := G) (Y := A) (n := ng) (m := na) lA tG (by rw [eG]; exact Nat.gcd_le_left _ h)
        omega
    have JA := implNatDivMod_any aa ag ga na ca gg ng cg A G wG (by omega) (by omega) ka1 kg1 ka3 LAG LG lA lG hG0
    rw [eG, Nat.mod_eq_zero_of_dvd (Nat.gcd_dvd_left _ _)] at JA
    have HG := hide eG
    have HG0 := hide hG0
    have HP := hide hpos
    have hgf : ((ng : Int) == 0) = false := by simp; omega
    clear eG hG0 hpos
    rcases Nat.eq_zero_or_pos qA with hq0 | hq0
    · subst hq0
      go_wp2_with fail
      refine JA.mono ?_
      rintro e wH ⟨vp, vu, gp, gu, rfl, Np, Nu, kp1, kp2, -, sH⟩
      obtain ⟨ap, np, cp, Pp, rfl, q1, q2, q3, Lp, -, lp, tp, ep⟩ := Np
      obtain ⟨au, nu, cu, Pu, rfl, -, -, -, -, -, -, tu, eu⟩ := Nu
      have hu0 : nu = 0 := (lv_zero tu).2 eu
      subst hu0
      have SH : w.Since w.heap.size wH := SG.trans (sinceMono sH SG.size)
      have LBH := LBG.keep sH
      have LGH := LG.keep sH
      have JB := implNatDivMod_any ab ag gb nb cb gg ng cg B G wH (by omega) (by omega) kb1 kg1 kb3 LBH LGH lB lG HG0.out
      rw [HG.out, Nat.mod_eq_zero_of_dvd (Nat.gcd_dvd_right _ _)] at JB
      have Ep := hide ep
      clear JA ep eu tu sH
      go_wp2_with fail
      refine JB.mono ?_
      rintro e wI ⟨vs, vv, gs, gv, rfl, Ns, Nv, ks1, ks2, -, sI⟩
      obtain ⟨as1, ns, cs, Ps, rfl, r1, r2, r3, Ls, -, ls, ts, es⟩ := Ns
      obtain ⟨av, nv, cv, Pv, rfl, -, -, -, -, -, -, tv, ev⟩ := Nv
      have hv0 : nv = 0 := (lv_zero tv).2 ev
      subst hv0
      have SI : w.Since w.heap.size wI := SH.trans (sinceMono sI SH.size)
      have JC := implNatGcd_any ap as1 gp 0 np cp gs 0 ns cs Pp Ps wI (Nat.lt_of_lt_of_le hw SI.size) (by omega) (by omega) q1 r1 q3 r3 (Lp.keep sI) Ls lp ls (hT.stay hw SI)
      rw [Ep.out, es, gcd_quot HP.out] at JC
      clear JB es ev tv sI
      go_wp2_with fail
      refine JC.mono ?_
      rintro e wJ ⟨v, rfl, ⟨ao, go, no, co, O, rfl, ko1, ko2, LO, ko3, -, lO, tO, eO⟩, sJ⟩
      obtain ⟨hno, hO0⟩ := lv_one lO tO eO
      subst hno
      obtain ⟨rfl, cO⟩ := LO 0 (by omega)
      rw [hO0, Nat.zero_add] at cO
      have SJ : w.Since w.heap.size wJ := SI.trans (sinceMono sJ SI.size)
      clear JC eO LO
      go_wp2
      go_ret
      exact ⟨rfl, SJ⟩
    · have h2f : ((qA : Int) == 0) = false := by simp; omega
      go_wp2_with fail
      refine JA.mono ?_
      rintro e wH ⟨vp, vu, gp, gu, rfl, Np, Nu, kp1, kp2, -, sH⟩
      obtain ⟨ap, np, cp, Pp, rfl, q1, q2, q3, Lp, -, lp, tp, ep⟩ := Np
      obtain ⟨au, nu, cu, Pu, rfl, -, -, -, -, -, -, tu, eu⟩ := Nu
      have hu0 : nu = 0 := (lv_zero tu).2 eu
      subst hu0
      have SH : w.Since w.heap.size wH := SG.trans (sinceMono sH SG.size)
      have LBH := LBG.keep sH
      have LGH := LG.keep sH
      have JB := implNatDivMod_any ab ag gb nb cb gg ng cg B G wH (by omega) (by omega) kb1 kg1 kb3 LBH LGH lB lG HG0.out
      rw [HG.out, Nat.mod_eq_zero_of_dvd (Nat.gcd_dvd_right _ _)] at JB
      have Ep := hide ep
      clear JA ep eu tu sH
      go_wp2_with fail
      refine JB.mono ?_
      rintro e wI ⟨vs, vv, gs, gv, rfl, Ns, Nv, ks1, ks2, -, sI⟩
      obtain ⟨as1, ns, cs, Ps, rfl, r1, r2, r3, Ls, -, ls, ts, es⟩ := Ns
      obtain ⟨av, nv, cv, Pv, rfl, -, -, -, -, -, -, tv, ev⟩ := Nv
      have hv0 : nv = 0 := (lv_zero tv).2 ev
      subst hv0
      have SI : w.Since w.heap.size wI := SH.trans (sinceMono sI SH.size)
      have JC := implNatGcd_any ap as1 gp 0 np cp gs 0 ns cs Pp Ps wI (Nat.lt_of_lt_of_le hw SI.size) (by omega) (by omega) q1 r1 q3 r3 (Lp.keep sI) Ls lp ls (hT.stay hw SI)
      rw [Ep.out, es, gcd_quot HP.out] at JC
      clear JB es ev tv sI
      go_wp2_with fail
      refine JC.mono ?_
      rintro e wJ ⟨v, rfl, ⟨ao, go, no, co, O, rfl, ko1, ko2, LO, ko3, -, lO, tO, eO⟩, sJ⟩
      obtain ⟨hno, hO0⟩ := lv_one lO tO eO
      subst hno
      obtain ⟨rfl, cO⟩ := LO 0 (by omega)
      rw [hO0, Nat.zero_add] at cO
      have SJ : w.Since w.heap.size wJ := SI.trans (sinceMono sJ SI.size)
      clear JC eO LO
      go_wp2
      go_ret
      exact ⟨rfl, SJ⟩


end Go.Proofs.YtklkohdcilnchaaDoor
