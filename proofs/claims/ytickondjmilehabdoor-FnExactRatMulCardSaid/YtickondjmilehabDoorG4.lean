import Derived.Test.YtickondjmilehabDoorG3
import Derived.Test.YtickondjmilehabDoorUB
namespace Go.Proofs.YtickondjmilehabDoor
open Go.RowKit

/-- What becomeGcd and becomeOddGcd hold in hand: two boxes c, d, in each a natural on memory of its own; all of it lies from 'base' on, and below 'base' all is as it was. -/
structure Gd (base : Nat) (w wr : World) (c d gn gm : Nat) (an am : Option Addr) (n m cn cm : Nat) (X Y : Nat → Nat) : Prop where
  S : w.Since base wr
  bC : wr.cell? ⟨c, 0, none⟩ = some (.slice an n cn)
  bD : wr.cell? ⟨d, 0, none⟩ = some (.slice am m cm)
  fC : wr.frozen? ⟨c, 0, none⟩ = false
  fD : wr.frozen? ⟨d, 0, none⟩ = false
  LX : Limbs wr an gn 0 n X
  LY : Limbs wr am gm 0 m Y
  FX : 0 < n → ∀ x, wr.frozen? ⟨gn, x, none⟩ = false
  FY : 0 < m → ∀ x, wr.frozen? ⟨gm, x, none⟩ = false
  nX : n ≤ cn
  nY : m ≤ cm
  oX : an = none → cn = 0
  oY : am = none → cm = 0
  lX : ∀ j, j < n → X j < 4294967296
  lY : ∀ j, j < m → Y j < 4294967296
  pX : 0 < n → X (n - 1) ≠ 0
  pY : 0 < m → Y (m - 1) ≠ 0
  hc : base ≤ c
  hd : base ≤ d
  hn : base ≤ gn
  hm : base ≤ gm
  d1 : c ≠ d
  d2 : gn ≠ gm
  d3 : gn ≠ c
  d4 : gn ≠ d
  d5 : gm ≠ c
  d6 : gm ≠ d

section
variable {base : Nat} {w wr wr' : World} {c d gn gm : Nat} {an am : Option Addr} {n m cn cm : Nat} {X Y : Nat → Nat}

theorem Gd.same (h : Gd base w wr c d gn gm an am n m cn cm X Y) (s : Same wr wr') : Gd base w wr' c d gn gm an am n m cn cm X Y :=
  ⟨h.S.trans (s.since _), by rw [s.cell]; exact h.bC, by rw [s.cell]; exact h.bD, by rw [s.frozen]; exact h.fC, by rw [s.frozen]; exact h.fD, h.LX.same s, h.LY.same s, fun a x => by rw [s.frozen]; exact h.FX a x, fun a x => by rw [s.frozen]; exact h.FY a x,
    h.nX, h.nY, h.oX, h.oY, h.lX, h.lY, h.pX, h.pY, h.hc, h.hd, h.hn, h.hm, h.d1, h.d2, h.d3, h.d4, h.d5, h.d6⟩

theorem cellO {w : World} {a b : Addr} {v : Value} (h : a.block ≠ b.block) : (w.setCell a v).cell? b = w.cell? b := World.cell?_setCell_other _ _ _ _ (fun e => h (congrArg Addr.block e))

/-- The two boxes are exchanged. -/
theorem Gd.swap (h : Gd base w wr c d gn gm an am n m cn cm X Y) : Gd base w ((wr.setCell ⟨c, 0, none⟩ (.slice am m cm)).setCell ⟨d, 0, none⟩ (.slice an n cn)) c d gm gn am an m n cm cn Y X := by
  have k1 := h.d1; have k2 := h.d3; have k3 := h.d4; have k4 := h.d5; have k5 := h.d6
  refine ⟨(h.S.setCell h.hc _).setCell h.hd _, ?_, ?_, by simp [h.fC], by simp [h.fD], (h.LY.setOther (Ne.symm k4) _).setOther (Ne.symm k5) _, (h.LX.setOther (Ne.symm k2) _).setOther (Ne.symm k3) _, fun a x => by simp [h.FY a x], fun a x => by simp [h.FX a x],
    h.nY, h.nX, h.oY, h.oX, h.lY, h.lX, h.pY, h.pX, h.hc, h.hd, h.hm, h.hn, h.d1, Ne.symm h.d2, h.d5, h.d6, h.d3, h.d4⟩
  · rw [cellO (by show d ≠ c; exact Ne.symm k1)]; exact World.cell?_setCell_same _ _ _ h.bC
  · refine World.cell?_setCell_same _ _ _ (u := .slice am m cm) ?_
    rw [cellO (by show c ≠ d; exact k1)]; exact h.bD

/-- The second number is worked on in place. -/
theorem Gd.setD (h : Gd base w wr c d gn gm an am n m cn cm X Y) {w2 : World} {k : Nat} {V : Nat → Nat} (mk : Marked wr w2 gm) (L : Limbs w2 am gm 0 k V) (hk : k ≤ m) (l : ∀ j, j < k → V j < 4294967296) :
    Gd base w (w2.setCell ⟨d, 0, none⟩ (.slice am (tlen (nz V) k) cm)) c d gn gm an am n (tlen (nz V) k) cn cm X V := by
  have k1 := h.d1; have k2 := h.d3; have k3 := h.d4; have k4 := h.d5; have k5 := h.d6; have k6 := h.d2
  have t := tlen_le (nz V) k
  have hD : w2.cell? ⟨d, 0, none⟩ = some (.slice am m cm) := by rw [mk.cell (a := ⟨d, 0, none⟩) (Ne.symm k5)]; exact h.bD
  refine ⟨(h.S.trans (mk.since h.hm)).setCell h.hd _, ?_, World.cell?_setCell_same _ _ _ hD, ?_, ?_, (h.LX.marked mk (fun _ => k6)).setOther (Ne.symm k3) _, (L.take t).setOther (Ne.symm k5) _, fun a x => ?_, fun a x => ?_, h.nX, by have := h.nY; omega, h.oX, h.oY, h.lX, fun j hj => l j (by omega), h.pX, fun a => ?_,
    h.hc, h.hd, h.hn, h.hm, h.d1, h.d2, h.d3, h.d4, h.d5, h.d6⟩
  · rw [cellO (by show d ≠ c; exact Ne.symm k1), mk.cell (a := ⟨c, 0, none⟩) (Ne.symm k4)]; exact h.bC
  · simp [mk.frozenO (a := ⟨c, 0, none⟩) (Ne.symm k4), h.fC]
  · simp [mk.frozenO (a := ⟨d, 0, none⟩) (Ne.symm k5), h.fD]
  · simp [mk.frozenO (a := ⟨gn, x, none⟩) k6, h.FX a x]
  · simp [mk.frozen, h.FY (by omega) x]
  · have := tlen_top _ _ a; simpa [nz] using this

/-- The first number is worked on in place. -/
theorem Gd.setC (h : Gd base w wr c d gn gm an am n m cn cm X Y) {w2 : World} {k : Nat} {V : Nat → Nat} (mk : Marked wr w2 gn) (L : Limbs w2 an gn 0 k V) (hk : k ≤ n) (l : ∀ j, j < k → V j < 4294967296) :
    Gd base w (w2.setCell ⟨c, 0, none⟩ (.slice an (tlen (nz V) k) cn)) c d gn gm an am (tlen (nz V) k) m cn cm V Y := by
  have k1 := h.d1; have k2 := h.d3; have k3 := h.d4; have k4 := h.d5; have k5 := h.d6; have k6 := h.d2
  have t := tlen_le (nz V) k
  have hC : w2.cell? ⟨c, 0, none⟩ = some (.slice an n cn) := by rw [mk.cell (a := ⟨c, 0, none⟩) (Ne.symm k2)]; exact h.bC
  refine ⟨(h.S.trans (mk.since h.hn)).setCell h.hc _, World.cell?_setCell_same _ _ _ hC, ?_, ?_, ?_, (L.take t).setOther (Ne.symm k2) _, (h.LY.marked mk (fun _ => Ne.symm k6)).setOther (Ne.symm k4) _, fun a x => ?_, fun a x => ?_, by have := h.nX; omega, h.nY, h.oX, h.oY, fun j hj => l j (by omega), h.lY, fun a => ?_, h.pY,
    h.hc, h.hd, h.hn, h.hm, h.d1, h.d2, h.d3, h.d4, h.d5, h.d6⟩
  · rw [cellO (by show c ≠ d; exact k1), mk.cell (a := ⟨d, 0, none⟩) (Ne.symm k3)]; exact h.bD
  · simp [mk.frozenO (a := ⟨c, 0, none⟩) (Ne.symm k2), h.fC]
  · simp [mk.frozenO (a := ⟨d, 0, none⟩) (Ne.symm k3), h.fD]
  · simp [mk.frozen, h.FX (by omega) x]
  · simp [mk.frozenO (a := ⟨gm, x, none⟩) (Ne.symm k6), h.FY a x]
  · have := tlen_top _ _ a; simpa [nz] using this
end

theorem Same.drew {w w' : World} (h : Same w w') : Same w w'.drew := ⟨h.os, h.tape, h.output, h.heap⟩

theorem isShort_yes (c o : Nat) (a : Option Addr) (n cap : Nat) (w : World) (hn : n ≤ 2) (hc0 : w.cell? ⟨c, o, none⟩ = some (.slice a n cap)) :
    Calls Tryd.prog 76 #[.pointer (some ⟨c, o, none⟩)] w fun e w' => e = .returned (.bool true) ∧ w' = w := by
  have h := isShort_any c o a n cap w hc0
  rw [show decide ((n : Int) ≤ 2) = true by simp; omega] at h
  exact h

theorem isShort_no (c o : Nat) (a : Option Addr) (n cap : Nat) (w : World) (hn : 2 < n) (hc0 : w.cell? ⟨c, o, none⟩ = some (.slice a n cap)) :
    Calls Tryd.prog 76 #[.pointer (some ⟨c, o, none⟩)] w fun e w' => e = .returned (.bool false) ∧ w' = w := by
  have h := isShort_any c o a n cap w hc0
  rw [show decide ((n : Int) ≤ 2) = false by simp; omega] at h
  exact h

theorem Tab.since {w w' : World} {B : Nat} (h : Tab w) (s : w.Since B w') (hB : 1 < B) : Tab w' := fun j hj => by rw [s.cell (a := ⟨1, j, none⟩) hB]; exact h j hj

theorem lv_pos_len {X : Nat → Nat} {n : Nat} (h : 0 < lv X n) : 0 < n := by
  by_cases e : n = 0
  · subst e; simp [lv] at h
  · omega

theorem limbs_some {w : World} {a : Option Addr} {b off n : Nat} {X : Nat → Nat} (h : Limbs w a b off n X) (hn : 0 < n) : a = some ⟨b, off, none⟩ := (h 0 hn).1

theorem short_lt {X : Nat → Nat} {n : Nat} (hn : n ≤ 2) (h : ∀ j, j < n → X j < 4294967296) : lv X n < 18446744073709551616 := by
  have h1 := lv_lt X n h
  have h2 : 2 ^ (32 * n) ≤ 2 ^ 64 := Nat.pow_le_pow_right (by omega) (by omega)
  omega

set_option maxHeartbeats 6400000 in
set_option maxRecDepth 100000 in
theorem becomeOddGcd_any (base c d gn gm : Nat) (an am : Option Addr) (n m cn cm : Nat) (X Y : Nat → Nat) (w0 w : World) (hb : 1 < base) (hn : n ≤ 2097152) (hm : m ≤ 2097152) (hG : Gd base w0 w c d gn gm an am n m cn cm X Y) (oX : lv X n % 2 = 1) (oY : lv Y m % 2 = 1) (hT : Tab w0) :
    Calls Tryd.prog 106 #[.pointer (some ⟨c, 0, none⟩), .pointer (some ⟨d, 0, none⟩)] w fun e w' => e = .returned (.tuple #[]) ∧ ∃ a g k cp Z, w'.cell? ⟨c, 0, none⟩ = some (.slice a k cp) ∧ k ≤ cp ∧ k ≤ 2097152 ∧ (a = none → cp = 0) ∧ Limbs w' a g 0 k Z ∧ (0 < k → ∀ x, w'.frozen? ⟨g, x, none⟩ = false) ∧
      (∀ j, j < k → Z j < 4294967296) ∧ (0 < k → Z (k - 1) ≠ 0) ∧ lv Z k = Nat.gcd (lv X n) (lv Y m) ∧ base ≤ g ∧ g ≠ c ∧ w'.frozen? ⟨c, 0, none⟩ = false ∧ w0.Since base w' := by
  obtain ⟨G, hGe⟩ : ∃ G, G = Nat.gcd (lv X n) (lv Y m) := ⟨_, rfl⟩
  have HG := hide hGe
  rw [← hGe]
  clear hGe
  have OX := hide oX
  have OY := hide oY
  clear oX oY
  go_enter Tryd.func106, Tryd.ntmps106
  go_wp2
  go_loopg [] (lv X n + lv Y m) (fun g wr => ∃ (gn gm : Nat) (an am : Option Addr) (n m cn cm : Nat) (X Y : Nat → Nat), Hid (g = lv X n + lv Y m) ∧ Gd base w0 wr c d gn gm an am n m cn cm X Y ∧ n ≤ 2097152 ∧ m ≤ 2097152 ∧ Hid (lv X n % 2 = 1) ∧ Hid (lv Y m % 2 = 1) ∧ Hid (G = Nat.gcd (lv X n) (lv Y m)))
  case atStart => exact ⟨gn, gm, an, am, n, m, cn, cm, X, Y, rfl, hG, hn, hm, OX, OY, HG⟩
  case round =>
    clear hG hn hm OX OY HG
    obtain ⟨gn, gm, an, am, n, m, cn, cm, X, Y, Hg, hG, hn, hm, OX, OY, HG⟩ := hrel
    have b1 := hG.bC
    have b2 := hG.bD
    by_cases hsh : n ≤ 2 ∧ m ≤ 2
    · obtain ⟨h1, h2⟩ := hsh
      have n1 := short_lt h1 hG.lX
      have n2 := short_lt h2 hG.lY
      go_wp2_with fail
      refine (isShort_yes c 0 an n cn _ h1 b1).mono ?_
      rintro e w2 ⟨rfl, rfl⟩
      go_wp2_with fail
      refine (isShort_yes d 0 am m cm _ h2 b2).mono ?_
      rintro e w3 ⟨rfl, rfl⟩
      go_wp2_with fail
      refine (short_any c 0 an gn 0 n cn X _ h1 b1 hG.LX hG.lX).mono ?_
      rintro e w4 ⟨rfl, rfl⟩
      go_wp2_with fail
      refine (short_any d 0 am gm 0 m cm Y _ h2 b2 hG.LY hG.lY).mono ?_
      rintro e w5 ⟨rfl, rfl⟩
      go_wp2_with fail
      refine (shortGcd_any (lv X n) (lv Y m) _ n1 n2).mono ?_
      rintro e w6 ⟨rfl, s6⟩
      have hG := hG.same s6
      have hgl : Nat.gcd (lv X n) (lv Y m) < 18446744073709551616 := by
        have := OX.out
        have := Nat.gcd_le_left (lv Y m) (show 0 < lv X n by omega)
        omega
      clear s6 b1 b2
      rw [← HG.out] at hgl ⊢
      go_wp2_with fail
      refine (natOfShort_any G _ hgl).mono ?_
      rintro e w7 ⟨S, rfl, r7, hS7, v7, s7⟩
      have HV7 := hide v7
      have q1 : w7.cell? ⟨c, 0, none⟩ = some (.slice an n cn) := by rw [s7.cell (a := ⟨c, 0, none⟩) (World.block_lt_of_cell? _ _ hG.bC)]; exact hG.bC
      have q2 : w7.frozen? ⟨c, 0, none⟩ = false := by rw [s7.frozen (a := ⟨c, 0, none⟩) (World.block_lt_of_cell? _ _ hG.bC)]; exact hG.fC
      have zc := World.block_lt_of_cell? _ _ hG.bC
      have z6 := hG.S.size
      have hbs : base ≤ w6.heap.size := by have h1 := hG.hc; have h2 : c < w6.heap.size := zc; omega
      have S7 : w0.Since base w7 := hG.S.trans (sinceMono s7 hbs)
      have hcb := hG.hc
      clear v7 hG s7 HG
      have zc' : c < w6.heap.size := zc
      go_wp2
      go_end0
      have t1 := tlen_le (nz S) 2
      refine ⟨rfl, _, w6.heap.size, _, _, S, World.cell?_setCell_same _ _ _ q1, t1, by omega, fun h => (by cases h), ((limbs_row r7).take t1).setOther (by omega) _, fun _ x => by simp [r7.frozen x], fun j _ => hS7 j, fun h => ?_, (lv_tlen _ _).trans HV7.out, hbs, by omega, by simp [q2], S7.setCell hcb _⟩
      have := tlen_top _ _ h; simpa [nz] using this
    · by_cases h2 : 2 < n
      · go_wp2_with fail
        refine (isShort_no c 0 an n cn _ h2 b1).mono ?_
        rintro e w2 ⟨rfl, rfl⟩
        go_wp2_with fail
        refine (compare_any c 0 an am gn 0 n cn gm 0 m cm X Y _ (by omega) (by omega) b1 hG.LX hG.LY hG.lX hG.lY hG.pX hG.pY).mono ?_
        rintro e w2 ⟨rfl, s2⟩
        have hG := hG.same s2
        clear s2 b1 b2
        have b1 := hG.bC
        have b2 := hG.bD
        by_cases hgt : lv Y m < lv X n
        · have hc := cmpN_gt hgt
          have hci : 0 < cmpN (lv X n) (lv Y m) := by rw [hc]; decide
          have HLE : Hid (lv Y m ≤ lv X n) := Nat.le_of_lt hgt
          have HG' : Hid (G = Nat.gcd (lv Y m) (lv X n)) := by rw [Nat.gcd_comm]; exact HG
          have Hg : Hid (gk = lv Y m + lv X n) := by have := Hg.out; show gk = _; omega
          clear hc hgt HG
          generalize cmpN (lv X n) (lv Y m) = z at *
          have f1 := hG.fC
          have f2 := hG.fD
          have d1 := hG.d1
          have hG := hG.swap.same (Same.refl _).drew
          have OX' := OY
          have OY' := OX
          have hn' := hm
          go_wp2
          go_region
          clear b1 b2 f1 f2 d1
          generalize ((w2.setCell ⟨c, 0, none⟩ (.slice am m cm)).setCell ⟨d, 0, none⟩ (.slice an n cn)).drew = w4 at *
          obtain ⟨X', e0⟩ : ∃ x, x = Y := ⟨_, rfl⟩
          obtain ⟨Y', e1⟩ : ∃ x, x = X := ⟨_, rfl⟩
          obtain ⟨n', e2⟩ : ∃ x, x = m := ⟨_, rfl⟩
          obtain ⟨m', e3⟩ : ∃ x, x = n := ⟨_, rfl⟩
          obtain ⟨an', e4⟩ : ∃ x, x = am := ⟨_, rfl⟩
          obtain ⟨am', e5⟩ : ∃ x, x = an := ⟨_, rfl⟩
          obtain ⟨gn', e6⟩ : ∃ x, x = gm := ⟨_, rfl⟩
          obtain ⟨gm', e7⟩ : ∃ x, x = gn := ⟨_, rfl⟩
          obtain ⟨cn', e8⟩ : ∃ x, x = cm := ⟨_, rfl⟩
          obtain ⟨cm', e9⟩ : ∃ x, x = cn := ⟨_, rfl⟩
          subst e0 e1 e2 e3 e4 e5 e6 e7 e8 e9
          -- the second is the greater: it loses the first
          have g1 := hG.bC
          have g2 := hG.bD
          have hpos : 0 < lv X' n' := by have := OX'.out; omega
          have hposY : 0 < lv Y' m' := by have := OY'.out; omega
          have hn1 := lv_pos_len hpos
          have hm1 := lv_pos_len hposY
          have em := limbs_some hG.LY hm1
          subst em
          have HP := hide (And.intro hpos hposY)
          clear hpos hposY
          go_wp2_with fail
          refine (subtract_any d 0 gm' m' cm' an' gn' 0 n' cn' Y' X' _ (by omega) hG.nY (lv_len_le hG.lY hG.pX HLE.out) g2 hG.fD (hG.FY hm1) (Ne.symm hG.d6) hG.d2 hG.LY hG.LX hG.lY hG.lX HLE.out).mono ?_
          rintro e w5 ⟨rfl, w6, V, mk6, L6, l6, v6, hw5⟩
          have G5 := hG.setD mk6 L6 (Nat.le_refl _) l6
          rw [← hw5] at G5
          have HV6 : Hid (lv V (tlen (nz V) m') = lv Y' m' - lv X' n') := (lv_tlen _ _).trans v6
          have t6 := tlen_le (nz V) m'
          clear hw5 mk6 L6 l6 v6 hG g1 g2
          obtain ⟨t, ht⟩ : ∃ t, t = tlen (nz V) m' := ⟨_, rfl⟩
          rw [← ht] at G5 HV6 t6
          clear ht
          have g1 := G5.bC
          have g2 := G5.bD
          go_wp2_with fail
          refine (isZero_any d 0 _ t cm' _ g2).mono ?_
          rintro e w7 ⟨rfl, rfl⟩
          by_cases hz : t = 0
          · subst hz
            have hEq : lv Y' m' = lv X' n' := by have h1 := HV6.out; have h2 := HLE.out; have h3 : lv V 0 = 0 := rfl; omega
            have HGv : Hid (lv X' n' = G) := by have h := HG'.out; rw [hEq, Nat.gcd_self] at h; exact h.symm
            clear hEq
            go_wp2
            refine bodyPost_ret (results_none rfl _ _ _) rfl ?_
            exact ⟨rfl, an', gn', n', cn', X', G5.bC, G5.nX, hn', G5.oX, G5.LX, G5.FX, G5.lX, G5.pX, HGv.out, G5.hn, G5.d3, G5.fC, G5.S⟩
          · have hne : ((t : Int) == 0) = false := by simp; omega
            have hVp : 0 < lv V t := by
              have := lv_ge V t (by omega) (G5.pY (by omega))
              have := Nat.pow_pos (n := 32 * (t - 1)) (show 0 < 2 by omega)
              omega
            have HVp := hide hVp
            clear hVp
            go_wp2_with fail
            refine (twos_any d 0 _ gm' 0 t cm' V _ (by omega) g2 G5.LY G5.lY HVp.out (hT.since G5.S hb)).mono ?_
            rintro e w8 ⟨i, s, q, rfl, rfl, hi, hs, hvq⟩
            have HQ := hide hvq
            clear hvq
            go_wp2_with fail
            refine (shiftRight_any d 0 gm' t cm' i s V _ (by omega) G5.nY hi hs G5.LY G5.lY g2 G5.fD (G5.FY (by omega)) (Ne.symm G5.d6)).mono ?_
            rintro e w9 ⟨rfl, w10, S, k, mk10, L10, hk, l10, v10, hw9⟩
            have G9 := G5.setD mk10 L10 hk l10
            rw [← hw9] at G9
            have hSq : lv S (tlen (nz S) k) = 2 * q + 1 := by
              rw [lv_tlen, v10, HQ.out, Nat.mul_div_cancel_left _ (Nat.pow_pos (by omega))]
            have HSq := hide hSq
            have t10 := tlen_le (nz S) k
            clear hw9 mk10 L10 l10 v10 hSq
            go_wp2
            go_roundg (lv X' n' + lv S (tlen (nz S) k))
            case measure =>
              have a1 := Hg.out; have a2 := HSq.out; have a3 := HV6.out; have a4 := HP.out; have a5 := HQ.out; have a6 := HLE.out
              have a7 : 1 * (2 * q + 1) ≤ 2 ^ (32 * i + s) * (2 * q + 1) := Nat.mul_le_mul_right _ (Nat.pow_pos (by omega))
              omega
            case rel =>
              refine ⟨gn', gm', an', _, n', _, cn', cm', X', S, rfl, G9, hn', by omega, OX', by rw [HSq.out]; show _ = _; omega, ?_⟩
              have h := HG'.out
              rw [← gcd_sub_right HLE.out, ← HV6.out, HQ.out, gcd_pow2_right OX'.out] at h
              rw [HSq.out]; exact h
        · have hci : cmpN (lv X n) (lv Y m) ≤ 0 := by unfold cmpN; split <;> (try split) <;> omega
          have HLE : Hid (lv X n ≤ lv Y m) := Nat.le_of_not_lt hgt
          have HG' := HG
          clear hgt HG
          generalize cmpN (lv X n) (lv Y m) = z at *
          have OX' := OX
          have OY' := OY
          have hn' := hn
          clear b1 b2
          obtain ⟨X', e0⟩ : ∃ x, x = X := ⟨_, rfl⟩
          obtain ⟨Y', e1⟩ : ∃ x, x = Y := ⟨_, rfl⟩
          obtain ⟨n', e2⟩ : ∃ x, x = n := ⟨_, rfl⟩
          obtain ⟨m', e3⟩ : ∃ x, x = m := ⟨_, rfl⟩
          obtain ⟨an', e4⟩ : ∃ x, x = an := ⟨_, rfl⟩
          obtain ⟨am', e5⟩ : ∃ x, x = am := ⟨_, rfl⟩
          obtain ⟨gn', e6⟩ : ∃ x, x = gn := ⟨_, rfl⟩
          obtain ⟨gm', e7⟩ : ∃ x, x = gm := ⟨_, rfl⟩
          obtain ⟨cn', e8⟩ : ∃ x, x = cn := ⟨_, rfl⟩
          obtain ⟨cm', e9⟩ : ∃ x, x = cm := ⟨_, rfl⟩
          subst e0 e1 e2 e3 e4 e5 e6 e7 e8 e9
          -- the second is the greater: it loses the first
          have g1 := hG.bC
          have g2 := hG.bD
          have hpos : 0 < lv X' n' := by have := OX'.out; omega
          have hposY : 0 < lv Y' m' := by have := OY'.out; omega
          have hn1 := lv_pos_len hpos
          have hm1 := lv_pos_len hposY
          have em := limbs_some hG.LY hm1
          subst em
          have HP := hide (And.intro hpos hposY)
          clear hpos hposY
          go_wp2_with fail
          refine (subtract_any d 0 gm' m' cm' an' gn' 0 n' cn' Y' X' _ (by omega) hG.nY (lv_len_le hG.lY hG.pX HLE.out) g2 hG.fD (hG.FY hm1) (Ne.symm hG.d6) hG.d2 hG.LY hG.LX hG.lY hG.lX HLE.out).mono ?_
          rintro e w5 ⟨rfl, w6, V, mk6, L6, l6, v6, hw5⟩
          have G5 := hG.setD mk6 L6 (Nat.le_refl _) l6
          rw [← hw5] at G5
          have HV6 : Hid (lv V (tlen (nz V) m') = lv Y' m' - lv X' n') := (lv_tlen _ _).trans v6
          have t6 := tlen_le (nz V) m'
          clear hw5 mk6 L6 l6 v6 hG g1 g2
          obtain ⟨t, ht⟩ : ∃ t, t = tlen (nz V) m' := ⟨_, rfl⟩
          rw [← ht] at G5 HV6 t6
          clear ht
          have g1 := G5.bC
          have g2 := G5.bD
          go_wp2_with fail
          refine (isZero_any d 0 _ t cm' _ g2).mono ?_
          rintro e w7 ⟨rfl, rfl⟩
          by_cases hz : t = 0
          · subst hz
            have hEq : lv Y' m' = lv X' n' := by have h1 := HV6.out; have h2 := HLE.out; have h3 : lv V 0 = 0 := rfl; omega
            have HGv : Hid (lv X' n' = G) := by have h := HG'.out; rw [hEq, Nat.gcd_self] at h; exact h.symm
            clear hEq
            go_wp2
            refine bodyPost_ret (results_none rfl _ _ _) rfl ?_
            exact ⟨rfl, an', gn', n', cn', X', G5.bC, G5.nX, hn', G5.oX, G5.LX, G5.FX, G5.lX, G5.pX, HGv.out, G5.hn, G5.d3, G5.fC, G5.S⟩
          · have hne : ((t : Int) == 0) = false := by simp; omega
            have hVp : 0 < lv V t := by
              have := lv_ge V t (by omega) (G5.pY (by omega))
              have := Nat.pow_pos (n := 32 * (t - 1)) (show 0 < 2 by omega)
              omega
            have HVp := hide hVp
            clear hVp
            go_wp2_with fail
            refine (twos_any d 0 _ gm' 0 t cm' V _ (by omega) g2 G5.LY G5.lY HVp.out (hT.since G5.S hb)).mono ?_
            rintro e w8 ⟨i, s, q, rfl, rfl, hi, hs, hvq⟩
            have HQ := hide hvq
            clear hvq
            go_wp2_with fail
            refine (shiftRight_any d 0 gm' t cm' i s V _ (by omega) G5.nY hi hs G5.LY G5.lY g2 G5.fD (G5.FY (by omega)) (Ne.symm G5.d6)).mono ?_
            rintro e w9 ⟨rfl, w10, S, k, mk10, L10, hk, l10, v10, hw9⟩
            have G9 := G5.setD mk10 L10 hk l10
            rw [← hw9] at G9
            have hSq : lv S (tlen (nz S) k) = 2 * q + 1 := by
              rw [lv_tlen, v10, HQ.out, Nat.mul_div_cancel_left _ (Nat.pow_pos (by omega))]
            have HSq := hide hSq
            have t10 := tlen_le (nz S) k
            clear hw9 mk10 L10 l10 v10 hSq
            go_wp2
            go_roundg (lv X' n' + lv S (tlen (nz S) k))
            case measure =>
              have a1 := Hg.out; have a2 := HSq.out; have a3 := HV6.out; have a4 := HP.out; have a5 := HQ.out; have a6 := HLE.out
              have a7 : 1 * (2 * q + 1) ≤ 2 ^ (32 * i + s) * (2 * q + 1) := Nat.mul_le_mul_right _ (Nat.pow_pos (by omega))
              omega
            case rel =>
              refine ⟨gn', gm', an', _, n', _, cn', cm', X', S, rfl, G9, hn', by omega, OX', by rw [HSq.out]; show _ = _; omega, ?_⟩
              have h := HG'.out
              rw [← gcd_sub_right HLE.out, ← HV6.out, HQ.out, gcd_pow2_right OX'.out] at h
              rw [HSq.out]; exact h
      · have h3 : 2 < m := by omega
        go_wp2_with fail
        refine (isShort_yes c 0 an n cn _ (by omega) b1).mono ?_
        rintro e w2 ⟨rfl, rfl⟩
        go_wp2_with fail
        refine (isShort_no d 0 am m cm _ h3 b2).mono ?_
        rintro e w3 ⟨rfl, rfl⟩
        go_wp2_with fail
        refine (compare_any c 0 an am gn 0 n cn gm 0 m cm X Y _ (by omega) (by omega) b1 hG.LX hG.LY hG.lX hG.lY hG.pX hG.pY).mono ?_
        rintro e w2 ⟨rfl, s2⟩
        have hG := hG.same s2
        clear s2 b1 b2
        have b1 := hG.bC
        have b2 := hG.bD
        by_cases hgt : lv Y m < lv X n
        · have hc := cmpN_gt hgt
          have hci : 0 < cmpN (lv X n) (lv Y m) := by rw [hc]; decide
          have HLE : Hid (lv Y m ≤ lv X n) := Nat.le_of_lt hgt
          have HG' : Hid (G = Nat.gcd (lv Y m) (lv X n)) := by rw [Nat.gcd_comm]; exact HG
          have Hg : Hid (gk = lv Y m + lv X n) := by have := Hg.out; show gk = _; omega
          clear hc hgt HG
          generalize cmpN (lv X n) (lv Y m) = z at *
          have f1 := hG.fC
          have f2 := hG.fD
          have d1 := hG.d1
          have hG := hG.swap.same (Same.refl _).drew
          have OX' := OY
          have OY' := OX
          have hn' := hm
          go_wp2
          go_region
          clear b1 b2 f1 f2 d1
          generalize ((w2.setCell ⟨c, 0, none⟩ (.slice am m cm)).setCell ⟨d, 0, none⟩ (.slice an n cn)).drew = w4 at *
          obtain ⟨X', e0⟩ : ∃ x, x = Y := ⟨_, rfl⟩
          obtain ⟨Y', e1⟩ : ∃ x, x = X := ⟨_, rfl⟩
          obtain ⟨n', e2⟩ : ∃ x, x = m := ⟨_, rfl⟩
          obtain ⟨m', e3⟩ : ∃ x, x = n := ⟨_, rfl⟩
          obtain ⟨an', e4⟩ : ∃ x, x = am := ⟨_, rfl⟩
          obtain ⟨am', e5⟩ : ∃ x, x = an := ⟨_, rfl⟩
          obtain ⟨gn', e6⟩ : ∃ x, x = gm := ⟨_, rfl⟩
          obtain ⟨gm', e7⟩ : ∃ x, x = gn := ⟨_, rfl⟩
          obtain ⟨cn', e8⟩ : ∃ x, x = cm := ⟨_, rfl⟩
          obtain ⟨cm', e9⟩ : ∃ x, x = cn := ⟨_, rfl⟩
          subst e0 e1 e2 e3 e4 e5 e6 e7 e8 e9
          -- the second is the greater: it loses the first
          have g1 := hG.bC
          have g2 := hG.bD
          have hpos : 0 < lv X' n' := by have := OX'.out; omega
          have hposY : 0 < lv Y' m' := by have := OY'.out; omega
          have hn1 := lv_pos_len hpos
          have hm1 := lv_pos_len hposY
          have em := limbs_some hG.LY hm1
          subst em
          have HP := hide (And.intro hpos hposY)
          clear hpos hposY
          go_wp2_with fail
          refine (subtract_any d 0 gm' m' cm' an' gn' 0 n' cn' Y' X' _ (by omega) hG.nY (lv_len_le hG.lY hG.pX HLE.out) g2 hG.fD (hG.FY hm1) (Ne.symm hG.d6) hG.d2 hG.LY hG.LX hG.lY hG.lX HLE.out).mono ?_
          rintro e w5 ⟨rfl, w6, V, mk6, L6, l6, v6, hw5⟩
          have G5 := hG.setD mk6 L6 (Nat.le_refl _) l6
          rw [← hw5] at G5
          have HV6 : Hid (lv V (tlen (nz V) m') = lv Y' m' - lv X' n') := (lv_tlen _ _).trans v6
          have t6 := tlen_le (nz V) m'
          clear hw5 mk6 L6 l6 v6 hG g1 g2
          obtain ⟨t, ht⟩ : ∃ t, t = tlen (nz V) m' := ⟨_, rfl⟩
          rw [← ht] at G5 HV6 t6
          clear ht
          have g1 := G5.bC
          have g2 := G5.bD
          go_wp2_with fail
          refine (isZero_any d 0 _ t cm' _ g2).mono ?_
          rintro e w7 ⟨rfl, rfl⟩
          by_cases hz : t = 0
          · subst hz
            have hEq : lv Y' m' = lv X' n' := by have h1 := HV6.out; have h2 := HLE.out; have h3 : lv V 0 = 0 := rfl; omega
            have HGv : Hid (lv X' n' = G) := by have h := HG'.out; rw [hEq, Nat.gcd_self] at h; exact h.symm
            clear hEq
            go_wp2
            refine bodyPost_ret (results_none rfl _ _ _) rfl ?_
            exact ⟨rfl, an', gn', n', cn', X', G5.bC, G5.nX, hn', G5.oX, G5.LX, G5.FX, G5.lX, G5.pX, HGv.out, G5.hn, G5.d3, G5.fC, G5.S⟩
          · have hne : ((t : Int) == 0) = false := by simp; omega
            have hVp : 0 < lv V t := by
              have := lv_ge V t (by omega) (G5.pY (by omega))
              have := Nat.pow_pos (n := 32 * (t - 1)) (show 0 < 2 by omega)
              omega
            have HVp := hide hVp
            clear hVp
            go_wp2_with fail
            refine (twos_any d 0 _ gm' 0 t cm' V _ (by omega) g2 G5.LY G5.lY HVp.out (hT.since G5.S hb)).mono ?_
            rintro e w8 ⟨i, s, q, rfl, rfl, hi, hs, hvq⟩
            have HQ := hide hvq
            clear hvq
            go_wp2_with fail
            refine (shiftRight_any d 0 gm' t cm' i s V _ (by omega) G5.nY hi hs G5.LY G5.lY g2 G5.fD (G5.FY (by omega)) (Ne.symm G5.d6)).mono ?_
            rintro e w9 ⟨rfl, w10, S, k, mk10, L10, hk, l10, v10, hw9⟩
            have G9 := G5.setD mk10 L10 hk l10
            rw [← hw9] at G9
            have hSq : lv S (tlen (nz S) k) = 2 * q + 1 := by
              rw [lv_tlen, v10, HQ.out, Nat.mul_div_cancel_left _ (Nat.pow_pos (by omega))]
            have HSq := hide hSq
            have t10 := tlen_le (nz S) k
            clear hw9 mk10 L10 l10 v10 hSq
            go_wp2
            go_roundg (lv X' n' + lv S (tlen (nz S) k))
            case measure =>
              have a1 := Hg.out; have a2 := HSq.out; have a3 := HV6.out; have a4 := HP.out; have a5 := HQ.out; have a6 := HLE.out
              have a7 : 1 * (2 * q + 1) ≤ 2 ^ (32 * i + s) * (2 * q + 1) := Nat.mul_le_mul_right _ (Nat.pow_pos (by omega))
              omega
            case rel =>
              refine ⟨gn', gm', an', _, n', _, cn', cm', X', S, rfl, G9, hn', by omega, OX', by rw [HSq.out]; show _ = _; omega, ?_⟩
              have h := HG'.out
              rw [← gcd_sub_right HLE.out, ← HV6.out, HQ.out, gcd_pow2_right OX'.out] at h
              rw [HSq.out]; exact h
        · have hci : cmpN (lv X n) (lv Y m) ≤ 0 := by unfold cmpN; split <;> (try split) <;> omega
          have HLE : Hid (lv X n ≤ lv Y m) := Nat.le_of_not_lt hgt
          have HG' := HG
          clear hgt HG
          generalize cmpN (lv X n) (lv Y m) = z at *
          have OX' := OX
          have OY' := OY
          have hn' := hn
          clear b1 b2
          obtain ⟨X', e0⟩ : ∃ x, x = X := ⟨_, rfl⟩
          obtain ⟨Y', e1⟩ : ∃ x, x = Y := ⟨_, rfl⟩
          obtain ⟨n', e2⟩ : ∃ x, x = n := ⟨_, rfl⟩
          obtain ⟨m', e3⟩ : ∃ x, x = m := ⟨_, rfl⟩
          obtain ⟨an', e4⟩ : ∃ x, x = an := ⟨_, rfl⟩
          obtain ⟨am', e5⟩ : ∃ x, x = am := ⟨_, rfl⟩
          obtain ⟨gn', e6⟩ : ∃ x, x = gn := ⟨_, rfl⟩
          obtain ⟨gm', e7⟩ : ∃ x, x = gm := ⟨_, rfl⟩
          obtain ⟨cn', e8⟩ : ∃ x, x = cn := ⟨_, rfl⟩
          obtain ⟨cm', e9⟩ : ∃ x, x = cm := ⟨_, rfl⟩
          subst e0 e1 e2 e3 e4 e5 e6 e7 e8 e9
          -- the second is the greater: it loses the first
          have g1 := hG.bC
          have g2 := hG.bD
          have hpos : 0 < lv X' n' := by have := OX'.out; omega
          have hposY : 0 < lv Y' m' := by have := OY'.out; omega
          have hn1 := lv_pos_len hpos
          have hm1 := lv_pos_len hposY
          have em := limbs_some hG.LY hm1
          subst em
          have HP := hide (And.intro hpos hposY)
          clear hpos hposY
          go_wp2_with fail
          refine (subtract_any d 0 gm' m' cm' an' gn' 0 n' cn' Y' X' _ (by omega) hG.nY (lv_len_le hG.lY hG.pX HLE.out) g2 hG.fD (hG.FY hm1) (Ne.symm hG.d6) hG.d2 hG.LY hG.LX hG.lY hG.lX HLE.out).mono ?_
          rintro e w5 ⟨rfl, w6, V, mk6, L6, l6, v6, hw5⟩
          have G5 := hG.setD mk6 L6 (Nat.le_refl _) l6
          rw [← hw5] at G5
          have HV6 : Hid (lv V (tlen (nz V) m') = lv Y' m' - lv X' n') := (lv_tlen _ _).trans v6
          have t6 := tlen_le (nz V) m'
          clear hw5 mk6 L6 l6 v6 hG g1 g2
          obtain ⟨t, ht⟩ : ∃ t, t = tlen (nz V) m' := ⟨_, rfl⟩
          rw [← ht] at G5 HV6 t6
          clear ht
          have g1 := G5.bC
          have g2 := G5.bD
          go_wp2_with fail
          refine (isZero_any d 0 _ t cm' _ g2).mono ?_
          rintro e w7 ⟨rfl, rfl⟩
          by_cases hz : t = 0
          · subst hz
            have hEq : lv Y' m' = lv X' n' := by have h1 := HV6.out; have h2 := HLE.out; have h3 : lv V 0 = 0 := rfl; omega
            have HGv : Hid (lv X' n' = G) := by have h := HG'.out; rw [hEq, Nat.gcd_self] at h; exact h.symm
            clear hEq
            go_wp2
            refine bodyPost_ret (results_none rfl _ _ _) rfl ?_
            exact ⟨rfl, an', gn', n', cn', X', G5.bC, G5.nX, hn', G5.oX, G5.LX, G5.FX, G5.lX, G5.pX, HGv.out, G5.hn, G5.d3, G5.fC, G5.S⟩
          · have hne : ((t : Int) == 0) = false := by simp; omega
            have hVp : 0 < lv V t := by
              have := lv_ge V t (by omega) (G5.pY (by omega))
              have := Nat.pow_pos (n := 32 * (t - 1)) (show 0 < 2 by omega)
              omega
            have HVp := hide hVp
            clear hVp
            go_wp2_with fail
            refine (twos_any d 0 _ gm' 0 t cm' V _ (by omega) g2 G5.LY G5.lY HVp.out (hT.since G5.S hb)).mono ?_
            rintro e w8 ⟨i, s, q, rfl, rfl, hi, hs, hvq⟩
            have HQ := hide hvq
            clear hvq
            go_wp2_with fail
            refine (shiftRight_any d 0 gm' t cm' i s V _ (by omega) G5.nY hi hs G5.LY G5.lY g2 G5.fD (G5.FY (by omega)) (Ne.symm G5.d6)).mono ?_
            rintro e w9 ⟨rfl, w10, S, k, mk10, L10, hk, l10, v10, hw9⟩
            have G9 := G5.setD mk10 L10 hk l10
            rw [← hw9] at G9
            have hSq : lv S (tlen (nz S) k) = 2 * q + 1 := by
              rw [lv_tlen, v10, HQ.out, Nat.mul_div_cancel_left _ (Nat.pow_pos (by omega))]
            have HSq := hide hSq
            have t10 := tlen_le (nz S) k
            clear hw9 mk10 L10 l10 v10 hSq
            go_wp2
            go_roundg (lv X' n' + lv S (tlen (nz S) k))
            case measure =>
              have a1 := Hg.out; have a2 := HSq.out; have a3 := HV6.out; have a4 := HP.out; have a5 := HQ.out; have a6 := HLE.out
              have a7 : 1 * (2 * q + 1) ≤ 2 ^ (32 * i + s) * (2 * q + 1) := Nat.mul_le_mul_right _ (Nat.pow_pos (by omega))
              omega
            case rel =>
              refine ⟨gn', gm', an', _, n', _, cn', cm', X', S, rfl, G9, hn', by omega, OX', by rw [HSq.out]; show _ = _; omega, ?_⟩
              have h := HG'.out
              rw [← gcd_sub_right HLE.out, ← HV6.out, HQ.out, gcd_pow2_right OX'.out] at h
              rw [HSq.out]; exact h

end Go.Proofs.YtickondjmilehabDoor
