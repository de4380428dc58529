import Derived.Test.YtickondjmilehabDoorH1
namespace Go.Proofs.YtickondjmilehabDoor
open Go.RowKit

/-- What RatOk says of a Rat. -/
def ratOkB (neg : Bool) (X : Nat → Nat) (n : Nat) (Y : Nat → Nat) (m : Nat) : Bool :=
  plainB X n && plainB Y m && m != 0 && !(neg && n == 0) && Nat.gcd (lv X n) (lv Y m) == 1

set_option maxHeartbeats 1600000 in
set_option maxRecDepth 100000 in
theorem implRatOk_any (neg : Bool) (a b : Option Addr) (ba oa n ca bb ob m cb : Nat) (X Y : Nat → Nat) (w : World) (hw : 1 < w.heap.size) (hn : n ≤ 1048576) (hm : m ≤ 1048576) (hnc : n ≤ ca) (hmc : m ≤ cb) (hac : a = none → ca = 0) (hbc : b = none → cb = 0)
    (hX : Limbs w a ba oa n X) (hY : Limbs w b bb ob m Y) (hXl : ∀ j, j < n → X j < 4294967296) (hYl : ∀ j, j < m → Y j < 4294967296) (hT : Tab w) :
    Calls Tryd.prog 20 #[.agg #[.bool neg, .slice a n ca, .slice b m cb]] w fun e w' => e = .returned (.bool (ratOkB neg X n Y m)) ∧ w.Since w.heap.size w' := by
  have sA : w.Since w.heap.size (w.alloc (.cells #[.bool neg, .slice a n ca, .slice b m cb] 31)) := (World.Since.refl _ _).alloc (Nat.le_refl _) _
  have I1 := isPlain_any a ba oa n ca X _ hn (hX.keep sA)
  have I2 := isPlain_any b bb ob m cb Y _ hm (hY.keep sA)
  by_cases h1 : plainB X n = false
  · have HR := hide (show false = ratOkB neg X n Y m by simp [ratOkB, h1])
    rw [h1] at I1
    clear h1
    go_enter Tryd.func20, Tryd.ntmps20
    go_wp2_with fail
    refine I1.mono ?_
    rintro e w1 ⟨rfl, rfl⟩
    go_wp2
    go_ret
    exact ⟨ret_bool HR.out, sA⟩
  have h1 : plainB X n = true := by simpa using h1
  rw [h1] at I1
  by_cases h2 : plainB Y m = false
  · have HR := hide (show false = ratOkB neg X n Y m by simp [ratOkB, h2])
    rw [h2] at I2
    clear h1 h2
    go_enter Tryd.func20, Tryd.ntmps20
    go_wp2_with fail
    refine I1.mono ?_
    rintro e w1 ⟨rfl, rfl⟩
    go_wp2_with fail
    refine I2.mono ?_
    rintro e w1 ⟨rfl, rfl⟩
    go_wp2
    go_ret
    exact ⟨ret_bool HR.out, sA⟩
  have h2 : plainB Y m = true := by simpa using h2
  rw [h2] at I2
  have pX := hide (plainB_iff.1 h1)
  have pY := hide (plainB_iff.1 h2)
  by_cases h3 : m = 0
  · have HR := hide (show false = ratOkB neg X n Y m by simp [ratOkB, h3])
    clear h1 h2
    subst h3
    go_enter Tryd.func20, Tryd.ntmps20
    go_wp2_with fail
    refine I1.mono ?_
    rintro e w1 ⟨rfl, rfl⟩
    go_wp2_with fail
    refine I2.mono ?_
    rintro e w1 ⟨rfl, rfl⟩
    go_wp2
    go_ret
    exact ⟨ret_bool HR.out, sA⟩
  have q3 : ((m : Int) == 0) = false := by simp; omega
  by_cases h4 : neg = true ∧ n = 0
  · obtain ⟨rfl, rfl⟩ := h4
    have HR := hide (show false = ratOkB true X 0 Y m by simp [ratOkB])
    clear h1 h2
    go_enter Tryd.func20, Tryd.ntmps20
    go_wp2_with fail
    refine I1.mono ?_
    rintro e w1 ⟨rfl, rfl⟩
    go_wp2_with fail
    refine I2.mono ?_
    rintro e w1 ⟨rfl, rfl⟩
    go_wp2
    go_ret
    exact ⟨ret_bool HR.out, sA⟩
  have HR := hide (show (decide (Nat.gcd (lv X n) (lv Y m) = 1)) = ratOkB neg X n Y m by
    have e3 : (m != 0) = true := by simp [h3]
    have e4 : (neg && n == 0) = false := by cases neg <;> simp at h4 ⊢; exact h4
    rw [Bool.eq_iff_iff]
    simp [ratOkB, h1, h2, e3, e4])
  have q4 : (neg && (n : Int) == 0) = false := by
    cases neg
    · rfl
    · simp at h4 ⊢; omega
  have tA : Tab (w.alloc (.cells #[.bool neg, .slice a n ca, .slice b m cb] 31)) := fun q hq => by rw [sA.cell (a := ⟨1, q, none⟩) hw]; exact hT q hq
  have I3 := gcdOf_any a b ba oa n ca bb ob m cb X Y _ (Nat.lt_of_lt_of_le hw sA.size) hn hm hnc hmc hac hbc (hX.keep sA) (hY.keep sA) hXl hYl pX.out pY.out tA
  clear h1 h2 h4 tA
  go_enter Tryd.func20, Tryd.ntmps20
  go_wp2_with fail
  refine I1.mono ?_
  rintro e w1 ⟨rfl, rfl⟩
  go_wp2_with fail
  refine I2.mono ?_
  rintro e w1 ⟨rfl, rfl⟩
  cases neg
  · clear q4
    go_wp2_with fail
    refine I3.mono ?_
    rintro e w3 ⟨v, g, rfl, ⟨a3, k, c3, Z, rfl, k1, k2, k3, L, F, l, p, e3⟩, hg, s3⟩
    have E := hide e3
    clear e3 I1 I2 I3
    go_wp2_with fail
    refine (isOne_any w3.heap.size 0 a3 g 0 k c3 Z _ (by simp [go_sem]) (L.keep ((World.Since.refl _ _).alloc (Nat.le_refl _) _)) l p).mono ?_
    rintro e w4 ⟨rfl, rfl⟩
    clear l p
    go_wp2
    go_ret
    exact ⟨ret_bool (by rw [E.out]; exact HR.out), (sA.trans (sinceMono s3 (by simp))).alloc (Nat.le_trans (by simp) s3.size) _⟩
  · have q5 : ((n : Int) == 0) = false := by simpa using q4
    clear q4
    go_wp2_with fail
    refine I3.mono ?_
    rintro e w3 ⟨v, g, rfl, ⟨a3, k, c3, Z, rfl, k1, k2, k3, L, F, l, p, e3⟩, hg, s3⟩
    have E := hide e3
    clear e3 I1 I2 I3
    go_wp2_with fail
    refine (isOne_any w3.heap.size 0 a3 g 0 k c3 Z _ (by simp [go_sem]) (L.keep ((World.Since.refl _ _).alloc (Nat.le_refl _) _)) l p).mono ?_
    rintro e w4 ⟨rfl, rfl⟩
    clear l p
    go_wp2
    go_ret
    exact ⟨ret_bool (by rw [E.out]; exact HR.out), (sA.trans (sinceMono s3 (by simp))).alloc (Nat.le_trans (by simp) s3.size) _⟩

end Go.Proofs.YtickondjmilehabDoor
