import Derived.Test.YtlpabmcebpppfaaGreatDoorOwnP21
import Derived.Test.YtlpabmcebpppfaaGreatDoorOwnP19
import Derived.Lib.Join
import Derived.Test.YtlpabmcebpppfaaGreatDoorOwnP17
namespace Go.Proofs.YtlpabmcebpppfaaGreatDoor
open Go.RowKit

/-- The text of a number. -/
def RatD.txt (r : RatD) : List UInt8 := ratStr r.neg (lv r.X r.n) (lv r.Y r.m)

/-- The texts of the first n numbers, each with a blank in front. -/
def tailB (V : Nat → RatD) : Nat → List UInt8
  | 0 => []
  | n + 1 => tailB V n ++ (32 :: (V n).txt)

def txts (V : Nat → RatD) (n : Nat) : List (List UInt8) := (List.range n).map fun i => (V i).txt

theorem txts_succ (V : Nat → RatD) (n : Nat) : txts V (n + 1) = txts V n ++ [(V n).txt] := by simp [txts, List.range_succ]
theorem joinTail_append (sep : List UInt8) (a b : List (List UInt8)) : Lib.joinTail sep (a ++ b) = Lib.joinTail sep a ++ Lib.joinTail sep b := by simp [Lib.joinTail]

theorem joinTail_txts (V : Nat → RatD) (n : Nat) : Lib.joinTail [32] (txts V n) = tailB V n := by
  induction n with
  | zero => rfl
  | succ n ih => rw [txts_succ, joinTail_append, ih]; simp [Lib.joinTail, tailB]

/-- The decimal text of an int that is not negative. -/
def decB (z : Int) : List UInt8 := Lib.decDigits z.toNat

theorem itoa_dec {z : Int} (h : 0 ≤ z) : Lib.itoa z = decB z := by unfold Lib.itoa decB; rw [if_neg (by omega)]

theorem dec_lim {z : Int} (h : z ≤ 9223372036854775807) : (decB z).length ≤ 65 := by
  unfold decB
  rw [Lib.decDigits_length]
  exact nd_lim (by omega)

theorem lv_dd {X : Nat → Nat} {n : Nat} (h : ∀ j, j < n → X j < 4294967296) : (Lib.decDigits (lv X n)).length ≤ 32 * n + 1 := by
  rw [Lib.decDigits_length]
  have := nd_lim (lv_lt X n h)
  omega

theorem txt_lim {r : RatD} (h : r.lim) : r.txt.length ≤ 32 * (r.n + r.m) + 4 := by
  unfold RatD.txt ratStr
  have h1 := lv_dd h.1
  have h2 := lv_dd h.2
  rw [List.length_append, List.length_append]
  have e1 : (if r.neg = true then [45] else ([] : List UInt8)).length ≤ 1 := by split <;> simp
  have e2 : (if lv r.Y r.m = 1 then ([] : List UInt8) else 47 :: Lib.decDigits (lv r.Y r.m)).length ≤ 32 * r.m + 2 := by
    split
    · simp
    · simp only [List.length_cons]; omega
  omega

theorem tail_lim {V : Nat → RatD} {n : Nat} (h : ∀ c, c < n → (V c).lim) : (tailB V n).length ≤ 32 * szR V n + 5 * n := by
  induction n with
  | zero => simp [tailB]
  | succ n ih =>
    have h1 := ih (fun c hc => h c (by omega))
    have h2 := txt_lim (h n (by omega))
    have e : szR V (n + 1) = szR V n + ((V n).n + (V n).m) := rfl
    rw [tailB, List.length_append, List.length_cons, e]
    omega

end Go.Proofs.YtlpabmcebpppfaaGreatDoor

namespace Go.Proofs.YtlpabmcebpppfaaGreatDoor
open Go.RowKit

/-- Row r of a map's weights. -/
def rowW (d : AffD) (r : Nat) : Nat → RatD := fun j => d.W (r * d.cols.toNat + j)
/-- The words of row r. -/
def rowS (d : AffD) (r : Nat) : List (List UInt8) := txts (rowW d r) d.cols.toNat ++ [(d.B r).txt]
/-- The line of row r. -/
def rowL (d : AffD) (r : Nat) : List UInt8 := Lib.join (rowS d r) [32] ++ [10]
/-- .. of the first rows. -/
def rowsL (d : AffD) : Nat → List UInt8
  | 0 => []
  | r + 1 => rowsL d r ++ rowL d r
/-- The first line of a map. -/
def mapH (d : AffD) : List UInt8 := [109, 97, 112, 32] ++ (decB d.rows ++ (32 :: (decB d.cols ++ [10])))
/-- The lines of the first maps. -/
def mapsB (A : Nat → AffD) : Nat → List UInt8
  | 0 => []
  | k + 1 => mapsB A k ++ (mapH (A k) ++ rowsL (A k) (A k).rows.toNat)
/-- The first line of a net. -/
def netH (n : Nat) : List UInt8 := [110, 101, 116, 32] ++ (decB (n : Int) ++ [10])
/-- The text of a net. -/
def netB (n : Nat) (A : Nat → AffD) : List UInt8 := netH n ++ mapsB A n

/-- A row as the specification writes it, its first blank left out. -/
theorem rowL_tail (d : AffD) (r : Nat) : tailB (rowW d r) d.cols.toNat ++ (32 :: (d.B r).txt) ++ [10] = 32 :: rowL d r := by
  have h : ∀ L : List (List UInt8), ∀ t, Lib.joinTail [32] (L ++ [t]) = 32 :: Lib.join (L ++ [t]) [32] := fun L t => by
    cases L with
    | nil => simp [Lib.joinTail, Lib.join]
    | cons x xs => rw [List.cons_append, Lib.join_cons]; simp [Lib.joinTail]
  have e := h (txts (rowW d r) d.cols.toNat) (d.B r).txt
  rw [joinTail_append, joinTail_txts] at e
  rw [rowL, rowS, ← List.cons_append, ← e]
  simp [Lib.joinTail]

theorem szR_add (R : Nat → RatD) (a b : Nat) : szR R (a + b) = szR R a + szR (fun j => R (a + j)) b := by
  induction b with
  | zero => rfl
  | succ b ih =>
    rw [← Nat.add_assoc, szR_succ, szR_succ, ih]
    omega

theorem rowL_lim {d : AffD} {r : Nat} (hW : ∀ j, j < d.cols.toNat → (rowW d r j).lim) (hB : (d.B r).lim) : (rowL d r).length ≤ 32 * szR (rowW d r) d.cols.toNat + 5 * d.cols.toNat + (32 * ((d.B r).n + (d.B r).m) + 5) := by
  have h := congrArg List.length (rowL_tail d r)
  have h1 := tail_lim hW
  have h2 := txt_lim hB
  simp only [List.length_append, List.length_cons, List.length_nil] at h
  omega

theorem rowsL_lim {d : AffD} {r : Nat} (hW : ∀ j, j < r * d.cols.toNat → (d.W j).lim) (hB : ∀ j, j < r → (d.B j).lim) : (rowsL d r).length ≤ 32 * (szR d.W (r * d.cols.toNat) + szR d.B r) + 5 * (r * d.cols.toNat) + 5 * r := by
  induction r with
  | zero => simp [rowsL]
  | succ r ih =>
    have e1 : (r + 1) * d.cols.toNat = r * d.cols.toNat + d.cols.toNat := by rw [Nat.add_mul, Nat.one_mul]
    have h1 := ih (fun j hj => hW j (by omega)) (fun j hj => hB j (by omega))
    have h2 := rowL_lim (d := d) (r := r) (fun j hj => hW _ (by omega)) (hB r (by omega))
    have e2 := szR_add d.W (r * d.cols.toNat) d.cols.toNat
    have e3 := szR_succ d.B r
    rw [e1, rowsL, List.length_append, e2, e3]
    have e4 : szR (rowW d r) d.cols.toNat = szR (fun j => d.W (r * d.cols.toNat + j)) d.cols.toNat := rfl
    omega

/-- What a valid map of a net is, in naturals. -/
structure MapP (d : AffD) (R C : Nat) : Prop where
  r : d.rows = R
  c : d.cols = C
  r1 : R ≤ 20000
  c1 : C ≤ 20000
  nw : d.nw = R * C
  nb : d.nb = R
  vW : RatsOk d.W d.nw
  vB : RatsOk d.B d.nb

theorem NetP.map {n : Nat} {A : Nat → AffD} (h : NetP n A) {k : Nat} (hk : k < n) : MapP (A k) (A k).rows.toNat (A k).cols.toNat := by
  obtain ⟨⟨h0, h1, h2, h3⟩, h4, h5⟩ := h.shape k hk
  have v := h.vals k hk
  have e : ((A k).rows.toNat * (A k).cols.toNat : Nat) = (A k).rows * (A k).cols := by
    rw [Int.natCast_mul, Int.toNat_of_nonneg h0, Int.toNat_of_nonneg h2]
  exact ⟨by omega, by omega, by omega, by omega, by omega, by omega, v.1, v.2⟩

theorem map_lim {d : AffD} {R C : Nat} (h : MapP d R C) (hW : ∀ j, j < d.nw → (d.W j).lim) (hB : ∀ j, j < d.nb → (d.B j).lim) {r : Nat} (hr : r ≤ R) : (rowsL d r).length ≤ 37 * d.size := by
  have ec : d.cols.toNat = C := by have := h.c; omega
  have hm : r * C ≤ R * C := Nat.mul_le_mul_right _ hr
  have l := rowsL_lim (d := d) (r := r) (fun j hj => hW j (by rw [h.nw]; rw [ec] at hj; omega)) (fun j hj => hB j (by rw [h.nb]; omega))
  have m1 := szR_mono (R := d.W) (show r * C ≤ d.nw by rw [h.nw]; exact hm)
  have m2 := szR_mono (R := d.B) (show r ≤ d.nb by rw [h.nb]; exact hr)
  have e1 := h.nw
  have e2 := h.nb
  rw [ec] at l
  unfold AffD.size
  omega

theorem mapH_lim {d : AffD} (h1 : d.rows ≤ 9223372036854775807) (h2 : d.cols ≤ 9223372036854775807) : (mapH d).length ≤ 200 := by
  have a := dec_lim h1
  have b := dec_lim h2
  unfold mapH
  simp only [List.length_append, List.length_cons, List.length_nil]
  omega

theorem maps_lim {A : Nat → AffD} {k : Nat} (h : ∀ j, j < k → (mapH (A j) ++ rowsL (A j) (A j).rows.toNat).length ≤ 37 * (A j).size + 200) : (mapsB A k).length ≤ 37 * szA A k + 200 * k := by
  induction k with
  | zero => simp [mapsB]
  | succ k ih =>
    have h1 := ih (fun j hj => h j (by omega))
    have h2 := h k (by omega)
    have e : szA A (k + 1) = szA A k + (A k).size := rfl
    rw [mapsB, e, List.length_append]
    omega

end Go.Proofs.YtlpabmcebpppfaaGreatDoor
