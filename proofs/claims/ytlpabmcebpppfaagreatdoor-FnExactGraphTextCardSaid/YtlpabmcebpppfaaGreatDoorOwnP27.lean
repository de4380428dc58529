import Derived.Test.YtlpabmcebpppfaaGreatDoorOwnP25
import Derived.Test.YtlpabmcebpppfaaGreatDoorOwnP20
import Derived.Lib.Join
namespace Go.Proofs.YtlpabmcebpppfaaGreatDoor
open Go.RowKit

/-- The text of a number. -/
def RatD.txt (r : RatD) : List UInt8 := ratStr r.neg (lv r.X r.n) (lv r.Y r.m)

/-- The texts of the first n numbers, each with a blank in front. -/
def tailB (V : Nat → RatD) : Nat → List UInt8
  | 0 => []
  | n + 1 => tailB V n ++ (32 :: (V n).txt)

def txts (V : Nat → RatD) (n : Nat) : List (List UInt8) := (List.range n).map fun i => (V i).txt

theorem txts_succ (V : Nat → RatD) (n : Nat) : txts V (n + 1) = txts V n ++ [(V n).txt] := by simp [txts, List.range_succ]
theorem txts_len (V : Nat → RatD) (n : Nat) : (txts V n).length = n := by simp [txts]

theorem joinTail_append (sep : List UInt8) (a b : List (List UInt8)) : Lib.joinTail sep (a ++ b) = Lib.joinTail sep a ++ Lib.joinTail sep b := by simp [Lib.joinTail]

theorem joinTail_txts (V : Nat → RatD) (n : Nat) : Lib.joinTail [32] (txts V n) = tailB V n := by
  induction n with
  | zero => rfl
  | succ n ih => rw [txts_succ, joinTail_append, ih]; simp [Lib.joinTail, tailB]

/-- The decimal text of an int that is not negative. -/
def decB (z : Int) : List UInt8 := Lib.decDigits z.toNat

theorem itoa_dec {z : Int} (h : 0 ≤ z) : Lib.itoa z = decB z := by unfold Lib.itoa decB; rw [if_neg (by omega)]

/-- The ints of a node's line. -/
def intsB (d : NodeD) : List (List UInt8) := decB d.a :: ((if usesB d.op = true then [decB d.b] else []) ++ ((if usesK d.op = true then [decB d.k] else []) ++ (if usesS d.op = true then [decB d.s] else [])))

/-- The word of a kind. -/
def wordB (z : Int) : List UInt8 :=
  if z = 1 then [100, 101, 110, 115, 101] else if z = 2 then [114, 101, 108, 117] else if z = 3 then [108, 101, 97, 107, 121] else if z = 4 then [97, 100, 100]
  else if z = 5 then [109, 97, 120, 112, 111, 111, 108] else if z = 6 then [99, 111, 110, 118] else [110, 111, 114, 109]

/-- A node's line without its end. -/
def nodeB (d : NodeD) : List UInt8 := wordB d.op ++ (Lib.joinTail [32] (intsB d) ++ tailB d.V d.nv)

theorem nodeB_join (d : NodeD) : Lib.join (wordB d.op :: (intsB d ++ txts d.V d.nv)) [32] = nodeB d := by
  rw [Lib.join_cons, joinTail_append, joinTail_txts]; rfl

/-- The lines of the first sides of the box. -/
def boxB (g : GraphD) : Nat → List UInt8
  | 0 => []
  | j + 1 => boxB g j ++ ([98, 111, 120, 32] ++ ((g.Lo j).txt ++ (32 :: ((g.Hi j).txt ++ [10]))))

/-- The lines of the first nodes. -/
def nodesB (g : GraphD) : Nat → List UInt8
  | 0 => []
  | k + 1 => nodesB g k ++ (nodeB (g.N k) ++ [10])

/-- The text of a graph. -/
def graphB (g : GraphD) : List UInt8 :=
  [103, 114, 97, 112, 104, 32] ++ (decB g.inn ++ (32 :: (decB g.rounds ++ (10 :: (boxB g g.inn.toNat ++ (nodesB g g.nn ++ ([111, 117, 116, 112, 117, 116, 32] ++ (decB g.out ++ [10]))))))))

theorem dec_lim {z : Int} (h : z ≤ 9223372036854775807) : (decB z).length ≤ 65 := by
  unfold decB
  rw [Lib.decDigits_length]
  exact nd_lim (by omega)

theorem lv_dd {X : Nat → Nat} {n : Nat} (h : ∀ j, j < n → X j < 4294967296) : (Lib.decDigits (lv X n)).length ≤ 32 * n + 1 := by
  rw [Lib.decDigits_length]
  have := nd_lim (lv_lt X n h)
  omega

theorem txt_lim {r : RatD} (h : r.lim) : r.txt.length ≤ 32 * (r.n + r.m) + 4 := by
  unfold RatD.txt ratStr
  have h1 := lv_dd h.1
  have h2 := lv_dd h.2
  rw [List.length_append, List.length_append]
  have e1 : (if r.neg = true then [45] else ([] : List UInt8)).length ≤ 1 := by split <;> simp
  have e2 : (if lv r.Y r.m = 1 then ([] : List UInt8) else 47 :: Lib.decDigits (lv r.Y r.m)).length ≤ 32 * r.m + 2 := by
    split
    · simp
    · simp only [List.length_cons]; omega
  omega

theorem tail_lim {V : Nat → RatD} {n : Nat} (h : ∀ c, c < n → (V c).lim) : (tailB V n).length ≤ 32 * szR V n + 5 * n := by
  induction n with
  | zero => simp [tailB]
  | succ n ih =>
    have h1 := ih (fun c hc => h c (by omega))
    have h2 := txt_lim (h n (by omega))
    have e : szR V (n + 1) = szR V n + ((V n).n + (V n).m) := rfl
    rw [tailB, List.length_append, List.length_cons, e]
    omega

theorem box_lim {g : GraphD} {j : Nat} (hl : ∀ c, c < j → (g.Lo c).lim) (hh : ∀ c, c < j → (g.Hi c).lim) : (boxB g j).length ≤ 32 * (szR g.Lo j + szR g.Hi j) + 14 * j := by
  induction j with
  | zero => simp [boxB]
  | succ j ih =>
    have h1 := ih (fun c hc => hl c (by omega)) (fun c hc => hh c (by omega))
    have h2 := txt_lim (hl j (by omega))
    have h3 := txt_lim (hh j (by omega))
    have e1 := szR_succ g.Lo j
    have e2 := szR_succ g.Hi j
    rw [boxB, e1, e2]
    simp only [List.length_append, List.length_cons, List.length_nil]
    omega

theorem word_lim (z : Int) : (wordB z).length ≤ 7 := by
  unfold wordB
  repeat' split
  all_goals simp

theorem ints_lim {d : NodeD} (ha : d.a ≤ 9223372036854775807) (hb : d.b ≤ 9223372036854775807) (hk : d.k ≤ 9223372036854775807) (hs : d.s ≤ 9223372036854775807) : (Lib.joinTail [32] (intsB d)).length ≤ 264 := by
  have h1 := dec_lim ha
  have h2 := dec_lim hb
  have h3 := dec_lim hk
  have h4 := dec_lim hs
  rw [Lib.joinTail_length]
  unfold intsB
  repeat' split
  all_goals simp [Lib.lens]
  all_goals omega

theorem node_lim {d : NodeD} (ha : d.a ≤ 9223372036854775807) (hb : d.b ≤ 9223372036854775807) (hk : d.k ≤ 9223372036854775807) (hs : d.s ≤ 9223372036854775807) (h : ∀ c, c < d.nv → (d.V c).lim) : (nodeB d).length ≤ 37 * d.size + 271 := by
  have h1 := word_lim d.op
  have h2 := ints_lim ha hb hk hs
  have h3 := tail_lim h
  unfold nodeB NodeD.size
  rw [List.length_append, List.length_append]
  omega

theorem nodes_lim {g : GraphD} {k : Nat} (h : ∀ j, j < k → (nodeB (g.N j)).length ≤ 37 * (g.N j).size + 271) : (nodesB g k).length ≤ 37 * szN g.N k + 272 * k := by
  induction k with
  | zero => simp [nodesB]
  | succ k ih =>
    have h1 := ih (fun j hj => h j (by omega))
    have h2 := h k (by omega)
    have e := szN_succ g.N k
    rw [nodesB, e]
    simp only [List.length_append, List.length_cons, List.length_nil]
    omega

/-- A valid graph. -/
structure GraV (g : GraphD) : Prop where
  head : HeadP g
  box : ∀ j : Nat, (j : Int) < g.inn → ¬ boxBad g j
  node : ∀ k, k < g.nn → nc g k = 0
  o0 : 0 ≤ g.out
  o1 : g.out ≤ g.nn

theorem GraV.zero {g : GraphD} {n : Nat} {Y : Nat → Int} {c a : Int} (E : GraV g) (h : Outc g n Y c a) : c = 0 :=
  (Outc.only (n := g.nn + 1) (X := dimA g g.nn) (c := 0) (a := 0) (.inr (.inr (.inr (.inr ⟨E.head, E.box, E.node, ⟨E.o0, E.o1⟩, rfl, fun _ _ => rfl, rfl, rfl⟩)))) h).2.1

theorem GraV.of {g : GraphD} {n : Nat} {Y : Nat → Int} {a : Int} (h : Outc g n Y 0 a) : GraV g := by
  rcases h with ⟨-, -, e, -⟩ | ⟨-, j, -, -, -, -, e, -⟩ | ⟨-, -, i, -, -, e, -, e2, -⟩ | ⟨-, -, -, -, -, e, -⟩ | ⟨p0, p1, p2, p3, -⟩
  · cases e
  · cases e
  · exact absurd e2.symm e
  · cases e
  · exact ⟨p0, p1, p2, p3.1, p3.2⟩

/-- What a valid graph's node is. -/
theorem GraV.at_ {g : GraphD} (E : GraV g) {k : Nat} (hk : k < g.nn) : (g.N k).Form ∧ 0 ≤ (g.N k).a ∧ 0 ≤ (g.N k).b := by
  obtain ⟨f, ⟨a0, ai, sb⟩, -⟩ := code_zero (E.node k hk)
  refine ⟨f, a0, ?_⟩
  by_cases hb : usesB (g.N k).op = true
  · exact (sb hb).1
  · have := f.b (by simpa using hb)
    omega

end Go.Proofs.YtlpabmcebpppfaaGreatDoor
