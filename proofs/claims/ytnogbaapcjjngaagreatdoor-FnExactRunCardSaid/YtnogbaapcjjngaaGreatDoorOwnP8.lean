import Derived.Test.YtnogbaapcjjngaaGreatDoorOwnP5
import Derived.Test.YtnogbaapcjjngaaGreatDoorOwnP1
import Derived.Lib.BitFns
import Derived.Test.YtnogbaapcjjngaaGreatDoorOwnP3
set_option maxHeartbeats 6400000
set_option maxRecDepth 100000
namespace Go.Proofs.YtnogbaapcjjngaaGreatDoor
open Go.RowKit
theorem bitLen_zero : Lib.bitLen 0 = 0 := by decide
theorem bitLen_spec2 : ∀ (f x : Nat), f <= 64 -> x < 2 ^ f -> x ≠ 0 -> 1 <= Lib.bitLen x /\ 2 ^ (Lib.bitLen x - 1) <= x /\ x < 2 ^ Lib.bitLen x := by
 intro f
 induction f with
 | zero => intro x _ h h0; simp at h; omega
 | succ f ih =>
   intro x hf h h0; have hx64 : x < 2 ^ 64 := Nat.lt_of_lt_of_le h (Nat.pow_le_pow_right (by omega) hf); rw [Lib.bitLen_half x h0 hx64]
   by_cases h1 : x / 2 = 0
   . have hx1 : x = 1 := by omega
     subst hx1
     simp [bitLen_zero]
   . obtain ⟨a1, a2, a3⟩ := ih (x / 2) (by omega) (by rw [Nat.pow_succ] at h; omega) h1
     generalize Lib.bitLen (x / 2) = n at *; refine ⟨by omega, ?_, ?_⟩
     . rw [show 1 + n - 1 = (n - 1) + 1 by omega, Nat.pow_succ]; omega
     . rw [Nat.add_comm, Nat.pow_succ]; omega
theorem tab_size : (Lib.len8tab.size : Int) = 256 := by have := Lib.len8tab_size; omega
theorem tab_get (y : Int) (h : y.toNat < Lib.len8tab.size) (h0 : 0 <= y) (h1 : y <= 255) : ((Lib.len8tab[y.toNat]'h).toNat : Int) = (Lib.bitLen y.toNat : Int) := by
 rw [<- Lib.len8_of y h0 h1]; unfold Lib.len8; rw [getElem?_pos Lib.len8tab y.toNat h]
 rfl
theorem yz2 (a : Nat) (ha : a <= 64) : wrap64 (a : Int) = (a : Int) := by unfold wrap64; omega
theorem len32_any (x : Int) (w : World) (h0 : 0 <= x) (hx : x <= 4294967295) :
 Calls Tryz.prog 230 #[.int .u32 x] w fun e w' => e = .returned (.int .i64 (Lib.bitLen x.toNat)) /\ w' = w := by
 have hsz := tab_size; go_enter Tryz.func230, Tryz.ntmps230; go_wp2
 all_goals (go_ret; refine ⟨congrArg Ending.returned (congrArg (Value.int IntKind.i64) ?_), rfl⟩)
 all_goals go_light
 . have l := Lib.bitLen_le8' (x / 65536 / 256) (by omega) (by omega)
   rw [tab_get (x / 65536 / 256) _ (by omega) (by omega), yz2 _ (by omega)]; have e : (x / 65536 / 256).toNat = x.toNat / 16777216 := by omega
   rw [e] at l ⊢; rw [show (24 : Int) + (Lib.bitLen (x.toNat / 16777216) : Int) = ((24 + Lib.bitLen (x.toNat / 16777216) : Nat) : Int) by omega, yz2 _ (by omega), Lib.bitLen_shift24 x.toNat (by omega) (by omega)]
 . have l := Lib.bitLen_le8' (x / 65536) (by omega) (by omega)
   rw [tab_get (x / 65536) _ (by omega) (by omega), yz2 _ (by omega)]; have e : (x / 65536).toNat = x.toNat / 65536 := by omega
   rw [e] at l ⊢; rw [show (16 : Int) + (Lib.bitLen (x.toNat / 65536) : Int) = ((16 + Lib.bitLen (x.toNat / 65536) : Nat) : Int) by omega, yz2 _ (by omega), Lib.bitLen_shift16 x.toNat (by omega) (by omega)]
 . have l := Lib.bitLen_le8' (x / 256) (by omega) (by omega)
   rw [tab_get (x / 256) _ (by omega) (by omega), yz2 _ (by omega)]; have e : (x / 256).toNat = x.toNat / 256 := by omega
   rw [e] at l ⊢; rw [show (8 : Int) + (Lib.bitLen (x.toNat / 256) : Int) = ((8 + Lib.bitLen (x.toNat / 256) : Nat) : Int) by omega, yz2 _ (by omega), Lib.bitLen_shift8 x.toNat (by omega) (by omega)]
 . have l := Lib.bitLen_le8' x (by omega) (by omega)
   rw [tab_get x _ (by omega) (by omega), yz2 _ (by omega), yz2 _ (by omega)]
theorem lz32_any (x : Nat) (w : World) (h0 : 0 < x) (hx : x < 4294967296) :
 Calls Tryz.prog 208 #[.int .u32 x] w fun e w' => ∃ s : Nat, e = .returned (.int .i64 s) /\ w' = w /\ s < 32 /\ 2147483648 <= x * 2 ^ s /\ x * 2 ^ s < 4294967296 := by
 have hs := bitLen_spec2 32 x (by omega) (by omega) (by omega); have hle := Lib.bitLen_le x 32 (by omega) (by omega); have H := hide hs; have h1 := hs.1; clear hs; go_enter Tryz.func208, Tryz.ntmps208; go_wp2_with fail; refine (len32_any _ _ (by omega) (by omega)).mono ?_; rintro e w1 ⟨rfl, rfl⟩; rw [Int.toNat_natCast]; generalize Lib.bitLen x = n at *; go_wp2; go_ret; refine ⟨32 - n, xv5 (by omega), rfl, by omega, ?_, ?_⟩
 . have h2 := Nat.mul_le_mul_right (2 ^ (32 - n)) H.out.2.1
   rw [<- Nat.pow_add, show n - 1 + (32 - n) = 31 by omega] at h2; omega
 . have h3 := Nat.mul_lt_mul_of_pos_right H.out.2.2 (Nat.pow_pos (n := 32 - n) (show 0 < 2 by omega))
   rw [<- Nat.pow_add, show n + (32 - n) = 32 by omega] at h3; omega
structure Fr (c o b : Nat) (w w' : World) : Prop where
 os : w'.os = w.os
 tape : w'.tape = w.tape
 output : w'.output = w.output
 size : w.heap.size <= w'.heap.size
 block : ∀ k, k < w.heap.size -> k ≠ c -> k ≠ b -> w'.heap[k]? = w.heap[k]?
 cell : ∀ x, x ≠ o -> w'.cell? ⟨c, x, none⟩ = w.cell? ⟨c, x, none⟩
 frozen : ∀ x, w'.frozen? ⟨c, x, none⟩ = w.frozen? ⟨c, x, none⟩
 lt : c < w.heap.size
section
variable {c o b : Nat} {w w1 w2 : World}
theorem Fr.refl (o b : Nat) (h : c < w.heap.size) : Fr c o b w w := ⟨rfl, rfl, rfl, Nat.le_refl _, fun _ _ _ _ => rfl, fun _ _ => rfl, fun _ => rfl, h⟩
theorem Fr.since (h : Fr c o b w w1) (s : w1.Since w1.heap.size w2) : Fr c o b w w2 := by
 have hc : c < w1.heap.size := Nat.lt_of_lt_of_le h.lt h.size
 exact ⟨s.os.trans h.os, s.tape.trans h.tape, s.output.trans h.output, Nat.le_trans h.size s.size, fun k k1 k2 k3 => (s.block k (Nat.lt_of_lt_of_le k1 h.size)).trans (h.block k k1 k2 k3),
  fun x hx => (s.cell (a := ⟨c, x, none⟩) hc).trans (h.cell x hx), fun x => (s.frozen (a := ⟨c, x, none⟩) hc).trans (h.frozen x), h.lt⟩
theorem Fr.same (h : Fr c o b w w1) (s : Same w1 w2) : Fr c o b w w2 := h.since (s.since _)
theorem Fr.set (h : Fr c o b w w1) (v : Value) : Fr c o b w (w1.setCell ⟨c, o, none⟩ v) :=
 ⟨h.os, h.tape, h.output, Nat.le_trans h.size (by simp [World.setCell]), fun k k1 k2 k3 => (Below.heap_setCell _ _ _ _ k2).trans (h.block k k1 k2 k3),
   fun x hx => by rw [World.cell?_setCell_other _ _ _ _ (fun e => by have := congrArg Addr.off e; simp at this; omega)]; exact h.cell x hx, fun x => by simp [h.frozen x], h.lt⟩
theorem Fr.setNew (h : Fr c o b w w1) {g x : Nat} (hg : g = b ∨ w.heap.size <= g) (hgc : g ≠ c) (v : Value) : Fr c o b w (w1.setCell ⟨g, x, none⟩ v) :=
 ⟨h.os, h.tape, h.output, Nat.le_trans h.size (by simp [World.setCell]), fun k k1 k2 k3 => (Below.heap_setCell _ _ _ _ (show k ≠ g by omega)).trans (h.block k k1 k2 k3),
   fun y hy => by rw [World.cell?_setCell_other _ _ _ _ (fun e => by have := congrArg Addr.block e; simp at this; omega)]; exact h.cell y hy, fun y => by simp [h.frozen y], h.lt⟩
theorem Fr.marked (h : Fr c o b w w1) {g : Nat} (m : xq0 w1 w2 g) (hg : g = b ∨ w.heap.size <= g) (hgc : g ≠ c) : Fr c o b w w2 :=
 ⟨m.os.trans h.os, m.tape.trans h.tape, m.output.trans h.output, by rw [m.size]; exact h.size, fun k k1 k2 k3 => (m.other k (by omega)).trans (h.block k k1 k2 k3),
   fun x hx => (m.cell (a := ⟨c, x, none⟩) (Ne.symm hgc)).trans (h.cell x hx), fun x => (m.frozenO (a := ⟨c, x, none⟩) (Ne.symm hgc)).trans (h.frozen x), h.lt⟩
theorem Fr.alloc (h : Fr c o b w w1) (x : Obj) : Fr c o b w (w1.alloc x) := h.since ((World.Since.refl _ _).alloc (Nat.le_refl _) _)
theorem Fr.grown (h : Fr c o b w w1) {row : Option Nat} (hg : w1.grownBy w2 row) (hr : ∀ k, row = some k -> w.heap.size <= k) : Fr c o b w w2 := by
 have hc : c < w1.heap.size := Nat.lt_of_lt_of_le h.lt h.size; have hcr : some c ≠ row := fun e => by have := hr c e.symm; have := h.lt; omega
 have hb := hg.block c hc hcr
 exact ⟨hg.os.trans h.os, hg.tape.trans h.tape, hg.output.trans h.output, Nat.le_trans h.size hg.size,
  fun k k1 k2 k3 => (hg.block k (Nat.lt_of_lt_of_le k1 h.size) (fun e => by have := hr k e.symm; omega)).trans (h.block k k1 k2 k3),
  fun x hx => (World.cell?_of_block (w := w1) (a := ⟨c, x, none⟩) hb).trans (h.cell x hx), fun x => (World.frozen?_of_block (w := w1) (a := ⟨c, x, none⟩) hb).trans (h.frozen x), h.lt⟩
end
theorem row_own {w : World} {base g t cap : Nat} {S : Nat -> Nat} (hr : w.rowIs g 159 cap (fun j => .int .u32 (S j))) (ht : t <= cap) (hc : cap <= maxLen) (hb : base <= g) : w.ownsRow base 159 1 (.slice (some ⟨g, 0, none⟩) t cap) t (ll S t) := by
 obtain ⟨cur, h1, h2, h3⟩ := hr; refine ⟨by rw [ll_len]; omega, .inr ⟨g, cap, cur, rfl, hb, h1, ht, hc, by omega, ?_⟩⟩
 apply List.ext_getElem?
 intro i; rw [Nat.mul_one]
 by_cases hi : i < t
 . rw [ll_get S t i hi, List.getElem?_take, if_pos hi]
   have := h3 i (by omega)
   simpa using this
 . rw [List.getElem?_eq_none (by rw [List.length_take]; omega), List.getElem?_eq_none (by rw [ll_len]; omega)]
theorem xj9 {w : World} {base : Nat} {v : Value} {m : Nat} {X : Nat -> Nat} (h : w.ownsRow base 159 1 v m (ll X m)) (hv : v ≠ .slice none 0 0) :
 ∃ g cap, v = .slice (some ⟨g, 0, none⟩) m cap /\ m <= cap /\ base <= g /\ g < w.heap.size /\ xq1 w (some ⟨g, 0, none⟩) g 0 m X /\ (∀ o, w.frozen? ⟨g, o, none⟩ = false) := by
 have hc := @World.ownsRow.cells _ _ _ _ _ _ _ h
 rcases h.2 with ⟨rfl, rfl⟩ | ⟨g, cap, cur, rfl, hb, hg, hm, _⟩
 . exact absurd rfl hv
 . refine ⟨g, cap, rfl, hm, hb, (Array.getElem?_eq_some_iff.1 hg).1, fun j hj => ⟨rfl, ?_⟩, fun o => by simp [World.frozen?, hg]⟩
   have := hc (g := g) rfl j _ (ll_get X m j hj); rw [Addr.add_lit] at this; exact this
theorem ll_congr {B C : Nat -> Nat} {m : Nat} (h : ∀ j, j < m -> B j = C j) : ll B m = ll C m := by
 unfold ll; exact List.map_congr_left (fun j hj => by rw [h j (List.mem_range.1 hj)])
theorem ll_capped (S : Nat -> Nat) (t : Nat) : ll (yz8 S t) (t + 1) = ll S t ++ [.int .u32 0] := by
 rw [ll_succ, capped_top, ll_congr (fun j hj => show yz8 S t j = S j by simp [yz8, hj])]
 rfl
theorem shiftLeft_small (c o : Nat) (a : Option Addr) (b off n cap s : Nat) (X : Nat -> Nat) (w : World) (hn : n <= 67108864) (hp : s < 32) (hX : xq1 w a b off n X)
 (hXl : ∀ j, j < n -> X j < 4294967296) (hc0 : w.cell? ⟨c, o, none⟩ = some (.slice a n cap)) (hf0 : w.frozen? ⟨c, o, none⟩ = false) :
 Calls Tryz.prog 209 #[.pointer (some ⟨c, o, none⟩), .int .i64 (s : Int)] w fun e w' => e = .returned (.tuple #[]) /\ ∃ w2 S, w.Since w.heap.size w2 /\ w2.rowIs w.heap.size 159 (n + 1) (fun j => .int .u32 (S j : Nat)) /\
  (∀ k, S k < 4294967296) /\ lv S (n + 1) = lv X n * 2 ^ s /\ w' = w2.setCell ⟨c, o, none⟩ (.slice (some ⟨w.heap.size, 0, none⟩) (tlen (nz S) (n + 1)) (n + 1)) := by
 have h := shiftLeft_any c o a b off n cap 0 s X w hn (by omega) hp hX hXl hc0 hf0; simp only [Nat.mul_zero, Nat.zero_add, Nat.add_zero] at h; exact h
theorem shiftRight_small (c o : Nat) (b n cap s : Nat) (X : Nat -> Nat) (w : World) (hn : n <= 268435456) (hnc : n <= cap) (hw : 0 < n) (hp : s < 32) (hX : xq1 w (some ⟨b, 0, none⟩) b 0 n X)
 (hXl : ∀ j, j < n -> X j < 4294967296) (hc0 : w.cell? ⟨c, o, none⟩ = some (.slice (some ⟨b, 0, none⟩) n cap)) (hf0 : w.frozen? ⟨c, o, none⟩ = false) (hf : ∀ o, w.frozen? ⟨b, o, none⟩ = false) (hcb : c ≠ b) :
 Calls Tryz.prog 213 #[.pointer (some ⟨c, o, none⟩), .int .i64 (s : Int)] w fun e w' => e = .returned (.tuple #[]) /\ ∃ w2 S k, xq0 w w2 b /\ xq1 w2 (some ⟨b, 0, none⟩) b 0 k S /\
  k <= n /\ (∀ j, j < k -> S j < 4294967296) /\ lv S k = lv X n / 2 ^ s /\ w' = w2.setCell ⟨c, o, none⟩ (.slice (some ⟨b, 0, none⟩) (tlen (nz S) k) cap) := by
 have h := shiftRight_any c o b n cap 0 s X w hn hnc hw hp hX hXl hc0 hf0 hf hcb; simp only [Nat.mul_zero, Nat.zero_add] at h; exact h
def xj0 (w : World) (v : Value) (g N M : Nat) : Prop :=
 ∃ a m cap Y, v = .slice a m cap /\ m <= cap /\ m <= M /\ (a = none -> cap = 0) /\ xq1 w a g 0 m Y /\ (0 < m -> ∀ o, w.frozen? ⟨g, o, none⟩ = false) /\ (∀ j, j < m -> Y j < 4294967296) /\ (0 < m -> Y (m - 1) ≠ 0) /\ lv Y m = N
def xk3 (w : World) (v : Value) (g : Nat) : Prop := ∀ a m cap, v = .slice a m cap -> a ≠ none -> yj7 w g 159 cap /\ cap <= maxLen
theorem own_shape {w : World} {base g n cap : Nat} {a : Addr} {xs : List Value} (h : w.ownsRow base 159 1 (.slice (some a) n cap) n xs) (e : a = ⟨g, 0, none⟩) : yj7 w g 159 cap /\ cap <= maxLen := by
 subst e; obtain ⟨-, h | ⟨g', cap', cur, e, -, hh, -, hm, hs, -⟩⟩ := h
 . cases h.1
 . cases e
   exact ⟨⟨cur, hh, by simpa using hs⟩, hm⟩
structure Lg (c o b : Nat) (w wr : World) (G BQ QB nn dl L cG : Nat) (S1 W Q : Nat -> Nat) : Prop where
 fr : Fr c o b w wr
 cC : wr.cell? ⟨c, o, none⟩ = some (.slice (some ⟨G, 0, none⟩) nn cG)
 box : wr.cell? ⟨w.heap.size, 0, none⟩ = some (.slice (some ⟨w.heap.size + 1, 0, none⟩) dl (dl + 1))
 D : xq1 wr (some ⟨w.heap.size + 1, 0, none⟩) (w.heap.size + 1) 0 dl S1
 LW : xq1 wr (some ⟨G, 0, none⟩) G 0 nn W
 FG : ∀ x, wr.frozen? ⟨G, x, none⟩ = false
 rQ : wr.rowIs BQ 159 L (fun j => .int .u32 (Q j))
 bQ : wr.rowIs QB 165 1 (fun _ => .slice (some ⟨BQ, 0, none⟩) L L)
 g0 : w.heap.size + 2 <= G
 g1 : G < BQ
 g2 : G < QB
 g3 : BQ ≠ QB
 sh : yj7 wr G 159 cG /\ cG <= maxLen
section
variable {c o b : Nat} {w wr wr' : World} {G BQ QB nn dl L cG : Nat} {S1 W W' Q : Nat -> Nat}
theorem Lg.same (h : Lg c o b w wr G BQ QB nn dl L cG S1 W Q) (s : Same wr wr') : Lg c o b w wr' G BQ QB nn dl L cG S1 W Q :=
 ⟨h.fr.same s, by rw [s.cell]; exact h.cC, by rw [s.cell]; exact h.box, h.D.same s, h.LW.same s, fun x => by rw [s.frozen]; exact h.FG x, h.rQ.of_block (by rw [s.heap]), h.bQ.of_block (by rw [s.heap]), h.g0, h.g1, h.g2, h.g3, h.sh.1.of_block (by rw [s.heap]), h.sh.2⟩
theorem Lg.marked (h : Lg c o b w wr G BQ QB nn dl L cG S1 W Q) (m : xq0 wr wr' G) (hL : xq1 wr' (some ⟨G, 0, none⟩) G 0 nn W') : Lg c o b w wr' G BQ QB nn dl L cG S1 W' Q := by
 have := h.g0; have := h.g1; have := h.g2; have := h.fr.lt
 exact ⟨h.fr.marked m (Or.inr (by omega)) (by omega), by rw [m.cell (a := ⟨c, o, none⟩) (by show c ≠ G; omega)]; exact h.cC, by rw [m.cell (a := ⟨w.heap.size, 0, none⟩) (by show w.heap.size ≠ G; omega)]; exact h.box,
  h.D.marked m (fun _ => by omega), hL, fun x => by rw [m.frozen]; exact h.FG x, h.rQ.of_block (m.other _ (by omega)), h.bQ.of_block (m.other _ (by omega)), h.g0, h.g1, h.g2, h.g3, m.shape _ _ h.sh.1, h.sh.2⟩
theorem Lg.put (h : Lg c o b w wr G BQ QB nn dl L cG S1 W Q) (i v : Nat) : Lg c o b w (wr.setCell ⟨BQ, i, none⟩ (.int .u32 v)) G BQ QB nn dl L cG S1 W (upd Q i v) := by
 have := h.g0; have := h.g1; have := h.g2; have := h.g3; have := h.fr.lt; refine ⟨h.fr.setNew (Or.inr (by omega)) (by omega) _, ?_, ?_, h.D.setOther (by omega) _, h.LW.setOther (by omega) _, fun x => by simp [h.FG x], (h.rQ.set i _).congr (fun j _ => ?_), h.bQ.setOther (by show QB ≠ BQ; omega) _, h.g0, h.g1, h.g2, h.g3, h.sh.1.setCell _ _ _, h.sh.2⟩
 . rw [World.cell?_setCell_other _ _ _ _ (fun e => by have := congrArg Addr.block e; simp at this; omega)]; exact h.cC
 . rw [World.cell?_setCell_other _ _ _ _ (fun e => by have := congrArg Addr.block e; simp at this; omega)]; exact h.box
 . by_cases e : j = i <;> simp [upd, e]
end
theorem divideByLong_any (c o : Nat) (a a' : Option Addr) (b n cap b' dl cap' : Nat) (X Y : Nat -> Nat) (w : World) (hn : n <= 33554432) (hdn : dl <= n) (hdl : 2 <= dl)
 (hc0 : w.cell? ⟨c, o, none⟩ = some (.slice a n cap)) (hf0 : w.frozen? ⟨c, o, none⟩ = false) (hX : xq1 w a b 0 n X) (hY : xq1 w a' b' 0 dl Y) (hXl : ∀ j, j < n -> X j < 4294967296) (hYl : ∀ j, j < dl -> Y j < 4294967296)
 (tX : X (n - 1) ≠ 0) (tY : Y (dl - 1) ≠ 0) :
 Calls Tryz.prog 189 #[.pointer (some ⟨c, o, none⟩), .slice a' dl cap'] w fun e w' => ∃ vq vr gq gr, e = .returned vq /\ w'.cell? ⟨c, o, none⟩ = some vr /\ xj0 w' vq gq (lv X n / lv Y dl) (n + 2) /\ xj0 w' vr gr (lv X n % lv Y dl) (n + 2) /\
  w.heap.size <= gq /\ w.heap.size <= gr /\ gq ≠ gr /\ gq < w'.heap.size /\ gr < w'.heap.size /\ Fr c o b w w' /\ xk3 w' vr gr := by
 have hcl : c < w.heap.size := World.block_lt_of_cell? _ _ hc0; have kd : w.cell? ⟨b', dl - 1, none⟩ = some (.int .u32 (Y (dl - 1))) := by simpa using (hY (dl - 1) (by omega)).2
 have hbl : b' < w.heap.size := hY.lt (by omega); obtain ⟨rfl, -⟩ := hY 0 (by omega); have HtX := hide tX; have hy0 : 0 < Y (dl - 1) := by omega
 have hyl := hYl (dl - 1) (by omega); have hd1 : (1 : Int) <= (dl : Int) := by omega
 clear tX tY; go_enter Tryz.func189, Tryz.ntmps189; go_wp2_with fail; refine (lz32_any (Y (dl - 1)) _ hy0 hyl).mono ?_; rintro e w0 ⟨s, rfl, rfl, hs, hs1, hs2⟩; have HS1 := hide hs1; have HS2 := hide hs2; clear hs1 hs2; have f1 : Fr c o b w (w.alloc (.cells #[.slice (some ⟨b', 0, none⟩) dl cap'] 165)) := (Fr.refl o b hcl).alloc _; go_wp2_with fail; refine (shiftLeft_small w.heap.size 0 _ b' 0 dl cap' s Y _ (by omega) hs (hY.keep ((World.Since.refl _ _).alloc (Nat.le_refl _) _)) hYl (by simp [go_sem]) (by simp [go_sem])).mono ?_; rintro e w3 ⟨rfl, w2, S1, hs2, hr1, hS1, hv1, hw3⟩; have hz1 : (w.alloc (.cells #[.slice (some ⟨b', 0, none⟩) dl cap'] 165)).heap.size = w.heap.size + 1 := by simp
 rw [hz1] at hs2 hr1 hw3; clear hz1 f1; obtain ⟨et, ev, ed, ed1, ed2⟩ := shl_divisor (by omega) hs hYl hS1 HS1.out HS2.out hv1; rw [et] at hw3; have z2 : w.heap.size + 2 <= w2.heap.size := by have := hr1.lt; omega
 have s2 : w.Since w.heap.size w2 := ((World.Since.refl _ _).alloc (Nat.le_refl _) _).trans (sM hs2 (by omega)); have s3 : w.Since w.heap.size w3 := by rw [hw3]; exact s2.setCell (Nat.le_refl _) _
 have box3 : w3.cell? ⟨w.heap.size, 0, none⟩ = some (.slice (some ⟨w.heap.size + 1, 0, none⟩) dl (dl + 1)) := by
  rw [hw3]; refine World.cell?_setCell_same _ _ _ (u := .slice (some ⟨b', 0, none⟩) dl cap') ?_; rw [hs2.cell (a := ⟨w.heap.size, 0, none⟩) (by simp)]; simp [go_sem]
 have D3 : xq1 w3 (some ⟨w.heap.size + 1, 0, none⟩) (w.heap.size + 1) 0 dl S1 := by
  rw [hw3]; exact ((xz7 hr1).take (by omega)).setOther (by omega) _
 have z3 : w.heap.size + 2 <= w3.heap.size := by rw [hw3]; simpa [World.setCell] using z2
 have HS := hide hS1; have HEv := hide ev; have HEd := hide ed; have HE1 := hide ed1; have HE2 := hide ed2; have HYl := hide hYl; clear hw3 hs2 hr1 s2 z2 ev ed ed1 ed2 et hv1 hS1 hYl hY kd HS1 HS2 hy0 hyl; go_wp2_with fail; refine (shiftLeft_small c o a b 0 n cap s X _ (by omega) hs (hX.keep s3) hXl (by rw [s3.cell (a := ⟨c, o, none⟩) hcl]; exact hc0) (by rw [s3.frozen (a := ⟨c, o, none⟩) hcl]; exact hf0)).mono ?_; rintro e w5 ⟨rfl, w4, S2, s4, hr2, hS2, hv2, hw5⟩; obtain ⟨t2, ht2⟩ : ∃ t, t = tlen (nz S2) (n + 1) := ⟨_, rfl⟩; rw [<- ht2] at hw5; have ht2l : t2 <= n + 1 := by rw [ht2]; exact xj3 _ _
 have HV2 : Hid (lv S2 t2 = lv X n * 2 ^ s) := by rw [ht2]; exact (xz8 _ _).trans hv2
 have ht2g : n <= t2 := by
  by_cases h : n <= t2
  . exact h
  . exfalso
    have h1 := yj5 S2 t2 (fun j _ => hS2 j); have h2 := lv_ge X n (by omega) HtX.out; have h3 : 2 ^ (32 * t2) <= 2 ^ (32 * (n - 1)) := Nat.pow_le_pow_right (by omega) (by omega); have h4 : lv X n * 1 <= lv X n * 2 ^ s := Nat.mul_le_mul_left _ (Nat.pow_pos (by omega)); have h5 := HV2.out; omega
 have HS2 := hide hS2; clear ht2 hv2 hS2; have c4 : w4.cell? ⟨c, o, none⟩ = some (.slice a n cap) := by rw [s4.cell (a := ⟨c, o, none⟩) (by show c < _; omega), s3.cell (a := ⟨c, o, none⟩) hcl]; exact hc0
 have c5 : w5.cell? ⟨c, o, none⟩ = some (.slice (some ⟨w3.heap.size, 0, none⟩) t2 (n + 1)) := by rw [hw5]; exact World.cell?_setCell_same _ _ _ c4
 have fr5 : Fr c o b w w5 := by rw [hw5]; exact (((Fr.refl o b hcl).since s3).since s4).set _
 have row5 : w5.rowIs w3.heap.size 159 (n + 1) (fun j => .int .u32 (S2 j)) := by rw [hw5]; exact hr2.setOther (by show w3.heap.size ≠ c; omega) _
 have box5 : w5.cell? ⟨w.heap.size, 0, none⟩ = some (.slice (some ⟨w.heap.size + 1, 0, none⟩) dl (dl + 1)) := by
  rw [hw5, World.cell?_setCell_other _ _ _ _ (fun h => by have := congrArg Addr.block h; simp at this; omega), s4.cell (a := ⟨w.heap.size, 0, none⟩) (by show w.heap.size < _; omega)]; exact box3
 have D5 : xq1 w5 (some ⟨w.heap.size + 1, 0, none⟩) (w.heap.size + 1) 0 dl S1 := by rw [hw5]; exact (D3.keep s4).setOther (by omega) _
 have z5 : w3.heap.size < w5.heap.size := row5.lt; clear hw5 c4 hr2 s4 box3 D3 s3 hX hc0; have f5 : w5.frozen? ⟨c, o, none⟩ = false := by rw [fr5.frozen]; exact hf0
 obtain ⟨i0, hi, hz0, hz1, hz2⟩ := info_parts Tryz.info159
 go_wp2_with (at_builtin; refine wpList_append_own _ rfl _ _ 165 rfl w3.heap.size 159 i0 (.int .u32 0) 1 4 Tryz.underlying165 hi hz0 hz1 hz2 rfl (by decide) _ _ _ rfl ((row_own row5 ht2l (by unfold maxLen; omega) (Nat.le_refl _)).alloc _) ⟨w5.heap.size, 0, none⟩ 1 1 [.int .u32 0] rfl rfl (xj2 _ _ _) (xj6 _ rfl) (by unfold maxLen; omega) (by omega) (by simp; omega) ?_)
 intro v' w6 hown' hgrow hnn; rw [<- ll_capped] at hown'; obtain ⟨G, cG, rfl, hcG, hG, hGl, L6, F6⟩ := xj9 hown' hnn; have H6 := own_shape hown' rfl; have fr6 : Fr c o b w w6 := (fr5.alloc _).grown hgrow (fun k hk => by simp [Value.ownBlock] at hk; omega); have hcc : some c ≠ (Value.slice (some ⟨w3.heap.size, 0, none⟩) t2 (n + 1)).ownBlock := by simp [Value.ownBlock]; omega
 have c6 : w6.cell? ⟨c, o, none⟩ = some (.slice (some ⟨w3.heap.size, 0, none⟩) t2 (n + 1)) := hgrow.cell (a := ⟨c, o, none⟩) (by rw [World.cell?_alloc_old _ _ _ (by show c ≠ _; omega)]; exact c5) hcc; have f6 : w6.frozen? ⟨c, o, none⟩ = false := by rw [fr6.frozen]; exact hf0
 have box6 : w6.cell? ⟨w.heap.size, 0, none⟩ = some (.slice (some ⟨w.heap.size + 1, 0, none⟩) dl (dl + 1)) := hgrow.cell (a := ⟨w.heap.size, 0, none⟩) (by rw [World.cell?_alloc_old _ _ _ (by show w.heap.size ≠ _; omega)]; exact box5) (by simp [Value.ownBlock]; omega); have D6 : xq1 w6 (some ⟨w.heap.size + 1, 0, none⟩) (w.heap.size + 1) 0 dl S1 := fun j hj => ⟨rfl, hgrow.cell (a := ⟨w.heap.size + 1, 0 + j, none⟩) (by rw [World.cell?_alloc_old _ _ _ (by show w.heap.size + 1 ≠ _; omega)]; exact (D5 j hj).2) (by simp [Value.ownBlock]; omega)⟩
 have z6 : w5.heap.size + 1 <= w6.heap.size := by have := hgrow.size; simpa using this
 clear hown' hgrow hnn hcc fr5 c5 f5 row5 box5 D5 hi hz0 hz1 hz2; obtain ⟨nn, hnn⟩ : ∃ nn, nn = t2 + 1 := ⟨_, rfl⟩; rw [<- hnn] at L6 hcG ⊢; obtain ⟨L, hL⟩ : ∃ L, L = nn - dl := ⟨_, rfl⟩; have hnL : nn = L + dl := by omega
 have HnL := hide hnL; have hLi : (nn : Int) - (dl : Int) = (L : Int) := by omega
 have hmk := run_make_row' (P := Tryz.prog) 165 159 (.int .u32 0) 4 Tryz.underlying165 Tryz.info159 rfl .i64 .i64 L (by omega) (by omega); have hLp : 1 <= L := by omega
 have HNN := hide hnn; have hnnl : nn <= n + 2 := by omega
 clear hL hnL hnn; go_wp2; have fr7 := fr6.set (.slice (some ⟨G, 0, none⟩) nn cG); have c7 := World.cell?_setCell_same _ _ (.slice (some ⟨G, 0, none⟩) nn cG) c6
 have box7 : (w6.setCell ⟨c, o, none⟩ (.slice (some ⟨G, 0, none⟩) nn cG)).cell? ⟨w.heap.size, 0, none⟩ = some (.slice (some ⟨w.heap.size + 1, 0, none⟩) dl (dl + 1)) := by
  rw [World.cell?_setCell_other _ _ _ _ (fun h => by have := congrArg Addr.block h; simp at this; omega)]; exact box6
 have D7 := D6.setOther (c := c) (o := o) (by omega) (.slice (some ⟨G, 0, none⟩) nn cG); have L7 := L6.setOther (c := c) (o := o) (by omega) (.slice (some ⟨G, 0, none⟩) nn cG); have F7 : ∀ x, (w6.setCell ⟨c, o, none⟩ (.slice (some ⟨G, 0, none⟩) nn cG)).frozen? ⟨G, x, none⟩ = false := fun x => by simp [F6 x]
 have H7 : yj7 (w6.setCell ⟨c, o, none⟩ (.slice (some ⟨G, 0, none⟩) nn cG)) G 159 cG /\ cG <= maxLen := ⟨H6.1.setCell _ _ _, H6.2⟩; have z7 : (w6.setCell ⟨c, o, none⟩ (.slice (some ⟨G, 0, none⟩) nn cG)).heap.size = w6.heap.size := by simp [World.setCell]
 generalize w6.setCell ⟨c, o, none⟩ (.slice (some ⟨G, 0, none⟩) nn cG) = w7 at *; rw [<- z7] at z6 hGl; clear z7 fr6 c6 f6 box6 D6 L6 F6; have n1 : c ≠ w7.heap.size := by omega
 have n2 : w.heap.size ≠ w7.heap.size := by omega
 have hLw : IntKind.i64.wrap (L : Int) = (L : Int) := by rw [IntKind.wrap_i64]; omega
 have a0 : ∀ x, (w7.alloc x).cell? ⟨w.heap.size, 0, none⟩ = some (.slice (some ⟨w.heap.size + 1, 0, none⟩) dl (dl + 1)) := fun x => by rw [World.cell?_alloc_old _ _ _ n2]; exact box7
 have a1 : ∀ x, (w7.alloc x).cell? ⟨c, o, none⟩ = some (.slice (some ⟨G, 0, none⟩) nn cG) := fun x => by rw [World.cell?_alloc_old _ _ _ n1]; exact c7
 go_region
 all_goals go_wp2
 all_goals clear a0 a1 hmk hLw
 focus
  have rQ := (World.rowIs_made w7 (.int .u32 0) L 159).alloc (.cells #[.slice (some ⟨w7.heap.size, 0, none⟩) L L] 165); have bQ := World.rowIs_alloc (w7.alloc (.cells (madeCells #[.int .u32 0] L) 159)) #[.slice (some ⟨w7.heap.size, 0, none⟩) L L] 165 (fun _ => .slice (some ⟨w7.heap.size, 0, none⟩) L L) (fun i hi => by simp at hi; subst hi; rfl); rw [show (w7.alloc (.cells (madeCells #[.int .u32 0] L) 159)).heap.size = w7.heap.size + 1 by simp] at bQ; have sL : w7.Since w7.heap.size ((w7.alloc (.cells (madeCells #[.int .u32 0] L) 159)).alloc (.cells #[.slice (some ⟨w7.heap.size, 0, none⟩) L L] 165)).drew := (((World.Since.refl _ _).alloc (Nat.le_refl _) _).alloc (by simp) _).drew; have rQ := rQ.drew; have bQ := bQ.drew; obtain ⟨QB, hQB⟩ : ∃ x, x = w7.heap.size + 1 := ⟨_, rfl⟩; obtain ⟨BQ, hBQ⟩ : ∃ x, x = w7.heap.size := ⟨_, rfl⟩; generalize ((w7.alloc (.cells (madeCells #[.int .u32 0] L) 159)).alloc (.cells #[.slice (some ⟨w7.heap.size, 0, none⟩) L L] 165)).drew = wL at *; rw [<- hQB] at bQ; rw [<- hQB]; rw [<- hBQ] at bQ rQ; rw [<- hBQ]
 rotate_left
 focus
  have bQ := (World.rowIs_alloc w7 #[.slice (some ⟨w7.heap.size + 1, 0, none⟩) L L] 165 (fun _ => .slice (some ⟨w7.heap.size + 1, 0, none⟩) L L) (fun i hi => by simp at hi; subst hi; rfl)).alloc (.cells (madeCells #[.int .u32 0] L) 159); have rQ := World.rowIs_made (w7.alloc (.cells #[.slice (some ⟨w7.heap.size + 1, 0, none⟩) L L] 165)) (.int .u32 0) L 159; rw [show (w7.alloc (.cells #[.slice (some ⟨w7.heap.size + 1, 0, none⟩) L L] 165)).heap.size = w7.heap.size + 1 by simp] at rQ; have sL : w7.Since w7.heap.size ((w7.alloc (.cells #[.slice (some ⟨w7.heap.size + 1, 0, none⟩) L L] 165)).alloc (.cells (madeCells #[.int .u32 0] L) 159)).drew := (((World.Since.refl _ _).alloc (Nat.le_refl _) _).alloc (by simp) _).drew; have rQ := rQ.drew; have bQ := bQ.drew; obtain ⟨BQ, hBQ⟩ : ∃ x, x = w7.heap.size + 1 := ⟨_, rfl⟩; obtain ⟨QB, hQB⟩ : ∃ x, x = w7.heap.size := ⟨_, rfl⟩; generalize ((w7.alloc (.cells #[.slice (some ⟨w7.heap.size + 1, 0, none⟩) L L] 165)).alloc (.cells (madeCells #[.int .u32 0] L) 159)).drew = wL at *; rw [<- hBQ] at bQ rQ; rw [<- hBQ]; rw [<- hQB] at bQ; rw [<- hQB]
 all_goals
  have lg0 : Lg c o b w wL G BQ QB nn dl L cG S1 (yz8 S2 t2) (fun _ => 0) := ⟨fr7.since sL, by rw [sL.cell (a := ⟨c, o, none⟩) (by show c < _; omega)]; exact c7, by rw [sL.cell (a := ⟨w.heap.size, 0, none⟩) (by show w.heap.size < _; omega)]; exact box7,
   D7.keep sL, L7.keep sL, fun x => by rw [sL.frozen (a := ⟨G, x, none⟩) hGl]; exact F7 x, rQ, bQ, by omega, by omega, by omega, by omega, H7.1.since sL hGl, H7.2⟩
  clear rQ bQ sL hQB hBQ H7; have hN := long_start (W := yz8 S2 t2) (D := lv S1 dl) (dl := dl) (L := L) (nn := nn) HnL.out (by omega) (capped_lt t2 HS2.out) (by rw [HNN.out]; exact capped_top S2 t2) HE1.out; have HN := hide hN; have hD0 : 0 < lv S1 dl := by have := HE1.out; have := Nat.pow_pos (n := 32 * (dl - 1)) (show 0 < 2 by omega); omega
  have HD0 := hide hD0; clear hN hD0 fr7 c7 box7 D7 L7 F7 n1 n2
  go_loopw [7] (fun q wr => ∃ (k : Nat) (z : Int) (W Q : Nat -> Nat), k <= L /\ q = .int .i64 z /\ Hid (z = k - 1) /\ Lg c o b w wr G BQ QB nn dl L cG S1 W Q /\ Hid (LongRel (lv (yz8 S2 t2) nn) (lv S1 dl) dl L nn W Q k)) (fun q _ => (intOf q + 1).toNat)
  case atStart => exact ⟨L, (L : Int) - 1, _, _, Nat.le_refl _, rfl, rfl, lg0, HN⟩
  case round =>
   clear lg0 HN; obtain ⟨k, z, W, Q, hk, rfl, HZ, lg, HR⟩ := hrel
   by_cases hz : 0 <= z
   . obtain ⟨p, rfl⟩ := Int.eq_ofNat_of_zero_le hz
     have hkp : k = p + 1 := by have := HZ.out; omega
     subst hkp; clear HZ; have q1 := lg.box; have hpn : p + dl < nn := by have := HnL.out; omega
     go_wp2_with fail; refine (guess_any c o G nn cG (w.heap.size + 1) dl (dl + 1) p W S1 _ (by omega) hdl hpn lg.cC lg.LW lg.D HR.out.2.2.2.1 (fun j _ => HS.out j) HEd.out (long_top HR.out (by omega) rfl (fun j _ => HS.out j))).mono ?_; rintro e w8 ⟨rfl, s8⟩; have lg8 := lg.same s8; have hgs := long_guess (W := W) (Y := S1) (a := p) hdl rfl (fun j _ => HS.out j) HR.out.2.2.2.1 (by have := HEd.out; omega) (long_window HR.out); have hgl := guess3_le (W (p + dl)) (W (p + dl - 1)) (W (p + dl - 2)) (S1 (dl - 1)) (S1 (dl - 2)); generalize guess3 (W (p + dl)) (W (p + dl - 1)) (W (p + dl - 2)) (S1 (dl - 1)) (S1 (dl - 2)) = g at *; have HGS := hide hgs; clear hgs lg s8 q1; have q1 := lg8.box; go_wp2_with fail; refine (takeTimes_any c o G nn cG (w.heap.size + 1) dl (dl + 1) g p W S1 _ (by omega) hgl hpn lg8.cC lg8.FG (by have := lg8.g0; omega) (by have := lg8.g0; omega) lg8.LW lg8.D HR.out.2.2.2.1 (fun j _ => HS.out j)).mono ?_; rintro e w9 ⟨W1, bo, rfl, m9, L9, v9, e9, l9⟩; have lg9 := lg8.marked m9 L9; have HV9 := hide v9; have HE9 := hide e9; have HL9 := hide l9; clear m9 L9 v9 e9 l9 lg8 q1; have hpL : (p : Int) < (L : Int) := by omega
     cases bo with
     | false =>
       have hw9 : win W1 p (dl + 1) + g * lv S1 dl = win W p (dl + 1) := by have := HV9.out; simpa [win] using this
       have hgq := take_exact HD0.out hw9 HGS.out.1; obtain ⟨HLR, -⟩ := long_step HR.out (by omega) HE2.out HD0.out hgq hw9 HE9.out HL9.out; have HLR := hide HLR; have q2 := lg9.bQ.cell (i := 0) (by omega); have q3 := lg9.rQ.cell (i := p) (by omega); have q4 := lg9.rQ.frozen p; clear hw9 hgq HV9 HE9 HL9 HR HGS; go_wp2; go_roundw
       case rel => exact ⟨p, (p : Int) - 1, _, _, by omega, by go_num, rfl, lg9.put p g, HLR⟩
       case measure => simp [intOf]
     | true =>
       have q1 := lg9.box
       have hg1 : 1 <= g := by
        by_cases h : 1 <= g
        . exact h
        . exfalso
          have e0 : g = 0 := by omega
          have h1 := HV9.out; have h2 := win_lt HL9.out p (dl + 1); unfold win at h2; rw [e0] at h1
          simp at h1
          omega
       go_wp2_with fail; refine (giveBack_any c o G nn cG (w.heap.size + 1) dl (dl + 1) p W1 S1 _ (by omega) hpn lg9.cC lg9.FG (by have := lg9.g0; omega) (by have := lg9.g0; omega) lg9.LW lg9.D HL9.out (fun j _ => HS.out j)).mono ?_; rintro e w10 ⟨W2, cy, rfl, m10, L10, v10, e10, l10, hcy⟩; have lg10 := lg9.marked m10 L10; have hto := take_over (U := win W p (dl + 1)) (V := win W1 p (dl + 1)) (V2 := win W2 p (dl + 1)) HD0.out (by have := HV9.out; simpa [win] using this) (win_lt HL9.out p (dl + 1)) HGS.out.2 v10 hcy (win_lt l10 p (dl + 1)); obtain ⟨HLR, -⟩ := long_step HR.out (by omega) HE2.out HD0.out hto.2.1 hto.2.2 (fun k hk => (e10 k hk).trans (HE9.out k hk)) l10; have HLR := hide HLR; have q2 := lg10.bQ.cell (i := 0) (by omega); have q3 := lg10.rQ.cell (i := p) (by omega); have q4 := lg10.rQ.frozen p; clear hto v10 e10 l10 HV9 HE9 HL9 HR HGS q1 lg9 L10 m10; go_wp2; go_roundw
       case rel =>
        have := lg10.put p (g - 1); rw [show ((g - 1 : Nat) : Int) = (g : Int) - 1 by omega] at this; exact ⟨p, (p : Int) - 1, _, _, by omega, by go_num, rfl, this, HLR⟩
       case measure => simp [intOf]
   . have hk0 : k = 0 := by have := HZ.out; omega
     subst hk0; obtain ⟨vQ, vW⟩ := long_end HR.out (by have := HnL.out; omega); have eN : lv (yz8 S2 t2) nn = lv X n * 2 ^ s := by rw [HNN.out, lv_capped]; exact HV2.out
     rw [eN, HEv.out] at vQ vW; have q2 := lg.bQ.cell (i := 0) (by omega); have q3 := lg.bQ.frozen 0; have hWl := hide HR.out.2.2.2.1; have hQl := hide HR.out.2.2.2.2; have HVQ : Hid (lv Q L = lv X n / lv Y dl) := vQ.trans shl_div.1; have HVW : Hid (lv W nn / 2 ^ s = lv X n % lv Y dl) := by rw [vW]; exact shl_div.2
     clear vQ vW eN HR; have j0 := lg.g0; have j1 := lg.g1; have j2 := lg.g2; have j3 := lg.g3; go_wp2_with fail; refine (xx2 QB 0 _ BQ 0 L L Q _ (by omega) (Nat.le_refl _) q2 q3 (xz7 lg.rQ)).mono ?_; rintro e w8 ⟨rfl, hw8⟩; have fr8 : Fr c o b w w8 := by rw [hw8]; exact lg.fr.setNew (Or.inr (by omega)) (by omega) _
     have c8 : w8.cell? ⟨c, o, none⟩ = some (.slice (some ⟨G, 0, none⟩) nn cG) := by rw [hw8, World.cell?_setCell_other _ _ _ _ (fun e => by have := congrArg Addr.block e; simp at this; omega)]; exact lg.cC
     have L8 : xq1 w8 (some ⟨G, 0, none⟩) G 0 nn W := by rw [hw8]; exact lg.LW.setOther (by omega) _
     have F8 : ∀ x, w8.frozen? ⟨G, x, none⟩ = false := fun x => by rw [hw8]; simp [lg.FG x]
     have H8 : yj7 w8 G 159 cG /\ cG <= maxLen := ⟨by rw [hw8]; exact lg.sh.1.setCell _ _ _, lg.sh.2⟩; have r8 : w8.rowIs BQ 159 L (fun j => .int .u32 (Q j)) := by rw [hw8]; exact lg.rQ.setOther (by show BQ ≠ QB; omega) _
     have b8 : w8.cell? ⟨QB, 0, none⟩ = some (.slice (some ⟨BQ, 0, none⟩) (tlen (nz Q) L) L) := by rw [hw8]; exact World.cell?_setCell_same _ _ _ q2
     clear hw8 lg q2 q3; go_wp2_with fail; refine (shiftRight_small c o G nn cG s W _ (by omega) hcG (by have := HnL.out; omega) hs L8 (fun j _ => hWl.out j) c8 (by rw [fr8.frozen]; exact hf0) F8 (by omega)).mono ?_; rintro e w9 ⟨rfl, w10, S3, k3, m10, L10, hk3, l10, v10, hw9⟩; have HV10 := hide (v10.trans HVW.out); have fr9 : Fr c o b w w9 := by rw [hw9]; exact (fr8.marked m10 (Or.inr (by omega)) (by omega)).set _
     have H9 : yj7 w9 G 159 cG /\ cG <= maxLen := ⟨by rw [hw9]; exact (m10.shape _ _ H8.1).setCell _ _ _, H8.2⟩; have r9 : w9.rowIs BQ 159 L (fun j => .int .u32 (Q j)) := by rw [hw9]; exact (r8.of_block (m10.other _ (by omega))).setOther (by show BQ ≠ c; omega) _
     have b9 : w9.cell? ⟨QB, 0, none⟩ = some (.slice (some ⟨BQ, 0, none⟩) (tlen (nz Q) L) L) := by
      rw [hw9, World.cell?_setCell_other _ _ _ _ (fun e => by have := congrArg Addr.block e; simp at this; omega), m10.cell (a := ⟨QB, 0, none⟩) (by show QB ≠ G; omega)]; exact b8
     have c9 : w9.cell? ⟨c, o, none⟩ = some (.slice (some ⟨G, 0, none⟩) (tlen (nz S3) k3) cG) := by
      rw [hw9]; exact World.cell?_setCell_same _ _ _ ((m10.cell (a := ⟨c, o, none⟩) (by show c ≠ G; omega)).trans c8)
     have L9 : xq1 w9 (some ⟨G, 0, none⟩) G 0 k3 S3 := by rw [hw9]; exact L10.setOther (by omega) _
     have F9 : ∀ x, w9.frozen? ⟨G, x, none⟩ = false := fun x => by rw [hw9]; simp [m10.frozen, F8 x]
     have zG : G < w9.heap.size := by have := r9.lt; omega
     clear v10 hw9 m10 L10 L8 F8 r8 b8 c8 fr8; go_wp2; go_ret; have t1 := xj3 (nz Q) L; have t2 := xj3 (nz S3) k3; have hLn : L <= n + 2 := by have := HnL.out; omega
     refine ⟨_, _, BQ, G, rfl, c9, ⟨_, _, _, Q, rfl, t1, by omega, fun h => (by cases h), (xz7 r9).take t1, fun _ x => r9.frozen x, fun j _ => hQl.out j, fun h => ?_, (xz8 _ _).trans HVQ.out⟩,
      ⟨_, _, _, S3, rfl, by omega, by omega, fun h => (by cases h), L9.take t2, fun _ x => F9 x, fun j hj => l10 j (by omega), fun h => ?_, (xz8 _ _).trans HV10.out⟩, by omega, by omega, by omega, r9.lt, zG, fr9, fun _ _ _ h _ => by cases h; exact H9⟩
     . have := xj8 _ _ h; simpa [nz] using this
     . have := xj8 _ _ h; simpa [nz] using this
def extL (Y : Nat -> Nat) (m : Nat) : Nat -> Nat := fun j => if j < m then Y j else 0
theorem yx0 (Y : Nat -> Nat) (m n : Nat) (h : m <= n) : lv (extL Y m) n = lv Y m := by
 rw [lv_more (extL Y m) m n h (fun j h1 _ => by simp [extL]; omega)]; exact xz6 (fun j hj => by simp [extL, hj])
def SubL (X V Y : Nat -> Nat) (m i c : Nat) : Prop := lv V i + lv (extL Y m) i = lv X i + c * 2 ^ (32 * i) /\ c <= 1 /\ (∀ k, i <= k -> V k = X k) /\ ∀ k, k < i -> V k < 4294967296
theorem subL_step {X V Y : Nat -> Nat} {m i c s c' x y : Nat} (h : SubL X V Y m i c) (hx : V i = x) (hy : extL Y m i = y) (hs : s < 4294967296) (hc : c' <= 1) (e : s + y + c = x + c' * 4294967296) : SubL X (upd V i s) Y m (i + 1) c' := by
 obtain ⟨h1, h2, h3, h4⟩ := h; have hx0 : X i = x := by rw [<- hx]; exact (h3 i (Nat.le_refl _)).symm
 refine ⟨?_, hc, fun k hk => by rw [xq3 _ _ _ _ (by omega)]; exact h3 k (by omega), fun k hk => ?_⟩
 . simp only [lv, xq5, lv_upd V i s i (Nat.le_refl _), hx0, hy]
   rw [pow32]; generalize 2 ^ (32 * i) = P at *; have e2 : s * P + y * P + c * P = x * P + c' * (4294967296 * P) := by rw [<- Nat.mul_assoc, <- Nat.add_mul, <- Nat.add_mul, <- Nat.add_mul, e]
   omega
 . by_cases e2 : k = i
   . subst e2; rw [xq5]; exact hs
   . rw [xq3 _ _ _ _ e2]; exact h4 k (by omega)
theorem subL_end {X V Y : Nat -> Nat} {n m c : Nat} (h : SubL X V Y m n c) (hm : m <= n) (hle : lv Y m <= lv X n) : lv V n = lv X n - lv Y m := by
 obtain ⟨h1, h2, h3, h4⟩ := h; rw [yx0 Y m n hm] at h1; have hc : c = 0 ∨ c = 1 := by omega
 rcases hc with rfl | rfl
 . omega
 . have := yj5 V n (fun j hj => h4 j hj)
   omega
theorem xq1.putI {w : World} {a : Option Addr} {b n i : Nat} {Q : Nat -> Nat} (h : xq1 w a b 0 n Q) (v : Nat) (E : Int) (hE : E = (v : Int)) : xq1 (w.setCell ⟨b, i, none⟩ (.int .u32 E)) a b 0 n (upd Q i v) := by subst hE; exact h.put v
theorem wrap_neg1 : IntKind.u64.wrap (-1) = 18446744073709551615 := by rw [IntKind.wrap_u64]; rfl
theorem subtract_any (c o b n cap : Nat) (a' : Option Addr) (b' off' m cap' : Nat) (X Y : Nat -> Nat) (w : World) (hn : n <= 268435456) (hnc : n <= cap) (hmn : m <= n) (hc0 : w.cell? ⟨c, o, none⟩ = some (.slice (some ⟨b, 0, none⟩) n cap)) (hf0 : w.frozen? ⟨c, o, none⟩ = false)
 (hf : ∀ x, w.frozen? ⟨b, x, none⟩ = false) (hcb : c ≠ b) (hbb : b' ≠ b) (hX : xq1 w (some ⟨b, 0, none⟩) b 0 n X) (hY : xq1 w a' b' off' m Y) (hXl : ∀ j, j < n -> X j < 4294967296) (hYl : ∀ j, j < m -> Y j < 4294967296) (hle : lv Y m <= lv X n) :
 Calls Tryz.prog 241 #[.pointer (some ⟨c, o, none⟩), .slice a' m cap'] w fun e w' => e = .returned (.tuple #[]) /\ ∃ w2 V, xq0 w w2 b /\ xq1 w2 (some ⟨b, 0, none⟩) b 0 n V /\ (∀ j, j < n -> V j < 4294967296) /\ lv V n = lv X n - lv Y m /\
  w' = w2.setCell ⟨c, o, none⟩ (.slice (some ⟨b, 0, none⟩) (tlen (nz V) n) cap) := by
 have HXl := hide hXl; have HYl := hide hYl; have HL := hide hle; clear hXl hYl hle; go_enter Tryz.func241, Tryz.ntmps241; go_wp2
 go_loopw [4, 12] (fun q t wr => ∃ (i cb : Nat) (V : Nat -> Nat), i <= n /\ t = .int .i64 i /\ q = .int .u64 cb /\ cb <= 1 /\ xq0 w wr b /\ xq1 wr (some ⟨b, 0, none⟩) b 0 n V /\ Hid (SubL X V Y m i cb)) (fun _ t _ => n - (intOf t).toNat)
 case atStart => exact ⟨0, 0, X, Nat.zero_le _, rfl, rfl, by omega, xq0.refl _ _, hX, ⟨by simp [lv], by omega, fun _ _ => rfl, fun k hk => absurd hk (by omega)⟩⟩
 case round =>
  obtain ⟨i, cb, V, hi, rfl, rfl, hcb1, hs, hV, HR⟩ := hrel; have q0 : wr.cell? ⟨c, o, none⟩ = some (.slice (some ⟨b, 0, none⟩) n cap) := by rw [hs.cell (a := ⟨c, o, none⟩) hcb]; exact hc0
  by_cases hlt : i < n
  . have g1 : wr.cell? ⟨b, i, none⟩ = some (.int .u32 (V i)) := by simpa using (hV i hlt).2
    have g2 : wr.frozen? ⟨b, i, none⟩ = false := by rw [hs.frozen]; exact hf _
    have hxl : V i < 4294967296 := by rw [HR.out.2.2.1 i (Nat.le_refl _)]; exact HXl.out i hlt
    have STEP := hide (fun (s c' : Nat) (y : Nat) (hy : extL Y m i = y) => subL_step (s := s) (c' := c') HR.out rfl hy); obtain ⟨x, ex⟩ : ∃ y, y = V i := ⟨_, rfl⟩; rw [<- ex] at g1 hxl STEP; clear ex; have hin : (i : Int) < (n : Int) := by omega
    by_cases him : i < m
    . obtain ⟨rfl, ky⟩ := hY i him
      have g3 : wr.cell? ⟨b', off' + i, none⟩ = some (.int .u32 (Y i)) := by rw [hs.cell (a := ⟨b', off' + i, none⟩) hbb]; exact ky
      have hyl := HYl.out i him; have HEy : Hid (extL Y m i = Y i) := by simp [Hid, extL, him]
      obtain ⟨y, ey⟩ : ∃ y, y = Y i := ⟨_, rfl⟩; rw [<- ey] at g3 hyl HEy; clear ey ky; have hc2 : cb = 0 ∨ cb = 1 := by omega
      rcases hc2 with rfl | rfl
      . by_cases hb : x < y
        . have hsw := sub_wrap x y hxl hyl hb
          obtain ⟨dd, edd⟩ : ∃ dd, dd = 18446744073709551616 + x - y := ⟨_, rfl⟩; rw [<- edd] at hsw; have hdd : dd <= 18446744073709551615 := by omega
          have HE := hide edd; clear edd; go_wp2; go_roundw
          case rel => go_light; exact ⟨i + 1, 1, _, by omega, by go_num, congrArg (Value.int .u64) (by have := HE.out; omega), by omega, hs.setCell _ _, hV.putI (x + 4294967296 - y) _ (by have := HE.out; omega), STEP.out _ _ y HEy.out (by omega) (by omega) (by omega)⟩
          case measure => simp [intOf]; omega
        . go_wp2
          go_roundw
          case rel => go_light; exact ⟨i + 1, 0, _, by omega, by go_num, congrArg (Value.int .u64) (by omega), by omega, hs.setCell _ _, hV.putI (x - y) _ (by omega), STEP.out _ _ y HEy.out (by omega) (by omega) (by omega)⟩
          case measure => simp [intOf]; omega
      . by_cases hx0 : x = 0
        . subst hx0
          have hw1 := wrap_neg1; go_wp2; go_roundw
          case rel => go_light; exact ⟨i + 1, 1, _, by omega, by go_num, congrArg (Value.int .u64) (by omega), by omega, hs.setCell _ _, hV.putI (4294967295 - y) _ (by omega), STEP.out _ _ y HEy.out (by omega) (by omega) (by omega)⟩
          case measure => simp [intOf]; omega
        . obtain ⟨x', rfl⟩ : ∃ x', x = x' + 1 := ⟨x - 1, by omega⟩
          have hpr : ((x' + 1 : Nat) : Int) - 1 = (x' : Int) := by omega
          by_cases hb : x' < y
          . have hsw := sub_wrap x' y (by omega) hyl hb
            obtain ⟨dd, edd⟩ : ∃ dd, dd = 18446744073709551616 + x' - y := ⟨_, rfl⟩; rw [<- edd] at hsw; have hdd : dd <= 18446744073709551615 := by omega
            have HE := hide edd; clear edd; go_wp2; go_roundw
            case rel => go_light; exact ⟨i + 1, 1, _, by omega, by go_num, congrArg (Value.int .u64) (by have := HE.out; omega), by omega, hs.setCell _ _, hV.putI (x' + 4294967296 - y) _ (by have := HE.out; omega), STEP.out _ _ y HEy.out (by omega) (by omega) (by omega)⟩
            case measure => simp [intOf]; omega
          . go_wp2
            go_roundw
            case rel => go_light; exact ⟨i + 1, 0, _, by omega, by go_num, congrArg (Value.int .u64) (by omega), by omega, hs.setCell _ _, hV.putI (x' - y) _ (by omega), STEP.out _ _ y HEy.out (by omega) (by omega) (by omega)⟩
            case measure => simp [intOf]; omega
    . have HEy : Hid (extL Y m i = 0) := by simp [Hid, extL, him]
      have hc2 : cb = 0 ∨ cb = 1 := by omega
      rcases hc2 with rfl | rfl
      . go_wp2
        go_roundw
        case rel => go_light; exact ⟨i + 1, 0, _, by omega, by go_num, congrArg (Value.int .u64) (by omega), by omega, hs.setCell _ _, hV.putI x _ (by omega), STEP.out _ _ 0 HEy.out (by omega) (by omega) (by omega)⟩
        case measure => simp [intOf]; omega
      . by_cases hx0 : x = 0
        . subst hx0
          have hw1 := wrap_neg1; go_wp2; go_roundw
          case rel => go_light; exact ⟨i + 1, 1, _, by omega, by go_num, congrArg (Value.int .u64) (by omega), by omega, hs.setCell _ _, hV.putI 4294967295 _ (by omega), STEP.out _ _ 0 HEy.out (by omega) (by omega) (by omega)⟩
          case measure => simp [intOf]; omega
        . go_wp2
          go_roundw
          case rel => go_light; exact ⟨i + 1, 0, _, by omega, by go_num, congrArg (Value.int .u64) (by omega), by omega, hs.setCell _ _, hV.putI (x - 1) _ (by omega), STEP.out _ _ 0 HEy.out (by omega) (by omega) (by omega)⟩
          case measure => simp [intOf]; omega
  . have e : i = n := by omega
    subst e; have g3 : wr.frozen? ⟨c, o, none⟩ = false := by rw [hs.frozenO (a := ⟨c, o, none⟩) hcb]; exact hf0
    have HV := hide (subL_end HR.out hmn HL.out); go_wp2_with fail; refine (xx2 c o _ b 0 i cap V _ (by omega) hnc q0 g3 hV).mono ?_; rintro e w1 ⟨rfl, rfl⟩; go_wp2
    go_end0
    exact ⟨rfl, wr, V, hs, hV, HR.out.2.2.2, HV.out, rfl⟩
theorem cmpN_neg2 {x y : Nat} (h : x < y) : cmpN x y < 0 := by rw [cmpN_lt h]; decide
theorem cmpN_nonneg2 {x y : Nat} (h : y <= x) : 0 <= cmpN x y := by unfold cmpN; split <;> (try split) <;> omega
theorem xv1 {X Y : Nat -> Nat} {n m : Nat} (hY : ∀ j, j < m -> Y j < 4294967296) (pX : 0 < n -> X (n - 1) ≠ 0) (h : lv X n <= lv Y m) : n <= m := by
 by_cases e : n <= m
 . exact e
 . have := yz5 (A := Y) (B := X) hY (show m < n by omega) pX
   omega
theorem divideBy_full (c o : Nat) (a a' : Option Addr) (b n cap b' dl cap' : Nat) (X Y : Nat -> Nat) (w : World) (hn : n <= 33554432) (hnc : n <= cap) (hac : a = none -> cap = 0) (hdl : 0 < dl) (hdm : dl <= 33554432)
 (hc0 : w.cell? ⟨c, o, none⟩ = some (.slice a n cap)) (hf0 : w.frozen? ⟨c, o, none⟩ = false) (hX : xq1 w a b 0 n X) (hY : xq1 w a' b' 0 dl Y) (hXl : ∀ j, j < n -> X j < 4294967296) (hYl : ∀ j, j < dl -> Y j < 4294967296)
 (hf : 0 < n -> ∀ x, w.frozen? ⟨b, x, none⟩ = false) (hcb : c ≠ b) (hbl : 0 < n -> b < w.heap.size) (tX : 0 < n -> X (n - 1) ≠ 0) (tY : Y (dl - 1) ≠ 0) :
 Calls Tryz.prog 163 #[.pointer (some ⟨c, o, none⟩), .slice a' dl cap'] w fun e w' => ∃ vq vr gq gr, e = .returned vq /\ w'.cell? ⟨c, o, none⟩ = some vr /\ xj0 w' vq gq (lv X n / lv Y dl) (n + 2) /\ xj0 w' vr gr (lv X n % lv Y dl) (n + 2) /\
  (gq = b ∨ w.heap.size <= gq) /\ (gr = b ∨ w.heap.size <= gr) /\ gq ≠ gr /\ gq ≠ c /\ gr ≠ c /\ Fr c o b w w' /\ (xk3 w (.slice a n cap) b -> xk3 w' vr gr) := by
 have hcl : c < w.heap.size := World.block_lt_of_cell? _ _ hc0
 by_cases hlt : lv X n < lv Y dl
 . have hcmp := cmpN_neg2 hlt
   have HLt := hide hlt; have HtX := hide tX; have HXl := hide hXl; clear hlt tX; go_enter Tryz.func163, Tryz.ntmps163; go_wp2_with fail; refine (yq1 c o a a' b 0 n cap b' 0 dl cap' X Y _ (by omega) (by omega) hc0 hX hY hXl hYl HtX.out (fun _ => tY)).mono ?_; rintro e w1 ⟨rfl, s1⟩; clear hXl hYl tY; generalize cmpN (lv X n) (lv Y dl) = z at *; go_wp2; go_ret
   refine ⟨_, _, w1.heap.size + b + 1, b, rfl, by rw [s1.cell]; exact hc0, ⟨none, 0, 0, fun _ => 0, rfl, Nat.le_refl _, by omega, fun _ => rfl, fun j hj => absurd hj (by omega), fun h => absurd h (by omega), fun j hj => absurd hj (by omega), fun h => absurd h (by omega), ?_⟩,
    ⟨a, n, cap, X, rfl, hnc, by omega, hac, hX.same s1, fun h x => by rw [s1.frozen]; exact hf h x, HXl.out, HtX.out, ?_⟩, Or.inr (by rw [s1.size]; omega), Or.inl rfl, by omega, by rw [s1.size]; omega, by omega, (Fr.refl o b hcl).same s1, fun h a m cap e ha => ⟨(h a m cap e ha).1.of_block (by rw [s1.heap]), (h a m cap e ha).2⟩⟩
   . rw [Nat.div_eq_of_lt HLt.out]; rfl
   . rw [Nat.mod_eq_of_lt HLt.out]
 . have hcmp := cmpN_nonneg2 (Nat.le_of_not_lt hlt)
   have hdn := xv1 hXl (fun _ => tY) (Nat.le_of_not_lt hlt); have HtX := hide tX; have HXl := hide hXl; clear hlt tX
   by_cases h1 : dl = 1
   . subst h1
     obtain ⟨rfl, kd⟩ := hY 0 (by omega); have hyl := hYl 0 (by omega); have hy0 : 0 < Y 0 := by simp at tY; omega
     have HYv : Hid (lv Y 1 = Y 0) := by simp [Hid, lv]
     go_enter Tryz.func163, Tryz.ntmps163; go_wp2_with fail; refine (yq1 c o a _ b 0 n cap b' 0 1 cap' X Y _ (by omega) (by omega) hc0 hX hY hXl hYl HtX.out (fun _ => tY)).mono ?_; rintro e w1 ⟨rfl, s1⟩; clear hXl hYl tY; generalize cmpN (lv X n) (lv Y 1) = z at *; have fr1 : Fr c o b w w1 := (Fr.refl o b hcl).same s1; have c1 : w1.cell? ⟨c, o, none⟩ = some (.slice a n cap) := by rw [s1.cell]; exact hc0
     have d1 : w1.cell? ⟨b', 0, none⟩ = some (.int .u32 (Y 0)) := by rw [s1.cell]; simpa using kd
     have X1 := hX.same s1; have F1 : 0 < n -> ∀ x, w1.frozen? ⟨b, x, none⟩ = false := fun h x => by rw [s1.frozen]; exact hf h x
     have Z1 := hide s1.size; have zb : b < w1.heap.size := by rw [s1.size]; exact hbl (by omega)
     have zc : c < w1.heap.size := by rw [s1.size]; exact hcl
     have bl' : b' < w1.heap.size := World.block_lt_of_cell? _ _ d1; clear hX hY kd s1 hc0; have a1 : ∀ x, (w1.alloc x).cell? ⟨b', 0, none⟩ = some (.int .u32 (Y 0)) := fun x => by rw [World.cell?_alloc_old _ _ _ (by show b' ≠ _; omega)]; exact d1
     go_wp2_with fail; have sA := sal w1 (.cells #[.slice a n cap] 165); refine (divideByLimb_any w1.heap.size 0 a b n cap (Y 0) X _ (by omega) hnc (by simp [go_sem]) (by simp [go_sem]) (X1.keep sA) HXl.out (fun h x => by rw [sA.frozen (a := ⟨b, x, none⟩) zb]; exact F1 h x) (by omega) hy0 hyl).mono ?_; rintro e w3 ⟨rfl, w2, Q, m2, L2, l2, v2, hw3⟩; have z2 : w2.heap.size = w1.heap.size + 1 := by rw [m2.size]; simp
     have q0 : w2.cell? ⟨w1.heap.size, 0, none⟩ = some (.slice a n cap) := by rw [m2.cell (a := ⟨w1.heap.size, 0, none⟩) (by show w1.heap.size ≠ b; omega)]; simp [go_sem]
     have fr3 : Fr c o b w w3 := by rw [hw3]; exact ((fr1.alloc _).marked m2 (Or.inl rfl) (Ne.symm hcb)).setNew (Or.inr (by have := fr1.size; omega)) (by omega) _
     have c3 : w3.cell? ⟨c, o, none⟩ = some (.slice a n cap) := by
      rw [hw3, World.cell?_setCell_other _ _ _ _ (fun e => by have := congrArg Addr.block e; simp at this; omega), m2.cell (a := ⟨c, o, none⟩) hcb, World.cell?_alloc_old _ _ _ (by show c ≠ _; omega)]; exact c1
     have f3 : w3.frozen? ⟨c, o, none⟩ = false := by rw [fr3.frozen]; exact hf0
     have L3 : xq1 w3 a b 0 n Q := by rw [hw3]; exact L2.setOther (by omega) _
     have b3 : w3.cell? ⟨w1.heap.size, 0, none⟩ = some (.slice a (tlen (nz Q) n) cap) := by rw [hw3]; exact World.cell?_setCell_same _ _ _ q0
     have F3 : 0 < n -> ∀ x, w3.frozen? ⟨b, x, none⟩ = false := fun h x => by rw [hw3]; simp [m2.frozen, sA.frozen (a := ⟨b, x, none⟩) zb, F1 h x]
     have z3 : w1.heap.size + 1 <= w3.heap.size := by rw [hw3]; simp [World.setCell, z2]
     have HV2 := hide v2; have HL2 := hide l2; clear hw3 q0 z2 m2 L2 l2 v2 sA a1 d1 c1 X1 F1 fr1; obtain ⟨r, hr⟩ : ∃ r, r = lv X n % Y 0 := ⟨_, rfl⟩; have HRr := hide hr; have hrl : r < 4294967296 := by rw [hr]; have := Nat.mod_lt (lv X n) hy0; omega
     rw [<- hr]; clear hr; have nc : c ≠ w3.heap.size := by omega
     have a3 : ∀ x, (w3.alloc x).cell? ⟨c, o, none⟩ = some (.slice a n cap) := fun x => by rw [World.cell?_alloc_old _ _ _ nc]; exact c3
     have a4 : ∀ x, (w3.alloc x).frozen? ⟨c, o, none⟩ = false := fun x => by
      rw [((World.Since.refl _ w3).alloc (Nat.le_refl _) x).frozen (a := ⟨c, o, none⟩) (by show c < w3.heap.size; omega)]; exact f3
     have rr : (w3.alloc (.cells #[.int .u32 (r : Int)] 159)).rowIs w3.heap.size 159 1 (fun j => .int .u32 (((fun _ => r) : Nat -> Nat) j)) := World.rowIs_alloc w3 #[.int .u32 (r : Int)] 159 _ (fun i hi => by simp at hi; subst hi; rfl); go_wp2_with fail; have fr4 := (fr3.alloc (.cells #[.int .u32 (r : Int)] 159)).set (.slice (some ⟨w3.heap.size, 0, none⟩) 1 1); have c4 := World.cell?_setCell_same _ _ (.slice (some ⟨w3.heap.size, 0, none⟩) 1 1) (a3 (.cells #[.int .u32 (r : Int)] 159)); have R4 := (xz7 rr).setOther (c := c) (o := o) nc (.slice (some ⟨w3.heap.size, 0, none⟩) 1 1); refine (xx2 c o _ w3.heap.size 0 1 1 (fun _ => r) _ (by omega) (Nat.le_refl _) c4 (by rw [fr4.frozen]; exact hf0) R4).mono ?_; rintro e w5 ⟨rfl, hw5⟩; rw [setCell_twice] at hw5; have fr5 : Fr c o b w w5 := by rw [hw5]; exact (fr3.alloc _).set _
     have c5 : w5.cell? ⟨c, o, none⟩ = some (.slice (some ⟨w3.heap.size, 0, none⟩) (tlen (nz (fun _ => r)) 1) 1) := by rw [hw5]; exact World.cell?_setCell_same _ _ _ (a3 _)
     have R5 : xq1 w5 (some ⟨w3.heap.size, 0, none⟩) w3.heap.size 0 1 (fun _ => r) := by rw [hw5]; exact (xz7 rr).setOther nc _
     have H5 : yj7 w5 w3.heap.size 159 1 := by rw [hw5]; exact yj7.setCell ⟨_, heap_alloc_new w3 _, rfl⟩ _ _ _
     have FR5 : ∀ x, w5.frozen? ⟨w3.heap.size, x, none⟩ = false := fun x => by rw [hw5]; simp [rr.frozen x]
     have L5 : xq1 w5 a b 0 n Q := by rw [hw5]; exact (L3.keep ((World.Since.refl _ _).alloc (Nat.le_refl _) _)).setOther hcb _
     have F5 : 0 < n -> ∀ x, w5.frozen? ⟨b, x, none⟩ = false := fun h x => by
      rw [hw5]; simp [((World.Since.refl w3.heap.size w3).alloc (Nat.le_refl _) (.cells #[.int .u32 (r : Int)] 159)).frozen (a := ⟨b, x, none⟩) (by show b < w3.heap.size; omega), F3 h x]
     have b5 : w5.cell? ⟨w1.heap.size, 0, none⟩ = some (.slice a (tlen (nz Q) n) cap) := by
      rw [hw5, World.cell?_setCell_other _ _ _ _ (fun e => by have := congrArg Addr.block e; simp at this; omega), World.cell?_alloc_old _ _ _ (by show w1.heap.size ≠ _; omega)]; exact b3
     clear hw5 c4 R4 fr4 rr a3 a4 L3 F3 b3 c3 f3 fr3; go_wp2; go_ret; have t1 := xj3 (nz Q) n; have t2 := xj3 (nz (fun _ => r)) 1; have hz := Z1.out
     refine ⟨_, _, b, w3.heap.size, rfl, c5, ⟨_, _, _, Q, rfl, by omega, by omega, hac, L5.take t1, fun h x => F5 (by omega) x, fun j hj => HL2.out j (by omega), fun h => ?_, ?_⟩,
      ⟨_, _, _, fun _ => r, rfl, by omega, by omega, fun h => (by cases h), R5.take t2, fun _ x => FR5 x, fun j _ => hrl, fun h => ?_, ?_⟩, Or.inl rfl, Or.inr (by omega), by omega, by omega, by omega, fr5, fun _ _ _ _ h _ => by cases h; exact ⟨H5, by decide⟩⟩
     . have := xj8 _ _ h; simpa [nz] using this
     . rw [xz8, HV2.out, HYv.out]
     . have := xj8 _ _ h; simpa [nz] using this
     . rw [xz8, HYv.out, <- HRr.out]; simp [lv]
   . have h2 : 2 <= dl := by omega
     have hne : ((dl : Int) == 1) = false := by simp; omega
     have hn0 : 0 < n := by omega
     go_enter Tryz.func163, Tryz.ntmps163; go_wp2_with fail; refine (yq1 c o a a' b 0 n cap b' 0 dl cap' X Y _ (by omega) (by omega) hc0 hX hY hXl hYl HtX.out (fun _ => tY)).mono ?_; rintro e w1 ⟨rfl, s1⟩; generalize cmpN (lv X n) (lv Y dl) = z at *; go_wp2_with fail; refine (divideByLong_any c o a a' b n cap b' dl cap' X Y _ hn hdn h2 (by rw [s1.cell]; exact hc0) (by rw [s1.frozen]; exact hf0) (hX.same s1) (hY.same s1) hXl hYl (HtX.out hn0) tY).mono ?_; rintro e w2 ⟨vq, vr, gq, gr, rfl, k1, k2, k3, k4, k5, k6, k7, k8, k9, k10⟩; have hz := s1.size; rw [hz] at k4 k5; have hfr : Fr c o b w w2 := ⟨k9.os.trans s1.os, k9.tape.trans s1.tape, k9.output.trans s1.output, by rw [<- hz]; exact k9.size, fun k a1 a2 a3 => (k9.block k (by rw [hz]; exact a1) a2 a3).trans (by rw [s1.heap]), fun x hx => (k9.cell x hx).trans (s1.cell _), fun x => (k9.frozen x).trans (s1.frozen _), hcl⟩; clear k9 s1 hX hY hXl hYl; go_wp2; go_ret; exact ⟨vq, vr, gq, gr, rfl, k1, k2, k3, Or.inr k4, Or.inr k5, k6, by omega, by omega, hfr, fun _ => k10⟩
theorem yz7 (c o : Nat) (a a' : Option Addr) (b n cap b' dl cap' : Nat) (X Y : Nat -> Nat) (w : World) (hn : n <= 33554432) (hnc : n <= cap) (hac : a = none -> cap = 0) (hdl : 0 < dl) (hdm : dl <= 33554432)
 (hc0 : w.cell? ⟨c, o, none⟩ = some (.slice a n cap)) (hf0 : w.frozen? ⟨c, o, none⟩ = false) (hX : xq1 w a b 0 n X) (hY : xq1 w a' b' 0 dl Y) (hXl : ∀ j, j < n -> X j < 4294967296) (hYl : ∀ j, j < dl -> Y j < 4294967296)
 (hf : 0 < n -> ∀ x, w.frozen? ⟨b, x, none⟩ = false) (hcb : c ≠ b) (hbl : 0 < n -> b < w.heap.size) (tX : 0 < n -> X (n - 1) ≠ 0) (tY : Y (dl - 1) ≠ 0) :
 Calls Tryz.prog 163 #[.pointer (some ⟨c, o, none⟩), .slice a' dl cap'] w fun e w' => ∃ vq vr gq gr, e = .returned vq /\ w'.cell? ⟨c, o, none⟩ = some vr /\ xj0 w' vq gq (lv X n / lv Y dl) (n + 2) /\ xj0 w' vr gr (lv X n % lv Y dl) (n + 2) /\
  (gq = b ∨ w.heap.size <= gq) /\ (gr = b ∨ w.heap.size <= gr) /\ gq ≠ gr /\ gq ≠ c /\ gr ≠ c /\ Fr c o b w w' := by
 refine (divideBy_full c o a a' b n cap b' dl cap' X Y w hn hnc hac hdl hdm hc0 hf0 hX hY hXl hYl hf hcb hbl tX tY).mono ?_; rintro e w2 ⟨vq, vr, gq, gr, rfl, k1, k2, k3, k4, k5, k6, k7, k8, k9, -⟩; exact ⟨vq, vr, gq, gr, rfl, k1, k2, k3, k4, k5, k6, k7, k8, k9⟩
structure Gd (base : Nat) (w wr : World) (c d gn gm : Nat) (an am : Option Addr) (n m cn cm : Nat) (X Y : Nat -> Nat) : Prop where
 S : w.Since base wr
 bC : wr.cell? ⟨c, 0, none⟩ = some (.slice an n cn)
 bD : wr.cell? ⟨d, 0, none⟩ = some (.slice am m cm)
 fC : wr.frozen? ⟨c, 0, none⟩ = false
 fD : wr.frozen? ⟨d, 0, none⟩ = false
 LX : xq1 wr an gn 0 n X
 LY : xq1 wr am gm 0 m Y
 FX : 0 < n -> ∀ x, wr.frozen? ⟨gn, x, none⟩ = false
 FY : 0 < m -> ∀ x, wr.frozen? ⟨gm, x, none⟩ = false
 nX : n <= cn
 nY : m <= cm
 oX : an = none -> cn = 0
 oY : am = none -> cm = 0
 lX : ∀ j, j < n -> X j < 4294967296
 lY : ∀ j, j < m -> Y j < 4294967296
 pX : 0 < n -> X (n - 1) ≠ 0
 pY : 0 < m -> Y (m - 1) ≠ 0
 hc : base <= c
 hd : base <= d
 hn : base <= gn
 hm : base <= gm
 d1 : c ≠ d
 d2 : gn ≠ gm
 d3 : gn ≠ c
 d4 : gn ≠ d
 d5 : gm ≠ c
 d6 : gm ≠ d
 uX : xk3 wr (.slice an n cn) gn
 uY : xk3 wr (.slice am m cm) gm
section
variable {base : Nat} {w wr wr' : World} {c d gn gm : Nat} {an am : Option Addr} {n m cn cm : Nat} {X Y : Nat -> Nat}
theorem xk3.of_block {w w' : World} {v : Value} {g : Nat} (h : xk3 w v g) (e : w'.heap[g]? = w.heap[g]?) : xk3 w' v g := fun a m cap hv ha => ⟨(h a m cap hv ha).1.of_block e, (h a m cap hv ha).2⟩
theorem xk3.setCell {w : World} {v : Value} {g : Nat} (h : xk3 w v g) (c o : Nat) (x : Value) : xk3 (w.setCell ⟨c, o, none⟩ x) v g := fun a m cap hv ha => ⟨(h a m cap hv ha).1.setCell _ _ _, (h a m cap hv ha).2⟩
theorem xk3.marked {w w' : World} {v : Value} {g b : Nat} (h : xk3 w v g) (m : xq0 w w' b) : xk3 w' v g := by
 by_cases e : g = b
 . subst e; exact fun a k cap hv ha => ⟨m.shape _ _ (h a k cap hv ha).1, (h a k cap hv ha).2⟩
 . exact h.of_block (m.other _ e)
theorem xk3.len {w : World} {a : Option Addr} {n n' cap g : Nat} (h : xk3 w (.slice a n cap) g) : xk3 w (.slice a n' cap) g := fun a' m' cap' hv ha => by cases hv; exact h _ _ _ rfl ha
theorem Gd.same (h : Gd base w wr c d gn gm an am n m cn cm X Y) (s : Same wr wr') : Gd base w wr' c d gn gm an am n m cn cm X Y :=
 ⟨h.S.trans (s.since _), by rw [s.cell]; exact h.bC, by rw [s.cell]; exact h.bD, by rw [s.frozen]; exact h.fC, by rw [s.frozen]; exact h.fD, h.LX.same s, h.LY.same s, fun a x => by rw [s.frozen]; exact h.FX a x, fun a x => by rw [s.frozen]; exact h.FY a x,
   h.nX, h.nY, h.oX, h.oY, h.lX, h.lY, h.pX, h.pY, h.hc, h.hd, h.hn, h.hm, h.d1, h.d2, h.d3, h.d4, h.d5, h.d6, h.uX.of_block (by rw [s.heap]), h.uY.of_block (by rw [s.heap])⟩
theorem cellO {w : World} {a b : Addr} {v : Value} (h : a.block ≠ b.block) : (w.setCell a v).cell? b = w.cell? b := World.cell?_setCell_other _ _ _ _ (fun e => h (congrArg Addr.block e))
theorem Gd.swap (h : Gd base w wr c d gn gm an am n m cn cm X Y) : Gd base w ((wr.setCell ⟨c, 0, none⟩ (.slice am m cm)).setCell ⟨d, 0, none⟩ (.slice an n cn)) c d gm gn am an m n cm cn Y X := by
 have k1 := h.d1; have k2 := h.d3; have k3 := h.d4; have k4 := h.d5; have k5 := h.d6
 refine ⟨(h.S.setCell h.hc _).setCell h.hd _, ?_, ?_, by simp [h.fC], by simp [h.fD], (h.LY.setOther (Ne.symm k4) _).setOther (Ne.symm k5) _, (h.LX.setOther (Ne.symm k2) _).setOther (Ne.symm k3) _, fun a x => by simp [h.FY a x], fun a x => by simp [h.FX a x],
  h.nY, h.nX, h.oY, h.oX, h.lY, h.lX, h.pY, h.pX, h.hc, h.hd, h.hm, h.hn, h.d1, Ne.symm h.d2, h.d5, h.d6, h.d3, h.d4, (h.uY.setCell _ _ _).setCell _ _ _, (h.uX.setCell _ _ _).setCell _ _ _⟩
 . rw [cellO (by show d ≠ c; exact Ne.symm k1)]; exact World.cell?_setCell_same _ _ _ h.bC
 . refine World.cell?_setCell_same _ _ _ (u := .slice am m cm) ?_
   rw [cellO (by show c ≠ d; exact k1)]; exact h.bD
end
theorem Same.drew {w w' : World} (h : Same w w') : Same w w'.drew := ⟨h.os, h.tape, h.output, h.heap⟩
theorem xv7 (c o : Nat) (a : Option Addr) (n cap : Nat) (w : World) (hn : n <= 2) (hc0 : w.cell? ⟨c, o, none⟩ = some (.slice a n cap)) :
 Calls Tryz.prog 176 #[.pointer (some ⟨c, o, none⟩)] w fun e w' => e = .returned (.bool true) /\ w' = w := by
 have h := isShort_any c o a n cap w hc0; rw [show decide ((n : Int) <= 2) = true by simp; omega] at h; exact h
theorem yx5 (c o : Nat) (a : Option Addr) (n cap : Nat) (w : World) (hn : 2 < n) (hc0 : w.cell? ⟨c, o, none⟩ = some (.slice a n cap)) :
 Calls Tryz.prog 176 #[.pointer (some ⟨c, o, none⟩)] w fun e w' => e = .returned (.bool false) /\ w' = w := by
 have h := isShort_any c o a n cap w hc0; rw [show decide ((n : Int) <= 2) = false by simp; omega] at h; exact h
theorem xk8 {w : World} {a : Option Addr} {b off n : Nat} {X : Nat -> Nat} (h : xq1 w a b off n X) (hn : 0 < n) : a = some ⟨b, off, none⟩ := (h 0 hn).1
theorem short_lt {X : Nat -> Nat} {n : Nat} (hn : n <= 2) (h : ∀ j, j < n -> X j < 4294967296) : lv X n < 18446744073709551616 := by
 have h1 := yj5 X n h; have h2 : 2 ^ (32 * n) <= 2 ^ 64 := Nat.pow_le_pow_right (by omega) (by omega); omega
end Go.Proofs.YtnogbaapcjjngaaGreatDoor
