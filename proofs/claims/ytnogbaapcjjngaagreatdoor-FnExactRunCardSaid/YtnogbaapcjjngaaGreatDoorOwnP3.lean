import Derived.Test.YtnogbaapcjjngaaGreatDoorChecked
import Derived.Test.YtnogbaapcjjngaaGreatDoorOwnP1
import Derived.WalkKit
import Derived.Deep.OwnRows
import Derived.Deep.LoopGhost
import Derived.Deep.Light
import Derived.Deep.QuietTactic
import Derived.BigQuiet
set_option maxHeartbeats 6400000
set_option maxRecDepth 100000
namespace Go.Proofs.YtnogbaapcjjngaaGreatDoor
open Go.RowKit
theorem Tryz.info159 : (Tryz.prog.info? 159).map (fun i => (i.zero, i.size, i.bytes)) = some (some (.int .u32 0), 1, 4) := by kernel_rfl
theorem Tryz.info4 : (Tryz.prog.info? 4).map (fun i => (i.zero, i.size, i.bytes)) = some (some (.bool false), 1, 1) := by kernel_rfl
theorem hide {p : Prop} (h : p) : Hid p := h
theorem xv5 {k : IntKind} {a b : Int} (h : a = b) : Ending.returned (.int k a) = .returned (.int k b) := by rw [h]
def xq1 (w : World) (a : Option Addr) (b off n : Nat) (X : Nat -> Nat) : Prop :=
 ∀ j, j < n -> a = some ⟨b, off, none⟩ /\ w.cell? ⟨b, off + j, none⟩ = some (.int .u32 (X j))
def Bits (w : World) (a : Option Addr) (b off n : Nat) (B : Nat -> Bool) : Prop :=
 ∀ j, j < n -> a = some ⟨b, off, none⟩ /\ w.cell? ⟨b, off + j, none⟩ = some (.bool (B j))
theorem sM {B B' : Nat} {w w' : World} (h : w.Since B w') (hB : B' <= B) : w.Since B' w' := ⟨h.os, h.tape, h.output, h.size, fun k hk => h.block k (Nat.lt_of_lt_of_le hk hB)⟩
theorem sal (w : World) (o : Obj) : w.Since w.heap.size (w.alloc o) := (World.Since.refl _ _).alloc (Nat.le_refl _) _
theorem sdr (w : World) : w.Since w.heap.size w.drew := (World.Since.refl _ _).drew
structure Same (w w' : World) : Prop where
 os : w'.os = w.os
 tape : w'.tape = w.tape
 output : w'.output = w.output
 heap : w'.heap = w.heap
theorem Same.refl (w : World) : Same w w := ⟨rfl, rfl, rfl, rfl⟩
theorem Same.drewN {w w' : World} (h : Same w w') (n : Nat) : Same w (w'.drewN n) := ⟨h.os, h.tape, h.output, h.heap⟩
theorem Same.cell {w w' : World} (h : Same w w') (a : Addr) : w'.cell? a = w.cell? a := by simp [World.cell?, h.heap]
theorem Same.frozen {w w' : World} (h : Same w w') (a : Addr) : w'.frozen? a = w.frozen? a := by simp [World.frozen?, h.heap]
theorem Same.size {w w' : World} (h : Same w w') : w'.heap.size = w.heap.size := by rw [h.heap]
theorem Same.since {w w' : World} (h : Same w w') (B : Nat) : w.Since B w' := ⟨h.os, h.tape, h.output, by rw [h.heap]; exact Nat.le_refl _, fun k _ => by rw [h.heap]⟩
def yj7 (w : World) (b : Nat) (t : TypeId) (n : Nat) : Prop := ∃ cur : Array Value, w.heap[b]? = some (.cells cur t) /\ cur.size = n
theorem yj7.setCell {w : World} {b : Nat} {t : TypeId} {n : Nat} (h : yj7 w b t n) (c o : Nat) (v : Value) : yj7 (w.setCell ⟨c, o, none⟩ v) b t n := by
 obtain ⟨cur, h1, h2⟩ := h
 by_cases e : c = b
 . subst e
   have r : w.rowIs c t n (fun j => cur[j]?.getD (.bool false)) := ⟨cur, h1, h2, fun j hj => by show cur[j]? = some (cur[j]?.getD (.bool false)); rw [Array.getElem?_eq_getElem (by omega)]; rfl⟩; obtain ⟨c2, k1, k2, -⟩ := r.set o v; exact ⟨c2, k1, k2⟩
 . exact ⟨cur, (Below.heap_setCell _ _ _ _ (Ne.symm e)).trans h1, h2⟩
theorem yj7.since {w w' : World} {b B : Nat} {t : TypeId} {n : Nat} (h : yj7 w b t n) (s : w.Since B w') (hb : b < B) : yj7 w' b t n := by
 obtain ⟨cur, h1, h2⟩ := h; exact ⟨cur, (s.block b hb).trans h1, h2⟩
theorem yj7.of_block {w w' : World} {b : Nat} {t : TypeId} {n : Nat} (h : yj7 w b t n) (e : w'.heap[b]? = w.heap[b]?) : yj7 w' b t n := by
 obtain ⟨cur, h1, h2⟩ := h; exact ⟨cur, e.trans h1, h2⟩
theorem yj7.lt {w : World} {b : Nat} {t : TypeId} {n : Nat} (h : yj7 w b t n) : b < w.heap.size := by
 obtain ⟨cur, h1, -⟩ := h; exact (Array.getElem?_eq_some_iff.1 h1).1
structure xq0 (w w' : World) (b : Nat) : Prop where
 os : w'.os = w.os
 tape : w'.tape = w.tape
 output : w'.output = w.output
 size : w'.heap.size = w.heap.size
 other : ∀ k, k ≠ b -> w'.heap[k]? = w.heap[k]?
 frozen : ∀ o, w'.frozen? ⟨b, o, none⟩ = w.frozen? ⟨b, o, none⟩
 shape : ∀ t n, yj7 w b t n -> yj7 w' b t n
theorem xq0.refl (w : World) (b : Nat) : xq0 w w b := ⟨rfl, rfl, rfl, rfl, fun _ _ => rfl, fun _ => rfl, fun _ _ h => h⟩
theorem xq0.setCell {w w' : World} {b : Nat} (h : xq0 w w' b) (o : Nat) (v : Value) : xq0 w (w'.setCell ⟨b, o, none⟩ v) b :=
 ⟨h.os, h.tape, h.output, by rw [<- h.size]; simp [World.setCell], fun k hk => by rw [<- h.other k hk]; exact Below.heap_setCell _ _ _ _ hk, fun o' => by rw [<- h.frozen o']; simp, fun t n k => (h.shape t n k).setCell _ _ _⟩
theorem xq0.since {w w' : World} {b B : Nat} (h : xq0 w w' b) (hB : B <= b) : w.Since B w' :=
 ⟨h.os, h.tape, h.output, by rw [h.size]; exact Nat.le_refl _, fun k hk => h.other k (by omega)⟩
theorem xq0.cell {w w' : World} {b : Nat} (h : xq0 w w' b) {a : Addr} (hne : a.block ≠ b) : w'.cell? a = w.cell? a := World.cell?_of_block (w := w) (h.other _ hne)
theorem xq0.frozenO {w w' : World} {b : Nat} (h : xq0 w w' b) {a : Addr} (hne : a.block ≠ b) : w'.frozen? a = w.frozen? a := World.frozen?_of_block (w := w) (h.other _ hne)
section
variable {w w' : World} {a : Option Addr} {b off n m B : Nat} {X Y : Nat -> Nat} {T : Nat -> Bool}
theorem xq1.lt (h : xq1 w a b off n X) (hn : 0 < n) : b < w.heap.size := World.block_lt_of_cell? _ _ (h 0 hn).2
theorem Bits.lt (h : Bits w a b off n T) (hn : 0 < n) : b < w.heap.size := World.block_lt_of_cell? _ _ (h 0 hn).2
theorem xq1.since (h : xq1 w a b off n X) (hs : w.Since B w') (hb : 0 < n -> b < B) : xq1 w' a b off n X :=
 fun j hj => ⟨(h j hj).1, by rw [hs.cell (a := ⟨b, off + j, none⟩) (hb (by omega))]; exact (h j hj).2⟩
theorem xq1.keep (h : xq1 w a b off n X) (hs : w.Since w.heap.size w') : xq1 w' a b off n X := h.since hs h.lt
theorem Bits.since (h : Bits w a b off n T) (hs : w.Since B w') (hb : 0 < n -> b < B) : Bits w' a b off n T :=
 fun j hj => ⟨(h j hj).1, by rw [hs.cell (a := ⟨b, off + j, none⟩) (hb (by omega))]; exact (h j hj).2⟩
theorem Bits.keep (h : Bits w a b off n T) (hs : w.Since w.heap.size w') : Bits w' a b off n T := h.since hs h.lt
theorem xq1.same (h : xq1 w a b off n X) (hs : Same w w') : xq1 w' a b off n X :=
 fun j hj => ⟨(h j hj).1, by rw [hs.cell]; exact (h j hj).2⟩
theorem Bits.same (h : Bits w a b off n T) (hs : Same w w') : Bits w' a b off n T :=
 fun j hj => ⟨(h j hj).1, by rw [hs.cell]; exact (h j hj).2⟩
theorem xq1.marked {c : Nat} (h : xq1 w a b off n X) (hs : xq0 w w' c) (hne : 0 < n -> b ≠ c) : xq1 w' a b off n X :=
 fun j hj => ⟨(h j hj).1, by rw [hs.cell (a := ⟨b, off + j, none⟩) (hne (by omega))]; exact (h j hj).2⟩
theorem xq1.take (h : xq1 w a b off n X) (hm : m <= n) : xq1 w a b off m X := fun j hj => h j (by omega)
theorem Bits.take (h : Bits w a b off n T) (hm : m <= n) : Bits w a b off m T := fun j hj => h j (by omega)
theorem xq1.congr (h : xq1 w a b off n X) (e : ∀ j, j < n -> X j = Y j) : xq1 w a b off n Y := fun j hj => by rw [<- e j hj]; exact h j hj
theorem xz7 (h : w.rowIs b 159 n (fun j => .int .u32 (X j))) : xq1 w (some ⟨b, 0, none⟩) b 0 n X :=
 fun j hj => ⟨rfl, by rw [Nat.zero_add]; exact h.cell hj⟩
theorem bits_row (h : w.rowIs b 4 n (fun j => .bool (T j))) : Bits w (some ⟨b, 0, none⟩) b 0 n T :=
 fun j hj => ⟨rfl, by rw [Nat.zero_add]; exact h.cell hj⟩
end
theorem tlen_false {P : Nat -> Bool} {k : Nat} (h0 : 0 < k) (h : P (k - 1) = false) : tlen P (k - 1) = tlen P k := by
 obtain ⟨m, rfl⟩ : ∃ m, k = m + 1 := ⟨k - 1, by omega⟩; simp only [Nat.add_sub_cancel] at *
 simp [tlen, h]
theorem tlen_true {P : Nat -> Bool} {k : Nat} (h0 : 0 < k) (h : P (k - 1) = true) : tlen P k = k := by
 obtain ⟨m, rfl⟩ : ∃ m, k = m + 1 := ⟨k - 1, by omega⟩; simp only [Nat.add_sub_cancel] at *
 simp [tlen, h]
theorem ret_slice {a : Option Addr} {n m cap : Nat} (h : n = m) : Ending.returned (.slice a n cap) = .returned (.slice a m cap) := by rw [h]
theorem xv9 (a : Option Addr) (b off n cap : Nat) (B : Nat -> Bool) (w : World) (hn : n <= 281474976710656) (hnc : n <= cap) (hX : Bits w a b off n B) :
 Calls Tryz.prog 181 #[.slice a n cap] w fun e w' => e = .returned (.slice a (tlen B n) cap) /\ w' = w := by
 go_enter Tryz.func181, Tryz.ntmps181; go_wp2
 go_loop [3] (fun i => ∃ k : Nat, k <= n /\ i = .int .i64 k /\ tlen B k = tlen B n) (fun i => (intOf i).toNat)
 case atStart => exact ⟨n, Nat.le_refl _, rfl, rfl⟩
 case round =>
  obtain ⟨k, hk, rfl, ht⟩ := hrel; have HT : Hid (tlen B k = tlen B n) := ht; clear ht
  by_cases hlt : 0 < k
  . obtain ⟨rfl, hc⟩ := hX (k - 1) (by omega)
    cases hB : B (k - 1)
    . rw [hB] at hc
      have HB : Hid (B (k - 1) = false) := hB; clear hB; go_wp2
      go_round
      case rel => exact ⟨k - 1, by omega, by go_num, (tlen_false hlt HB.out).trans HT.out⟩
      case measure => simp [intOf]; omega
    . rw [hB] at hc
      have HB : Hid (B (k - 1) = true) := hB; clear hB; go_wp2; go_ret; exact ⟨ret_slice ((tlen_true hlt HB.out).symm.trans HT.out), rfl⟩
  . have e : k = 0 := by omega
    subst e; go_wp2; go_ret; exact ⟨ret_slice HT.out, rfl⟩
theorem trim_any (c : Nat) (a : Option Addr) (b off n cap : Nat) (X : Nat -> Nat) (w : World) (hn : n <= 281474976710656) (hnc : n <= cap)
 (hc0 : w.cell? ⟨c, 0, none⟩ = some (.slice a n cap)) (hf0 : w.frozen? ⟨c, 0, none⟩ = false) (hX : xq1 w a b off n X) :
 Calls Tryz.prog 188 #[.pointer (some ⟨c, 0, none⟩)] w fun e w' => e = .returned (.tuple #[]) /\ w' = w.setCell ⟨c, 0, none⟩ (.slice a (tlen (nz X) n) cap) := by
 go_enter Tryz.func188, Tryz.ntmps188; go_wp2
 go_loop [2] (fun i => ∃ k : Nat, k <= n /\ i = .int .i64 k /\ tlen (nz X) k = tlen (nz X) n) (fun i => (intOf i).toNat)
 case atStart => exact ⟨n, Nat.le_refl _, rfl, rfl⟩
 case round =>
  obtain ⟨k, hk, rfl, ht⟩ := hrel; have HT : Hid (tlen (nz X) k = tlen (nz X) n) := ht; clear ht
  by_cases hlt : 0 < k
  . obtain ⟨rfl, hc⟩ := hX (k - 1) (by omega)
    by_cases hB : X (k - 1) = 0
    . rw [hB] at hc
      have HB : Hid (nz X (k - 1) = false) := by simp [Hid, nz, hB]
      clear hB; go_wp2
      go_round
      case rel => exact ⟨k - 1, by omega, by go_num, (tlen_false hlt HB.out).trans HT.out⟩
      case measure => simp [intOf]; omega
    . have HB : Hid (nz X (k - 1) = true) := by simp [Hid, nz, hB]
      have hne : ((X (k - 1) : Int) == 0) = false := by simp; omega
      clear hB; go_wp2
      go_end0
      exact ⟨rfl, by rw [<- HT.out, tlen_true hlt HB.out]⟩
  . have e : k = 0 := by omega
    subst e; go_wp2
    go_end0
    exact ⟨rfl, by rw [<- HT.out]; rfl⟩
theorem yz3 (a : Option Addr) (b off n cap : Nat) (X : Nat -> Nat) (w : World) (hn : n <= 281474976710656) (hnc : n <= cap) (hX : xq1 w a b off n X) :
 Calls Tryz.prog 166 #[.slice a n cap] w fun e w' => e = .returned (.slice a (tlen (nz X) n) cap) /\ w.Since w.heap.size w' := by
 go_enter Tryz.func166, Tryz.ntmps166; go_wp2_with fail; refine (trim_any w.heap.size a b off n cap X _ hn hnc (by simp [go_sem]) (by simp [go_sem]) (hX.keep ((World.Since.refl _ _).alloc (Nat.le_refl _) _))).mono ?_; rintro e w1 ⟨rfl, rfl⟩; go_wp2; go_ret; exact ⟨rfl, (World.Since.refl _ _).alloc (Nat.le_refl _) _⟩
theorem xx2 (c o : Nat) (a : Option Addr) (b off n cap : Nat) (X : Nat -> Nat) (w : World) (hn : n <= 281474976710656) (hnc : n <= cap)
 (hc0 : w.cell? ⟨c, o, none⟩ = some (.slice a n cap)) (hf0 : w.frozen? ⟨c, o, none⟩ = false) (hX : xq1 w a b off n X) :
 Calls Tryz.prog 188 #[.pointer (some ⟨c, o, none⟩)] w fun e w' => e = .returned (.tuple #[]) /\ w' = w.setCell ⟨c, o, none⟩ (.slice a (tlen (nz X) n) cap) := by
 go_enter Tryz.func188, Tryz.ntmps188; go_wp2
 go_loop [2] (fun i => ∃ k : Nat, k <= n /\ i = .int .i64 k /\ tlen (nz X) k = tlen (nz X) n) (fun i => (intOf i).toNat)
 case atStart => exact ⟨n, Nat.le_refl _, rfl, rfl⟩
 case round =>
  obtain ⟨k, hk, rfl, ht⟩ := hrel; have HT : Hid (tlen (nz X) k = tlen (nz X) n) := ht; clear ht
  by_cases hlt : 0 < k
  . obtain ⟨rfl, hc⟩ := hX (k - 1) (by omega)
    by_cases hB : X (k - 1) = 0
    . rw [hB] at hc
      have HB : Hid (nz X (k - 1) = false) := by simp [Hid, nz, hB]
      clear hB; go_wp2
      go_round
      case rel => exact ⟨k - 1, by omega, by go_num, (tlen_false hlt HB.out).trans HT.out⟩
      case measure => simp [intOf]; omega
    . have HB : Hid (nz X (k - 1) = true) := by simp [Hid, nz, hB]
      have hne : ((X (k - 1) : Int) == 0) = false := by simp; omega
      clear hB; go_wp2
      go_end0
      exact ⟨rfl, by rw [<- HT.out, tlen_true hlt HB.out]⟩
  . have e : k = 0 := by omega
    subst e; go_wp2
    go_end0
    exact ⟨rfl, by rw [<- HT.out]; rfl⟩
theorem xk9 (c o : Nat) (a : Option Addr) (n cap : Nat) (w : World) (hc0 : w.cell? ⟨c, o, none⟩ = some (.slice a n cap)) :
 Calls Tryz.prog 126 #[.pointer (some ⟨c, o, none⟩)] w fun e w' => e = .returned (.bool ((n : Int) == 0)) /\ w' = w := by
 go_enter Tryz.func126, Tryz.ntmps126; go_wp2; go_ret; exact ⟨rfl, rfl⟩
theorem cmpInt_lt (x y : Int) (w : World) (h : x < y) : Calls Tryz.prog 206 #[.int .i64 x, .int .i64 y] w fun e w' => e = .returned (.int .i64 (-1)) /\ w' = w := by
 go_enter Tryz.func206, Tryz.ntmps206; go_wp2; go_ret; exact ⟨rfl, rfl⟩
theorem cmpInt_gt (x y : Int) (w : World) (h : y < x) : Calls Tryz.prog 206 #[.int .i64 x, .int .i64 y] w fun e w' => e = .returned (.int .i64 1) /\ w' = w := by
 go_enter Tryz.func206, Tryz.ntmps206; go_wp2; go_ret; exact ⟨rfl, rfl⟩
theorem cmpLimb_lt (x y : Int) (w : World) (h : x < y) : Calls Tryz.prog 207 #[.int .u32 x, .int .u32 y] w fun e w' => e = .returned (.int .i64 (-1)) /\ w' = w := by
 go_enter Tryz.func207, Tryz.ntmps207; go_wp2; go_ret; exact ⟨rfl, rfl⟩
theorem cmpLimb_gt (x y : Int) (w : World) (h : y < x) : Calls Tryz.prog 207 #[.int .u32 x, .int .u32 y] w fun e w' => e = .returned (.int .i64 1) /\ w' = w := by
 go_enter Tryz.func207, Tryz.ntmps207; go_wp2; go_ret; exact ⟨rfl, rfl⟩
theorem yq1 (c o : Nat) (a a' : Option Addr) (b off n cap b' off' m cap' : Nat) (A B : Nat -> Nat) (w : World) (hn : n <= 281474976710656) (hm : m <= 281474976710656) (hc0 : w.cell? ⟨c, o, none⟩ = some (.slice a n cap))
 (hA : xq1 w a b off n A) (hB : xq1 w a' b' off' m B) (lA : ∀ j, j < n -> A j < 4294967296) (lB : ∀ j, j < m -> B j < 4294967296) (tA : 0 < n -> A (n - 1) ≠ 0) (tB : 0 < m -> B (m - 1) ≠ 0) :
 Calls Tryz.prog 187 #[.pointer (some ⟨c, o, none⟩), .slice a' m cap'] w fun e w' => e = .returned (.int .i64 (cmpN (lv A n) (lv B m))) /\ Same w w' := by
 by_cases h1 : n < m
 . rw [cmpN_lt (yz5 lA h1 tB)]
   clear tA tB lA lB; go_enter Tryz.func187, Tryz.ntmps187; go_wp2_with fail; refine (cmpInt_lt _ _ _ (by omega)).mono ?_; rintro e w1 ⟨rfl, rfl⟩; go_wp2; go_ret; exact ⟨rfl, Same.refl _⟩
 by_cases h2 : m < n
 . rw [cmpN_gt (yz5 lB h2 tA)]
   clear tA tB lA lB; go_enter Tryz.func187, Tryz.ntmps187; go_wp2_with fail; refine (cmpInt_gt _ _ _ (by omega)).mono ?_; rintro e w1 ⟨rfl, rfl⟩; go_wp2; go_ret; exact ⟨rfl, Same.refl _⟩
 have e : m = n := by omega
 subst e; have HA := hide lA; have HB := hide lB; clear tA tB h1 h2 lA lB; go_enter Tryz.func187, Tryz.ntmps187; go_wp2
 go_loopw [5] (fun t wr => ∃ (k : Nat) (z : Int), k <= m /\ t = .int .i64 z /\ Hid (z = k - 1) /\ Same w wr /\ Hid (∀ j, k <= j -> j < m -> A j = B j)) (fun t _ => (intOf t + 1).toNat)
 case atStart => exact ⟨m, (m : Int) - 1, Nat.le_refl _, rfl, rfl, Same.refl _, fun j h1 h2 => absurd h2 (by omega)⟩
 case round =>
  obtain ⟨k, z, hk, rfl, HZ, hs, HE⟩ := hrel
  by_cases hz : 0 <= z
  . obtain ⟨i, rfl⟩ := Int.eq_ofNat_of_zero_le hz
    have hki : k = i + 1 := by have := HZ.out; omega
    subst hki; clear HZ; obtain ⟨rfl, hc⟩ := hA i (by omega); obtain ⟨rfl, hc'⟩ := hB i (by omega); have g0 : wr.cell? ⟨b, off + i, none⟩ = some (.int .u32 (A i)) := by rw [hs.cell]; exact hc
    have g1 : wr.cell? ⟨b', off' + i, none⟩ = some (.int .u32 (B i)) := by rw [hs.cell]; exact hc'
    have g2 : wr.cell? ⟨c, o, none⟩ = some (.slice (some ⟨b, off, none⟩) m cap) := by rw [hs.cell]; exact hc0
    have hzi : (i : Int) < (m : Int) := by omega
    clear hc hc' hc0
    by_cases hab : A i = B i
    . have HAB : Hid (A i = B i) := hab
      rw [hab] at g0; clear hab; go_wp2
      go_quiet (fail)
      go_wp2; go_roundw
      case rel =>
       refine ⟨i, (i : Int) - 1, by omega, rfl, rfl, hs.drewN _, fun j h1 h2 => ?_⟩
       by_cases e : j = i
       . subst e; exact HAB.out
       . exact HE.out j (by omega) h2
      case measure => simp [intOf]
    . have hne : ((A i : Int) == (B i : Int)) = false := by simp; omega
      by_cases hlt : A i < B i
      . have HC : Hid (cmpN (lv A m) (lv B m) = -1) := cmpN_lt (lv_top HA.out (i := i) (by omega) (fun j h1 h2 => HE.out j (by omega) h2) hlt)
        go_wp2
        go_quiet (fail)
        go_wp2; have hs1 := hs.drewN nq; obtain ⟨wq, hwq⟩ : ∃ wq, wq = wr.drewN nq := ⟨_, rfl⟩; have q0 : wq.cell? ⟨b, off + i, none⟩ = some (.int .u32 (A i)) := by rw [hwq]; exact g0
        have q1 : wq.cell? ⟨b', off' + i, none⟩ = some (.int .u32 (B i)) := by rw [hwq]; exact g1
        have q2 : wq.cell? ⟨c, o, none⟩ = some (.slice (some ⟨b, off, none⟩) m cap) := by rw [hwq]; exact g2
        rw [<- hwq] at hs1 ⊢; clear hwq g0 g1 g2
        go_quiet ((go_at_call 207; exact Calls.quiet_of_same (cmpLimb_lt ((A i : Nat) : Int) ((B i : Nat) : Int) _ (by omega))))
        go_wp2; go_ret; exact ⟨xv5 HC.out.symm, hs1.drewN _⟩
      . have HC : Hid (cmpN (lv A m) (lv B m) = 1) := cmpN_gt (lv_top HB.out (i := i) (by omega) (fun j h1 h2 => (HE.out j (by omega) h2).symm) (by omega))
        have hgt : B i < A i := by omega
        go_wp2
        go_quiet (fail)
        go_wp2; have hs1 := hs.drewN nq; obtain ⟨wq, hwq⟩ : ∃ wq, wq = wr.drewN nq := ⟨_, rfl⟩; have q0 : wq.cell? ⟨b, off + i, none⟩ = some (.int .u32 (A i)) := by rw [hwq]; exact g0
        have q1 : wq.cell? ⟨b', off' + i, none⟩ = some (.int .u32 (B i)) := by rw [hwq]; exact g1
        have q2 : wq.cell? ⟨c, o, none⟩ = some (.slice (some ⟨b, off, none⟩) m cap) := by rw [hwq]; exact g2
        rw [<- hwq] at hs1 ⊢; clear hwq g0 g1 g2
        go_quiet ((go_at_call 207; exact Calls.quiet_of_same (cmpLimb_gt ((A i : Nat) : Int) ((B i : Nat) : Int) _ (by omega))))
        go_wp2; go_ret; exact ⟨xv5 HC.out.symm, hs1.drewN _⟩
  . have hk0 : k = 0 := by have := HZ.out; omega
    subst hk0; have HC : Hid (cmpN (lv A m) (lv B m) = 0) := cmpN_eq (xz6 (fun j hj => HE.out j (by omega) hj)); go_wp2; go_ret; exact ⟨xv5 HC.out.symm, hs⟩
def bl (B : Nat -> Bool) (m : Nat) : List Value := (List.range m).map fun j => .bool (B j)
theorem bl_len (B : Nat -> Bool) (m : Nat) : (bl B m).length = m := by simp [bl]
theorem bl_succ (B : Nat -> Bool) (m : Nat) : bl B (m + 1) = bl B m ++ [.bool (B m)] := by simp [bl, List.range_succ]
theorem bl_get (B : Nat -> Bool) (m j : Nat) (h : j < m) : (bl B m)[j]? = some (.bool (B j)) := by simp [bl, h]
def ll (X : Nat -> Nat) (m : Nat) : List Value := (List.range m).map fun j => .int .u32 (X j)
theorem ll_len (X : Nat -> Nat) (m : Nat) : (ll X m).length = m := by simp [ll]
theorem ll_succ (X : Nat -> Nat) (m : Nat) : ll X (m + 1) = ll X m ++ [.int .u32 (X m)] := by simp [ll, List.range_succ]
theorem ll_get (X : Nat -> Nat) (m j : Nat) (h : j < m) : (ll X m)[j]? = some (.int .u32 (X j)) := by simp [ll, h]
theorem own_bits {w : World} {base : Nat} {v : Value} {m : Nat} {B : Nat -> Bool} (h : w.ownsRow base 4 1 v m (bl B m)) :
 ∃ a g cap, v = .slice a m cap /\ m <= cap /\ (0 < m -> base <= g) /\ Bits w a g 0 m B := by
 have hc := @World.ownsRow.cells _ _ _ _ _ _ _ h
 rcases h.2 with ⟨rfl, rfl⟩ | ⟨g, cap, cur, rfl, hb, hg, hm, _⟩
 . exact ⟨none, 0, 0, rfl, Nat.le_refl _, fun h => absurd h (by omega), fun j hj => absurd hj (by omega)⟩
 . refine ⟨_, g, cap, rfl, hm, fun _ => hb, fun j hj => ⟨rfl, ?_⟩⟩
   have := hc (g := g) rfl j _ (bl_get B m j hj); rw [Addr.add_lit] at this; exact this
theorem own_limbs {w : World} {base : Nat} {v : Value} {m : Nat} {X : Nat -> Nat} (h : w.ownsRow base 159 1 v m (ll X m)) :
 ∃ a g cap, v = .slice a m cap /\ m <= cap /\ (0 < m -> base <= g) /\ xq1 w a g 0 m X /\ (0 < m -> ∀ o, w.frozen? ⟨g, o, none⟩ = false) := by
 have hc := @World.ownsRow.cells _ _ _ _ _ _ _ h
 rcases h.2 with ⟨rfl, rfl⟩ | ⟨g, cap, cur, rfl, hb, hg, hm, _⟩
 . exact ⟨none, 0, 0, rfl, Nat.le_refl _, fun h => absurd h (by omega), fun j hj => absurd hj (by omega), fun h => absurd h (by omega)⟩
 . refine ⟨_, g, cap, rfl, hm, fun _ => hb, fun j hj => ⟨rfl, ?_⟩, fun _ o => by simp [World.frozen?, hg]⟩
   have := hc (g := g) rfl j _ (ll_get X m j hj); rw [Addr.add_lit] at this; exact this
theorem bit_of (X : Nat -> Nat) (i k q : Nat) (hk : k < 32) (hq : q = X i / 2 ^ k) : ((q : Int) % 2 == 1) = bitsOf X (32 * i + k) := by
 have d1 : (32 * i + k) / 32 = i := by omega
 have d2 : (32 * i + k) % 32 = k := by omega
 unfold bitsOf; rw [d1, d2, <- hq, Bool.eq_iff_iff]; simp only [beq_iff_eq]; omega
theorem half_of (X : Nat -> Nat) (i k q : Nat) (hq : q = X i / 2 ^ k) : q / 2 = X i / 2 ^ (k + 1) := by
 rw [hq, Nat.div_div_eq_div_mul, Nat.pow_succ]
theorem xq7 (a : Option Addr) (b off n cap : Nat) (X : Nat -> Nat) (w : World) (hn : n <= 67108864) (hX : xq1 w a b off n X) (hXl : ∀ j, j < n -> X j < 4294967296) :
 Calls Tryz.prog 152 #[.slice a n cap] w fun e w' => ∃ a' g m cap' B, e = .returned (.slice a' m cap') /\ m <= cap' /\ m <= 32 * n /\ Bits w' a' g 0 m B /\ (0 < m -> w.heap.size <= g) /\
  (0 < m -> B (m - 1) = true) /\ bv B m = lv X n /\ w.Since w.heap.size w' := by
 obtain ⟨i0, hi, hz0, hz1, hz2⟩ := info_parts Tryz.info4; go_enter Tryz.func152, Tryz.ntmps152; go_wp2
 go_loopw [3, 4] (fun v q wr => ∃ i : Nat, i <= n /\ q = .int .i64 i /\ wr.ownsRow w.heap.size 4 1 v (32 * i) (bl (bitsOf X) (32 * i)) /\ w.Since w.heap.size wr) (fun _ i _ => n - (intOf i).toNat)
 case atStart =>
  exact ⟨0, Nat.zero_le _, rfl, World.ownsRow_made w #[] 0 (Nat.le_refl _) (by decide) rfl, (World.Since.refl _ _).alloc (Nat.le_refl _) _⟩
 case round =>
  obtain ⟨i, hin, rfl, hown, hs⟩ := hrel
  by_cases hlt : i < n
  . obtain ⟨rfl, hc⟩ := hX i hlt
    have g0 : wr.cell? ⟨b, off + i, none⟩ = some (.int .u32 (X i)) := by rw [hs.cell (a := ⟨b, off + i, none⟩) (hX.lt (by omega))]; exact hc
    clear hc; have hxi := hXl i hlt; go_wp2
    go_loopw [3, 5, 6] (fun v x t wr' => ∃ k q : Nat, k <= 32 /\ t = .int .i64 k /\ x = .int .u32 q /\ q = X i / 2 ^ k /\ q < 4294967296 /\ wr'.ownsRow w.heap.size 4 1 v (32 * i + k) (bl (bitsOf X) (32 * i + k)) /\ w.Since w.heap.size wr') (fun _ _ t _ => 32 - (intOf t).toNat)
    case atStart => exact ⟨0, X i, by omega, rfl, rfl, by simp, hxi, hown, hs⟩
    case round =>
     clear g0 hown hs; obtain ⟨k, q, hk, rfl, rfl, hq, hql, hown, hs⟩ := hrel; have HQ : Hid (q = X i / 2 ^ k) := hq; clear hq
     by_cases hk2 : k < 32
     . go_wp2_with (at_builtin; refine wpList_append_own _ rfl _ _ 134 rfl w.heap.size 4 i0 (.bool false) 1 1 Tryz.underlying134 hi hz0 hz1 hz2 rfl (by decide) _ _ _ rfl (hown.alloc _) ⟨wr.heap.size, 0, none⟩ 1 1 [.bool ((q : Int) % 2 == 1)] rfl rfl ?c1 ?c2 ?c3 ?c4 ?c5 ?_)
       case c1 =>
        intro j u hj
        match j, hj with
        | 0, hj => simp at hj; subst hj; simp [Addr.add]
       case c2 => intro u hu; simp at hu; subst hu; rfl
       case c3 => unfold maxLen; omega
       case c4 => omega
       case c5 => have := hs.size; simp; omega
       intro v' w1 hown' hgrow _; have hs1 : w.Since w.heap.size w1 := (hs.alloc hs.size _).grown hgrow (by have := hs.size; simp; omega) (fun k hk => (hown.lt k hk).1); rw [bit_of X i k q hk2 HQ.out, <- bl_succ] at hown'; clear hgrow hown hs; go_wp2; go_roundw
       case rel => exact ⟨k + 1, q / 2, by omega, by go_num, by go_num, half_of X i k q HQ.out, by omega, hown', hs1⟩
       case measure => simp [intOf]; omega
     . have e : k = 32 := by omega
       subst e; go_wp2; go_roundw
       case rel => exact ⟨i + 1, by omega, by go_num, hown, hs⟩
       case measure => simp [intOf]; omega
  . have e : i = n := by omega
    subst e; obtain ⟨a', g, cap', rfl, hmc, hg, hB⟩ := own_bits hown; go_wp2_with fail; refine (xv9 a' g 0 (32 * i) cap' (bitsOf X) _ (by omega) hmc hB).mono ?_; rintro e w1 ⟨rfl, rfl⟩; go_wp2; go_ret; have htl := xj3 (bitsOf X) (32 * i); exact ⟨a', g, _, cap', bitsOf X, rfl, by omega, htl, hB.take htl, fun h => hg (by omega), fun h => xj8 _ _ h, (bv_tlen _ _).trans (bv_bits_all X i hXl), hs⟩
theorem xw3 {w : World} {base : Nat} {v : Value} {m : Nat} {B : Nat -> Bool} (h : w.ownsRow base 4 1 v m (bl B m)) (hv : v ≠ .slice none 0 0) :
 ∃ g cap, v = .slice (some ⟨g, 0, none⟩) m cap /\ m <= cap /\ base <= g /\ Bits w (some ⟨g, 0, none⟩) g 0 m B := by
 have hc := @World.ownsRow.cells _ _ _ _ _ _ _ h
 rcases h.2 with ⟨rfl, rfl⟩ | ⟨g, cap, cur, rfl, hb, hg, hm, _⟩
 . exact absurd rfl hv
 . refine ⟨g, cap, rfl, hm, hb, fun j hj => ⟨rfl, ?_⟩⟩
   have := hc (g := g) rfl j _ (bl_get B m j hj); rw [Addr.add_lit] at this; exact this
theorem bl_congr {B C : Nat -> Bool} {m : Nat} (h : ∀ j, j < m -> B j = C j) : bl B m = bl C m := by
 unfold bl; exact List.map_congr_left (fun j hj => by rw [h j (List.mem_range.1 hj)])
theorem bl_upd (D : Nat -> Bool) (i : Nat) (v : Bool) : bl (upd D i v) (i + 1) = bl D i ++ [.bool v] := by
 rw [bl_succ, xq5, bl_congr (fun j hj => xq3 D i v j (by omega))]
theorem xj2 (w : World) (x : Value) (t : TypeId) : ∀ j u, [x][j]? = some u -> (w.alloc (.cells #[x] t)).cell? ((⟨w.heap.size, 0, none⟩ : Addr).add j) = some u := by
 intro j u hj
 match j, hj with
 | 0, hj => simp at hj; subst hj; simp [Addr.add]
theorem xj6 (x : Value) (h : x.oneCell' = true) : ∀ u ∈ [x], u.oneCell' = true := by
 intro u hu; simp at hu; subst hu; exact h
theorem not_eq3 (x y c : Bool) : (!(!x == y) == c) = ((x != y) != c) := by cases x <;> cases y <;> cases c <;> rfl
theorem not_eq2 (x c : Bool) : (!(x == c)) = ((x != false) != c) := by cases x <;> cases c <;> rfl
theorem xx6 (a a' : Option Addr) (b off n cap b' off' m cap' : Nat) (A B : Nat -> Bool) (w : World) (hn : n <= 4294967296) (hm : m <= n) (hA : Bits w a b off n A) (hB : Bits w a' b' off' m B) (hle : bv B m <= bv A n) :
 Calls Tryz.prog 182 #[.slice a n cap, .slice a' m cap'] w fun e w' => ∃ g t cap'' D, e = .returned (.slice (some ⟨g, 0, none⟩) t cap'') /\ t <= cap'' /\ t <= n /\ Bits w' (some ⟨g, 0, none⟩) g 0 t D /\ w.heap.size <= g /\
  (0 < t -> D (t - 1) = true) /\ bv D t = bv A n - bv B m /\ w.Since w.heap.size w' := by
 obtain ⟨i0, hi, hz0, hz1, hz2⟩ := info_parts Tryz.info4; have HL : Hid (bv B m <= bv A n) := hle; clear hle; go_enter Tryz.func182, Tryz.ntmps182; go_wp2
 go_loopw [5, 6, 7] (fun v c t wr => ∃ (i : Nat) (cb : Bool) (D : Nat -> Bool), i <= n /\ t = .int .i64 i /\ c = .bool cb /\ Hid (v ≠ .slice none 0 0) /\ wr.ownsRow w.heap.size 4 1 v i (bl D i) /\ w.Since w.heap.size wr /\ Hid (SubRel D A B m i cb)) (fun _ _ t _ => n - (intOf t).toNat)
 case atStart => exact ⟨0, false, fun _ => false, Nat.zero_le _, rfl, rfl, hide (by simp), World.ownsRow_made w #[] 0 (Nat.le_refl _) (by decide) rfl, (World.Since.refl _ _).alloc (Nat.le_refl _) _, hide rfl⟩
 case round =>
  obtain ⟨i, cb, D, hin, rfl, rfl, HN, hown, hs, HR⟩ := hrel
  by_cases hlt : i < n
  . obtain ⟨rfl, hc⟩ := hA i hlt
    have g0 : wr.cell? ⟨b, off + i, none⟩ = some (.bool (A i)) := by rw [hs.cell (a := ⟨b, off + i, none⟩) (hA.lt (by omega))]; exact hc
    clear hc; obtain ⟨x, hx⟩ : ∃ x, x = A i := ⟨_, rfl⟩; rw [<- hx] at g0; have HX : Hid (A i = x) := hx.symm; clear hx
    by_cases him : i < m
    . obtain ⟨rfl, hc⟩ := hB i him
      have g1 : wr.cell? ⟨b', off' + i, none⟩ = some (.bool (B i)) := by rw [hs.cell (a := ⟨b', off' + i, none⟩) (hB.lt (by omega))]; exact hc
      obtain ⟨y, hy⟩ : ∃ y, y = B i := ⟨_, rfl⟩; rw [<- hy] at g1; have HY : Hid (ext B m i = y) := by simp [Hid, ext, him, hy]
      clear hc hy; have HS := hide (subRel_step HR.out HX.out HY.out)
      go_wp2_with (at_builtin; refine wpList_append_own _ rfl _ _ 134 rfl w.heap.size 4 i0 (.bool false) 1 1 Tryz.underlying134 hi hz0 hz1 hz2 rfl (by decide) _ _ _ rfl (hown.alloc _) ⟨wr.heap.size, 0, none⟩ 1 1 [.bool _] rfl rfl (xj2 _ _ _) (xj6 _ rfl) (by unfold maxLen; omega) (by omega) (by have := hs.size; simp; omega) ?_)
      intro v' w1 hown' hgrow hnn; have hs1 : w.Since w.heap.size w1 := (hs.alloc hs.size _).grown hgrow (by have := hs.size; simp; omega) (fun k hk => (hown.lt k hk).1); have HN' := hide hnn; rw [not_eq3 x y cb, <- bl_upd] at hown'; clear hgrow hown hs hnn HN; cases x <;> cases y <;> cases cb
      all_goals
       go_wp2; go_roundw
       case rel => exact ⟨i + 1, _, _, by omega, by go_num, rfl, HN', hown', hs1, HS⟩
       case measure => simp [intOf]; omega
    . have HY : Hid (ext B m i = false) := by simp [Hid, ext, him]
      have HS := hide (subRel_step HR.out HX.out HY.out)
      go_wp2_with (at_builtin; refine wpList_append_own _ rfl _ _ 134 rfl w.heap.size 4 i0 (.bool false) 1 1 Tryz.underlying134 hi hz0 hz1 hz2 rfl (by decide) _ _ _ rfl (hown.alloc _) ⟨wr.heap.size, 0, none⟩ 1 1 [.bool _] rfl rfl (xj2 _ _ _) (xj6 _ rfl) (by unfold maxLen; omega) (by omega) (by have := hs.size; simp; omega) ?_)
      intro v' w1 hown' hgrow hnn; have hs1 : w.Since w.heap.size w1 := (hs.alloc hs.size _).grown hgrow (by have := hs.size; simp; omega) (fun k hk => (hown.lt k hk).1); have HN' := hide hnn; rw [not_eq2 x cb, <- bl_upd] at hown'; clear hgrow hown hs hnn HN; cases x <;> cases cb
      all_goals
       go_wp2; go_roundw
       case rel => exact ⟨i + 1, _, _, by omega, by go_num, rfl, HN', hown', hs1, HS⟩
       case measure => simp [intOf]; omega
  . have e : i = n := by omega
    subst e; obtain ⟨g, cap', rfl, hmc, hg, hD⟩ := xw3 hown HN.out; go_wp2_with fail; refine (xv9 _ g 0 i cap' D _ (by omega) hmc hD).mono ?_; rintro e w1 ⟨rfl, rfl⟩; go_wp2; go_ret; have htl := xj3 D i; exact ⟨g, _, cap', D, rfl, by omega, htl, hD.take htl, hg, fun h => xj8 _ _ h, (bv_tlen _ _).trans (subRel_end HR.out hm HL.out), hs⟩
def part (E : Nat -> Bool) (s k : Nat) : Nat := bv (fun t => E (s + k + t)) (32 - k)
theorem part_step (E : Nat -> Bool) (s k : Nat) (hk : k < 32) : part E s k = 2 * part E s (k + 1) + (E (s + k)).toNat := by
 unfold part; rw [show 32 - k = (32 - (k + 1)) + 1 by omega, bv_front]
 congr 2
 exact xk0 (fun j _ => by rw [show s + k + (j + 1) = s + (k + 1) + j by omega])
theorem part_lt (E : Nat -> Bool) (s k : Nat) (hk : 0 < k) : part E s k < 2147483648 := by
 have h := bv_lt (fun t => E (s + k + t)) (32 - k); have h2 : 2 ^ (32 - k) <= 2 ^ 31 := Nat.pow_le_pow_right (by omega) (by omega); unfold part; omega
theorem part_all (E : Nat -> Bool) (q : Nat) : part E (32 * q) 0 = limbsOf E q := rfl
theorem part_top (E : Nat -> Bool) (s : Nat) : part E s 32 = 0 := rfl
theorem l1Limbs_any (a : Option Addr) (b off n cap : Nat) (B : Nat -> Bool) (w : World) (hn : n <= 4294967296) (hnc : n <= cap) (hB : Bits w a b off n B) :
 Calls Tryz.prog 146 #[.slice a n cap] w fun e w' => ∃ a' g m cap' Y, e = .returned (.slice a' m cap') /\ m <= cap' /\ 32 * m < n + 32 /\ xq1 w' a' g 0 m Y /\ (0 < m -> w.heap.size <= g) /\ (0 < m -> ∀ o, w'.frozen? ⟨g, o, none⟩ = false) /\
  (∀ j, Y j < 4294967296) /\ (0 < m -> Y (m - 1) ≠ 0) /\ lv Y m = bv B n /\ w.Since w.heap.size w' := by
 obtain ⟨i0, hi, hz0, hz1, hz2⟩ := info_parts Tryz.info159; obtain ⟨m, hm⟩ : ∃ m, m = tlen B n := ⟨_, rfl⟩; have hmn : m <= n := by rw [hm]; exact xj3 _ _
 have HM : Hid (m = tlen B n) := hm; clear hm; obtain ⟨E, hE⟩ : ∃ E, E = ext B m := ⟨_, rfl⟩; have HE : Hid (E = ext B m) := hE; clear hE; have hB' := hB.take hmn; go_enter Tryz.func146, Tryz.ntmps146; go_wp2_with fail; refine (xv9 a b off n cap B _ (by omega) hnc hB).mono ?_; rintro e w1 ⟨rfl, rfl⟩; rw [<- HM.out]; clear hB; go_wp2
 go_loopw [4, 5] (fun v t wr => ∃ q : Nat, 32 * q < m + 32 /\ t = .int .i64 ((32 * q : Nat) : Int) /\ wr.ownsRow w1.heap.size 159 1 v q (ll (limbsOf E) q) /\ w1.Since w1.heap.size wr) (fun _ t _ => m + 32 - (intOf t).toNat)
 case atStart => exact ⟨0, by omega, rfl, World.ownsRow_made w1 #[] 0 (Nat.le_refl _) (by decide) rfl, (World.Since.refl _ _).alloc (Nat.le_refl _) _⟩
 case round =>
  obtain ⟨q, hq, rfl, hown, hs⟩ := hrel
  by_cases hlt : 32 * q < m
  . go_wp2
    go_loop [6, 7] (fun v t => ∃ (k p : Nat) (z : Int), k <= 32 /\ t = .int .i64 z /\ v = .int .u32 p /\ Hid (z = k - 1) /\ Hid (p = part E (32 * q) k)) (fun _ t => (intOf t + 1).toNat)
    case atStart => exact ⟨32, 0, 31, by omega, rfl, rfl, (by decide : (31 : Int) = ((32 : Nat) : Int) - 1), (part_top E (32 * q)).symm⟩
    case round =>
     obtain ⟨k, p, z, hk, rfl, rfl, HZ, HP⟩ := hrel
     by_cases hz : 0 <= z
     . obtain ⟨k', rfl⟩ := Int.eq_ofNat_of_zero_le hz
       have hkk : k = k' + 1 := by have := HZ.out; omega
       subst hkk; clear HZ; have hp := part_lt E (32 * q) (k' + 1) (by omega); rw [<- HP.out] at hp; have HS : Hid (part E (32 * q) k' = 2 * p + (E (32 * q + k')).toNat) := by have := part_step E (32 * q) k' (by omega); rw [<- HP.out] at this; exact this
       by_cases hin : 32 * q + k' < m
       . obtain ⟨rfl, hc⟩ := hB' (32 * q + k') hin
         have g0 : wr.cell? ⟨b, off + (32 * q + k'), none⟩ = some (.bool (B (32 * q + k'))) := by rw [hs.cell (a := ⟨b, off + (32 * q + k'), none⟩) (hB'.lt (by omega))]; exact hc
         have HEk : Hid (E (32 * q + k') = B (32 * q + k')) := by rw [HE.out]; simp [Hid, ext, hin]
         clear hc; cases hb : B (32 * q + k')
         . rw [hb] at g0
           have HF : Hid (E (32 * q + k') = false) := HEk.out.trans hb; clear hb HEk; go_wp2; go_light; exact ⟨⟨k', by omega, 2 * p, by omega, show (k' : Int) = k' from rfl, show 2 * p = _ by rw [HS.out, HF.out]; rfl⟩, by simp [intOf]; omega⟩
         . rw [hb] at g0
           have HF : Hid (E (32 * q + k') = true) := HEk.out.trans hb; clear hb HEk; go_wp2; go_light; exact ⟨⟨k', by omega, 2 * p + 1, by omega, show (k' : Int) = k' from rfl, show 2 * p + 1 = _ by rw [HS.out, HF.out]; rfl⟩, by simp [intOf]; omega⟩
       . have HF : Hid (E (32 * q + k') = false) := by rw [HE.out]; simp [Hid, ext, hin]
         go_wp2; go_light; exact ⟨⟨k', by omega, 2 * p, by omega, show (k' : Int) = k' from rfl, show 2 * p = _ by rw [HS.out, HF.out]; rfl⟩, by simp [intOf]; omega⟩
     . have hk0 : k = 0 := by have := HZ.out; omega
       subst hk0
       go_wp2_with (at_builtin; refine wpList_append_own _ rfl _ _ 59 rfl w1.heap.size 159 i0 (.int .u32 0) 1 4 Tryz.underlying59 hi hz0 hz1 hz2 rfl (by decide) _ _ _ rfl (hown.alloc _) ⟨wr.heap.size, 0, none⟩ 1 1 [.int .u32 p] rfl rfl ?c1 ?c2 ?c3 ?c4 ?c5 ?_)
       case c2 => first | rfl | (intro u hu; simp at hu; subst hu; rfl)
       case c3 => unfold maxLen; omega
       case c4 => omega
       case c5 => have := hs.size; simp; omega
       intro v' w2 hown' hgrow _; have hs1 : w1.Since w1.heap.size w2 := (hs.alloc hs.size _).grown hgrow (by have := hs.size; simp; omega) (fun k hk => (hown.lt k hk).1); rw [HP.out, part_all, <- ll_succ] at hown'; clear hgrow hown hs; go_wp2; go_roundw
       case rel => exact ⟨q + 1, by omega, by go_num, hown', hs1⟩
       case measure => simp [intOf]; omega
  . obtain ⟨a', g, cap', rfl, hmc, hg, hL, hf⟩ := own_limbs hown
    go_wp2; go_ret; refine ⟨a', g, q, cap', limbsOf E, rfl, hmc, by omega, hL, hg, hf, fun j => limbsOf_lt E j, ?_, ?_, hs⟩
    . intro h0
      have hm0 : 0 < m := by omega
      refine limbs_top E m (q - 1) (by omega) (by omega) ?_; rw [HE.out]; have := xj8 B n (by rw [<- HM.out]; exact hm0); rw [<- HM.out] at this
      simp [ext, this]; omega
    . rw [lv_limbs, HE.out, bv_ext B m (32 * q) (by omega), HM.out, bv_tlen]
theorem xv3 (a a' : Option Addr) (b off n cap b' off' m cap' : Nat) (A B : Nat -> Bool) (w : World) (hn : n <= 281474976710656) (hm : m <= 281474976710656) (hA : Bits w a b off n A) (hB : Bits w a' b' off' m B)
 (tA : 0 < n -> A (n - 1) = true) (tB : 0 < m -> B (m - 1) = true) :
 Calls Tryz.prog 151 #[.slice a n cap, .slice a' m cap'] w fun e w' => e = .returned (.int .i64 (cmpN (bv A n) (bv B m))) /\ Same w w' := by
 by_cases h1 : n < m
 . rw [cmpN_lt (yw2 h1 tB)]
   clear tA tB; go_enter Tryz.func151, Tryz.ntmps151; go_wp2; go_ret; exact ⟨rfl, Same.refl _⟩
 by_cases h2 : m < n
 . rw [cmpN_gt (yw2 h2 tA)]
   clear tA tB; go_enter Tryz.func151, Tryz.ntmps151; go_wp2; go_ret; exact ⟨rfl, Same.refl _⟩
 have e : m = n := by omega
 subst e; clear tA tB h1 h2; go_enter Tryz.func151, Tryz.ntmps151; go_wp2
 go_loopw [5] (fun t wr => ∃ (k : Nat) (z : Int), k <= m /\ t = .int .i64 z /\ Hid (z = k - 1) /\ Same w wr /\ Hid (∀ j, k <= j -> j < m -> A j = B j)) (fun t _ => (intOf t + 1).toNat)
 case atStart => exact ⟨m, (m : Int) - 1, Nat.le_refl _, rfl, rfl, Same.refl _, fun j h1 h2 => absurd h2 (by omega)⟩
 case round =>
  obtain ⟨k, z, hk, rfl, HZ, hs, HE⟩ := hrel
  by_cases hz : 0 <= z
  . obtain ⟨i, rfl⟩ := Int.eq_ofNat_of_zero_le hz
    have hki : k = i + 1 := by have := HZ.out; omega
    subst hki; clear HZ; obtain ⟨rfl, hc⟩ := hA i (by omega); obtain ⟨rfl, hc'⟩ := hB i (by omega); have g0 : wr.cell? ⟨b, off + i, none⟩ = some (.bool (A i)) := by rw [hs.cell]; exact hc
    have g1 : wr.cell? ⟨b', off' + i, none⟩ = some (.bool (B i)) := by rw [hs.cell]; exact hc'
    have hzi : (i : Int) < (m : Int) := by omega
    clear hc hc'
    by_cases hab : A i = B i
    . have HAB : Hid (A i = B i) := hab
      rw [hab] at g0; clear hab; go_wp2
      go_quiet (fail)
      go_wp2; go_roundw
      case rel =>
       refine ⟨i, (i : Int) - 1, by omega, rfl, rfl, hs.drewN _, fun j h1 h2 => ?_⟩
       by_cases e : j = i
       . subst e; exact HAB.out
       . exact HE.out j (by omega) h2
      case measure => simp [intOf]
    . cases hb : B i
      . have ha : A i = true := by cases h : A i <;> simp_all
        have HC : Hid (cmpN (bv A m) (bv B m) = 1) := cmpN_gt (bv_top (i := i) (by omega) (fun j h1 h2 => (HE.out j (by omega) h2).symm) hb ha); rw [ha] at g0; rw [hb] at g1; clear hb ha hab; go_wp2
        go_quiet (fail)
        go_wp2; go_ret; exact ⟨xv5 HC.out.symm, hs.drewN _⟩
      . have ha : A i = false := by cases h : A i <;> simp_all
        have HC : Hid (cmpN (bv A m) (bv B m) = -1) := cmpN_lt (bv_top (i := i) (by omega) (fun j h1 h2 => (HE.out j (by omega) h2)) ha hb); rw [ha] at g0; rw [hb] at g1; clear hb ha hab; go_wp2
        go_quiet (fail)
        go_wp2; go_ret; exact ⟨xv5 HC.out.symm, hs.drewN _⟩
  . have hk0 : k = 0 := by have := HZ.out; omega
    subst hk0; have HC : Hid (cmpN (bv A m) (bv B m) = 0) := cmpN_eq (xk0 (fun j hj => HE.out j (by omega) hj)); go_wp2; go_ret; exact ⟨xv5 HC.out.symm, hs⟩
theorem bl_push (b : Bool) (R : Nat -> Bool) (n : Nat) : bl (push b R) (n + 1) = [.bool b] ++ bl R n := by
 unfold bl; rw [List.range_succ_eq_map]
 simp [push, Function.comp_def]
theorem own_one (w : World) (base : Nat) (x : Value) (t : TypeId) (hb : base <= w.heap.size) : (w.alloc (.cells #[x] t)).ownsRow base t 1 (.slice (some ⟨w.heap.size, 0, none⟩) 1 1) 1 [x] :=
 ⟨rfl, .inr ⟨w.heap.size, 1, #[x], rfl, hb, heap_alloc_new w _, Nat.le_refl _, by decide, rfl, rfl⟩⟩
theorem bits_news {w : World} {g t : Nat} {R : Nat -> Bool} (h : Bits w (some ⟨g, 0, none⟩) g 0 t R) : ∀ j u, (bl R t)[j]? = some u -> w.cell? ((⟨g, 0, none⟩ : Addr).add j) = some u := by
 intro j u hu; have hj : j < t := by have := (List.getElem?_eq_some_iff.1 hu).1; rwa [bl_len] at this
 rw [bl_get R t j hj] at hu; rw [Addr.add_lit, (h j hj).2]; exact hu
theorem bl_one (R : Nat -> Bool) (t : Nat) : ∀ u ∈ bl R t, u.oneCell' = true := by
 intro u hu; obtain ⟨_, _, rfl⟩ := List.mem_map.1 hu
 rfl
theorem yw1 {x y : Nat} (h : y <= x) : 0 <= cmpN x y := by unfold cmpN; split <;> (try split) <;> omega
theorem cmpN_neg {x y : Nat} (h : x < y) : cmpN x y < 0 := by rw [cmpN_lt h]; decide
theorem l1DivBits_any (a a' : Option Addr) (b off n cap b' off' m cap' : Nat) (A B : Nat -> Bool) (w : World) (hn : n <= 2147483648) (hm : m <= 2147483648) (hA : Bits w a b off n A) (hB : Bits w a' b' off' m B)
 (tB : 0 < m -> B (m - 1) = true) (hD : 0 < bv B m) :
 Calls Tryz.prog 145 #[.slice a n cap, .slice a' m cap'] w fun e w' => ∃ gq tq cq Q gr tr cr R, e = .returned (.tuple #[.slice (some ⟨gq, 0, none⟩) tq cq, .slice (some ⟨gr, 0, none⟩) tr cr]) /\
  tq <= cq /\ tq <= n /\ tr <= cr /\ tr <= n /\ Bits w' (some ⟨gq, 0, none⟩) gq 0 tq Q /\ Bits w' (some ⟨gr, 0, none⟩) gr 0 tr R /\ w.heap.size <= gq /\ w.heap.size <= gr /\
  (0 < tq -> Q (tq - 1) = true) /\ (0 < tr -> R (tr - 1) = true) /\ bv Q tq = bv A n / bv B m /\ bv R tr = bv A n % bv B m /\ w.Since w.heap.size w' := by
 obtain ⟨i0, hi, hz0, hz1, hz2⟩ := info_parts Tryz.info4; have hmk := run_make_row' (P := Tryz.prog) 134 4 (.bool false) 1 Tryz.underlying134 Tryz.info4 rfl .i64 .i64 n (by omega) (by omega); have HT := hide tB; have HD := hide hD; clear tB hD; go_enter Tryz.func145, Tryz.ntmps145; go_wp2; clear hmk
 go_loopw [7, 8] (fun v q wr => ∃ (k : Nat) (z : Int) (Q R : Nat -> Bool) (g t c : Nat), k <= n /\ q = .int .i64 z /\ v = .slice (some ⟨g, 0, none⟩) t c /\ Hid (z = k - 1) /\ t <= c /\ t <= n - k /\ w.heap.size < g /\
  Bits wr (some ⟨g, 0, none⟩) g 0 t R /\ Hid (0 < t -> R (t - 1) = true) /\ Hid (DivRel A Q n k (bv B m) (bv R t)) /\ w.Since w.heap.size wr /\ wr.rowIs w.heap.size 4 n (fun j => .bool (Q j))) (fun _ q _ => (intOf q + 1).toNat)
 case atStart =>
  refine ⟨n, (n : Int) - 1, fun _ => false, fun _ => false, w.heap.size + 1, 0, 0, Nat.le_refl _, rfl, rfl, rfl, Nat.le_refl _, Nat.zero_le _, by omega, fun j hj => absurd hj (by omega), fun h => absurd h (by omega), divRel_start A n _ HD.out,
   ((World.Since.refl _ _).alloc (Nat.le_refl _) _).alloc (by simp) _, (World.rowIs_made w _ n 4).alloc _⟩
 case round =>
  obtain ⟨k, z, Q, R, g, t, c, hk, rfl, rfl, HZ, htc, htn, hg, hR, HRt, HR, hs, hq⟩ := hrel
  by_cases hz : 0 <= z
  . obtain ⟨i, rfl⟩ := Int.eq_ofNat_of_zero_le hz
    have hki : k = i + 1 := by have := HZ.out; omega
    subst hki; clear HZ; obtain ⟨rfl, hc⟩ := hA i (by omega); have g0 : wr.cell? ⟨b, off + i, none⟩ = some (.bool (A i)) := by rw [hs.cell (a := ⟨b, off + i, none⟩) (hA.lt (by omega))]; exact hc
    clear hc; obtain ⟨x, hx⟩ : ∃ x, x = A i := ⟨_, rfl⟩; rw [<- hx] at g0; have HX : Hid (A i = x) := hx.symm; clear hx; have hsz := hs.size; have hqlt := hq.lt; have hR1 : Bits (wr.alloc (.cells #[.bool x] 4)) (some ⟨g, 0, none⟩) g 0 t R := hR.keep ((World.Since.refl _ _).alloc (Nat.le_refl _) _)
    go_wp2_with (at_builtin; refine wpList_append_own _ rfl _ _ 134 rfl (w.heap.size + 1) 4 i0 (.bool false) 1 1 Tryz.underlying134 hi hz0 hz1 hz2 rfl (by decide) _ _ _ rfl (own_one _ _ _ _ (by omega)) ⟨g, 0, none⟩ t c (bl R t) rfl (by rw [bl_len]; omega) (bits_news hR1) (bl_one R t) (by unfold maxLen; omega) (by omega) (by simp; omega) ?_)
    intro v' w1 hown' hgrow hnn; have hsw : wr.Since wr.heap.size w1 := ((World.Since.refl _ _).alloc (Nat.le_refl _) _).grown hgrow (by simp) (fun k hk => by simp [Value.ownBlock] at hk; omega); have e1 : Value.bool x :: bl R t = bl (push x R) (t + 1) := (bl_push x R t).symm; rw [e1, Nat.add_comm 1 t] at hown'; obtain ⟨g1, cap1, rfl, hmc1, hg1, hP⟩ := xw3 hown' hnn; have hs1 := hs.trans (sM hsw hs.size); have hq1 : w1.rowIs w.heap.size 4 n (fun j => .bool (Q j)) := hq.of_block (hsw.block _ hqlt); have HV := hide (bv_push x R t); clear hown' hgrow hnn hsw e1 hs hq g0 hR hR1; obtain ⟨P, hPd⟩ : ∃ P, P = push x R := ⟨_, rfl⟩; rw [<- hPd] at hP HV; clear hPd; go_wp2_with fail; refine (xv9 _ g1 0 (t + 1) cap1 P _ (by omega) hmc1 hP).mono ?_; rintro e w2 ⟨rfl, rfl⟩; have htl := xj3 P (t + 1); have HTop := hide (xj8 P (t + 1)); have HV2 : Hid (bv P (tlen P (t + 1)) = x.toNat + 2 * bv R t) := (bv_tlen P (t + 1)).trans HV.out; have hP := hP.take htl; generalize tlen P (t + 1) = t1 at *; have hB1 := hB.keep hs1; go_wp2_with fail; refine (xv3 _ a' g1 0 t1 cap1 b' off' m cap' P B _ (by omega) (by omega) hP hB1 HTop.out HT.out).mono ?_; rintro e w3 ⟨rfl, s3⟩; have hP := hP.same s3; have hB1 := hB1.same s3; have hs3 := hs1.trans (s3.since _); have hq3 : w3.rowIs w.heap.size 4 n (fun j => .bool (Q j)) := hq1.of_block (by rw [s3.heap]); clear s3 hs1 hq1
    by_cases hge : bv B m <= bv P t1
    . have hc := yw1 hge
      have HG := hide hge; have hlen := bv_len HT.out hge; clear hge; generalize cmpN (bv P t1) (bv B m) = z at *; go_wp2_with fail; refine (xx6 _ a' g1 0 t1 cap1 b' off' m cap' P B _ (by omega) hlen hP hB1 HG.out).mono ?_; rintro e w4 ⟨g4, t4, c4, D, rfl, k1, k2, hD4, k3, k4, k5, hs4⟩; have HDt := hide k4
      have HDv : Hid (DivRel A (upd Q i true) n i (bv B m) (bv D t4)) := by
       have := divRel_one HR.out (by omega) (by have := HG.out; rw [HV2.out] at this; rw [HX.out]; exact this); rw [HX.out, <- HV2.out, <- k5] at this; exact this
      clear k4 k5 HR HV HV2 HRt; have hsz3 := hs3.size; have hs5 := hs3.trans (sM hs4 hsz3); have hq4 : w4.rowIs w.heap.size 4 n (fun j => .bool (Q j)) := hq3.of_block (hs4.block _ hq3.lt); have q1 := hq4.cell (i := i) (by omega); have q2 := hq4.frozen i; have hq3l := hq3.lt; have hni : (i : Int) < (n : Int) := by omega
      clear hs4 hs3 hq3; go_wp2; go_roundw
      case rel =>
       go_light; refine ⟨i, (i : Int) - 1, upd Q i true, D, g4, t4, c4, by omega, by go_num, rfl, rfl, k1, by omega, by omega, ?_, HDt, HDv, hs5.setCell (Nat.le_refl _) _, (hq4.set i _).congr (fun j _ => ?_)⟩
       . intro j hj
         refine ⟨rfl, ?_⟩; rw [World.cell?_setCell_other _ _ _ _ (fun h => by have := congrArg Addr.block h; simp at this; omega)]; exact (hD4 j hj).2
       . by_cases e : j = i <;> simp [upd, e]
      case measure => simp [intOf]
    . have hc := cmpN_neg (Nat.lt_of_not_le hge)
      have HDv : Hid (DivRel A Q n i (bv B m) (bv P t1)) := by
       have := divRel_nought HR.out (by omega) (by rw [HV2.out] at hge; rw [HX.out]; omega); rw [HX.out, <- HV2.out] at this; exact this
      clear hge HR HV HV2 HRt; generalize cmpN (bv P t1) (bv B m) = z at *; go_wp2; go_roundw
      case rel => exact ⟨i, (i : Int) - 1, Q, P, g1, t1, cap1, by omega, by go_num, rfl, rfl, by omega, by omega, by omega, hP, HTop, HDv, hs3, hq3⟩
      case measure => simp [intOf]
  . have hk0 : k = 0 := by have := HZ.out; omega
    subst hk0; go_wp2_with fail; refine (xv9 _ w.heap.size 0 n n Q _ (by omega) (Nat.le_refl _) (bits_row hq)).mono ?_; rintro e w1 ⟨rfl, rfl⟩; go_wp2; go_ret2; have htl := xj3 Q n; obtain ⟨v1, v2⟩ := divRel_end HR.out; exact ⟨w.heap.size, _, _, Q, g, t, c, R, rfl, htl, htl, htc, by omega, (bits_row hq).take htl, hR, Nat.le_refl _, by omega, fun h => xj8 _ _ h, HRt.out, (bv_tlen _ _).trans v1, v2, hs⟩
def Tr (w : World) (v : Value) (n : Nat) (A : Nat -> Bool) : Prop :=
 ∃ a b off cap, v = .slice a n cap /\ n <= cap /\ Bits w a b off n A /\ (0 < n -> A (n - 1) = true)
theorem Tr.keep {w w' : World} {v : Value} {n : Nat} {A : Nat -> Bool} (h : Tr w v n A) (s : w.Since w.heap.size w') : Tr w' v n A := by
 obtain ⟨a, b, off, cap, h1, h2, h3, h4⟩ := h; exact ⟨a, b, off, cap, h1, h2, h3.keep s, h4⟩
theorem bits_tail {w : World} {b off n : Nat} {A : Nat -> Bool} (h : Bits w (some ⟨b, off, none⟩) b off n A) (hn : 0 < n) : Bits w (some ⟨b, off + 1, none⟩) b (off + 1) (n - 1) (sh A 1) :=
 fun j hj => ⟨rfl, by have := (h (j + 1) (by omega)).2; rw [show off + 1 + j = off + (j + 1) by omega]; exact this⟩
theorem row_own_bits {w : World} {base g t cap : Nat} {S : Nat -> Bool} (hr : w.rowIs g 4 cap (fun j => .bool (S j))) (ht : t <= cap) (hc : cap <= maxLen) (hb : base <= g) : w.ownsRow base 4 1 (.slice (some ⟨g, 0, none⟩) t cap) t (bl S t) := by
 obtain ⟨cur, h1, h2, h3⟩ := hr; refine ⟨by rw [bl_len]; omega, .inr ⟨g, cap, cur, rfl, hb, h1, ht, hc, by omega, ?_⟩⟩
 apply List.ext_getElem?
 intro i; rw [Nat.mul_one]
 by_cases hi : i < t
 . rw [bl_get S t i hi, List.getElem?_take, if_pos hi]
   have := h3 i (by omega)
   simpa using this
 . rw [List.getElem?_eq_none (by rw [List.length_take]; omega), List.getElem?_eq_none (by rw [bl_len]; omega)]
theorem bits_news2 {w : World} {g off t : Nat} {R : Nat -> Bool} (h : Bits w (some ⟨g, off, none⟩) g off t R) : ∀ j u, (bl R t)[j]? = some u -> w.cell? ((⟨g, off, none⟩ : Addr).add j) = some u := by
 intro j u hu; have hj : j < t := by have := (List.getElem?_eq_some_iff.1 hu).1; rwa [bl_len] at this
 rw [bl_get R t j hj] at hu; rw [Addr.add_lit, (h j hj).2]; exact hu
theorem bl_zeros (k : Nat) (B : Nat -> Bool) (m : Nat) : bl (zeros k B) (k + m) = bl (fun _ => false) k ++ bl B m := by
 apply List.ext_getElem?
 intro i
 by_cases h1 : i < k
 . rw [bl_get _ _ _ (by omega), List.getElem?_append_left (by rw [bl_len]; exact h1), bl_get _ _ _ h1]
   simp [zeros, h1]
 . rw [List.getElem?_append_right (by rw [bl_len]; omega), bl_len]
   by_cases h2 : i < k + m
   . rw [bl_get _ _ _ h2, bl_get _ _ _ (by omega)]
     simp [zeros, h1]
   . rw [List.getElem?_eq_none (by rw [bl_len]; omega), List.getElem?_eq_none (by rw [bl_len]; omega)]
theorem yx2 {A : Nat -> Bool} {n : Nat} (hn : 2 <= n) (h : A (n - 1) = true) : 0 < n - 1 -> sh A 1 (n - 1 - 1) = true := fun _ => by unfold sh; rw [show n - 1 - 1 + 1 = n - 1 by omega]; exact h
theorem even_long {A : Nat -> Bool} {n : Nat} (h0 : 0 < n) (h1 : A 0 = false) (ht : A (n - 1) = true) : 2 <= n := by
 by_cases e : n = 1
 . subst e; simp at ht; rw [h1] at ht; cases ht
 . omega
theorem bv_pos {A : Nat -> Bool} {n : Nat} (h0 : 0 < n) (ht : A (n - 1) = true) : 0 < bv A n := by
 have := bv_ge A n h0 ht; have := Nat.pow_pos (n := n - 1) (show 0 < 2 by omega); omega
theorem yv6 (v0 v1 : Value) (n0 m0 : Nat) (A0 B0 : Nat -> Bool) (w : World) (hn : n0 <= 1073741824) (hm : m0 <= 1073741824) (hA : Tr w v0 n0 A0) (hB : Tr w v1 m0 B0) :
 Calls Tryz.prog 144 #[v0, v1] w fun e w' => ∃ v t O, e = .returned v /\ t <= n0 + m0 + m0 /\ Tr w' v t O /\ bv O t = Nat.gcd (bv A0 n0) (bv B0 m0) /\ w.Since w.heap.size w' := by
 obtain ⟨a, ba, oa, ca, rfl, hca, hA1, tA⟩ := hA; obtain ⟨b, bb, ob, cb, rfl, hcb, hB1, tB⟩ := hB
 by_cases z0 : n0 = 0
 . subst z0
   go_enter Tryz.func144, Tryz.ntmps144; go_wp2; go_ret; exact ⟨_, m0, B0, rfl, by omega, ⟨b, bb, ob, cb, rfl, hcb, hB1, tB⟩, by simp [bv], World.Since.refl _ _⟩
 by_cases z1 : m0 = 0
 . subst z1
   have q0 : ((n0 : Int) == 0) = false := by simp; omega
   go_enter Tryz.func144, Tryz.ntmps144; go_wp2; go_ret; exact ⟨_, n0, A0, rfl, by omega, ⟨a, ba, oa, ca, rfl, hca, hA1, tA⟩, by simp [bv], World.Since.refl _ _⟩
 obtain ⟨G, hG⟩ : ∃ G, G = Nat.gcd (bv A0 n0) (bv B0 m0) := ⟨_, rfl⟩; have HG := hide hG; have q0 : ((n0 : Int) == 0) = false := by simp; omega
 have q1 : ((m0 : Int) == 0) = false := by simp; omega
 have HtA := hide tA; have HtB := hide tB; clear hG tA tB; go_enter Tryz.func144, Tryz.ntmps144; go_wp2; clear q0 q1
 go_loopg [0, 1, 5] n0 (fun n x y z wr => ∃ (m tw : Nat) (A B : Nat -> Bool) (p q : Option Addr) (bp op bq oq cp cq : Nat), w = wr /\ x = .slice p n cp /\ y = .slice q m cq /\ z = .int .i64 tw /\ 0 < n /\ 0 < m /\ n <= cp /\ m <= cq /\ n <= n0 /\ m + tw <= m0 /\
  Bits w p bp op n A /\ Bits w q bq oq m B /\ Hid (A (n - 1) = true) /\ Hid (B (m - 1) = true) /\ Hid (2 ^ tw * Nat.gcd (bv A n) (bv B m) = G))
 case atStart => exact ⟨m0, 0, A0, B0, a, b, ba, oa, bb, ob, ca, cb, rfl, rfl, rfl, rfl, by omega, by omega, hca, hcb, Nat.le_refl _, by omega, hA1, hB1, HtA.out (by omega), HtB.out (by omega), by rw [HG.out]; simp [Hid]⟩
 case round =>
  obtain ⟨m, tw, A, B, p, q, bp, op, bq, oq, cp, cq, rfl, rfl, rfl, rfl, n1, m1, hcp, hcq, hn0, hm0, hA, hB, TA, TB, HGr⟩ := hrel; obtain ⟨n, hgn⟩ : ∃ n, n = gk := ⟨_, rfl⟩; subst hgn; obtain ⟨rfl, ka⟩ := hA 0 n1; obtain ⟨rfl, kb⟩ := hB 0 m1; rw [Nat.add_zero] at ka kb; clear hA1 hB1 HtA HtB
  by_cases hev : A 0 = false /\ B 0 = false
  . obtain ⟨ea, eb⟩ := hev
    have la := even_long n1 ea TA.out; have lb := even_long m1 eb TB.out; have E1 := hide (bv_even n1 ea); have E2 := hide (bv_even m1 eb); rw [ea] at ka; rw [eb] at kb; clear ea eb; go_wp2
    go_roundg (n - 1)
    case measure => omega
    case rel =>
     go_light; refine ⟨m - 1, tw + 1, sh A 1, sh B 1, _, _, bp, op + 1, bq, oq + 1, cp - 1, cq - 1, rfl, rfl, rfl, by go_num, by omega, by omega, by omega, by omega, by omega, by omega, bits_tail hA n1, bits_tail hB m1, yx2 la TA.out (by omega), yx2 lb TB.out (by omega), ?_⟩; have h := HGr.out; rw [E1.out, E2.out, gcd_twice, <- Nat.mul_assoc, <- Nat.pow_succ] at h; exact h
  . have HO : Hid (bv A n % 2 = 1 ∨ bv B m % 2 = 1) := by
     cases ea : A 0
     . cases eb : B 0
       . exact absurd ⟨ea, eb⟩ hev
       . exact Or.inr (bv_odd m1 eb)
     . exact Or.inl (bv_odd n1 ea)
    have key : (A 0 = true) ∨ (A 0 = false /\ B 0 = true) := by
     cases ea : A 0
     . cases eb : B 0
       . exact absurd ⟨ea, eb⟩ hev
       . exact Or.inr ⟨rfl, rfl⟩
     . exact Or.inl rfl
    clear hev; have S0 := World.Since.refl w.heap.size w; have T0 : Tr w (.slice (some ⟨bp, op, none⟩) n cp) n A := ⟨_, bp, op, cp, rfl, hcp, hA, fun _ => TA.out⟩; have U0 : Tr w (.slice (some ⟨bq, oq, none⟩) m cq) m B := ⟨_, bq, oq, cq, rfl, hcq, hB, fun _ => TB.out⟩
    rcases key with ea | ⟨ea, eb⟩
    focus
     rw [ea] at ka; clear ea hA hB TA TB
    rotate_left
    focus
     rw [ea] at ka; rw [eb] at kb; clear ea eb hA hB TA TB
    all_goals
     go_wp2; obtain ⟨g2, hg2⟩ : ∃ g, g = Nat.gcd (bv A n) (bv B m) := ⟨_, rfl⟩; have HG2 := hide hg2; have HGG := HGr.out; rw [<- hg2] at HGG; have HGG := hide HGG; clear hg2 HGr ka kb
     go_loopg [0, 1] (bv A n + bv B m) (fun g x y wr => ∃ (n m : Nat) (A B : Nat -> Bool), Hid (g = bv A n + bv B m) /\ Tr wr x n A /\ Tr wr y m B /\ n <= n0 + m0 /\ 0 < m /\ m <= n0 + m0 /\ Hid (bv A n % 2 = 1 ∨ bv B m % 2 = 1) /\ Hid (g2 = Nat.gcd (bv A n) (bv B m)) /\ w.Since w.heap.size wr)
     case atStart => exact ⟨n, m, A, B, rfl, T0, U0, by omega, m1, by omega, HO, HG2, S0⟩
     case round =>
      clear T0 U0 HO HG2 S0 n1 m1 hcp hcq hn0; obtain ⟨n', m', A', B', Hg, TA, TB, hn1, m1, hm1, HO, HG2, hs⟩ := hrel; obtain ⟨p', bp', op', cp', rfl, hcp, hA, tA⟩ := TA; obtain ⟨q', bq', oq', cq', rfl, hcq, hB, tB⟩ := TB; obtain ⟨rfl, kb⟩ := hB 0 m1; rw [Nat.add_zero] at kb; have HtA := hide tA; have HtB := hide tB; clear tA tB
      by_cases hn0 : 0 < n'
      . obtain ⟨rfl, ka⟩ := hA 0 hn0
        rw [Nat.add_zero] at ka; cases ea : A' 0
        . -- a is even
          have la := even_long hn0 ea (HtA.out hn0); have E1 := hide (bv_even hn0 ea); have hp := bv_pos (A := sh A' 1) (n := n' - 1) (by omega) (yx2 la (HtA.out hn0) (by omega)); have hob : bv B' m' % 2 = 1 := by have := HO.out; have := E1.out; omega
          have HN : Hid (g2 = Nat.gcd (bv (sh A' 1) (n' - 1)) (bv B' m')) := by have h := HG2.out; rw [E1.out, gcd_half_left hob] at h; exact h
          have HO' : Hid (bv (sh A' 1) (n' - 1) % 2 = 1 ∨ bv B' m' % 2 = 1) := Or.inr hob; have Hlt : Hid (bv (sh A' 1) (n' - 1) + bv B' m' < gk) := by have := Hg.out; have := E1.out; show _ < _; omega
          rw [ea] at ka; clear ea hob hp E1; go_wp2
          go_roundg (bv (sh A' 1) (n' - 1) + bv B' m')
          case measure => exact Hlt.out
          case rel => exact ⟨n' - 1, m', sh A' 1, B', rfl, ⟨_, bp', op' + 1, cp' - 1, rfl, by omega, bits_tail hA hn0, yx2 la (HtA.out hn0)⟩, ⟨_, bq', oq', cq', rfl, hcq, hB, HtB.out⟩, by omega, m1, hm1, HO', HN, hs⟩
        . have hoa := bv_odd hn0 ea
          have hpa := bv_pos hn0 (HtA.out hn0); rw [ea] at ka; clear ea; cases eb : B' 0
          . -- b is even
            have lb := even_long m1 eb (HtB.out m1); have E1 := hide (bv_even m1 eb); have hp := bv_pos (A := sh B' 1) (n := m' - 1) (by omega) (yx2 lb (HtB.out m1) (by omega)); have HN : Hid (g2 = Nat.gcd (bv A' n') (bv (sh B' 1) (m' - 1))) := by have h := HG2.out; rw [E1.out, gcd_half_right hoa] at h; exact h
            have HO' : Hid (bv A' n' % 2 = 1 ∨ bv (sh B' 1) (m' - 1) % 2 = 1) := Or.inl hoa; have Hlt : Hid (bv A' n' + bv (sh B' 1) (m' - 1) < gk) := by have := Hg.out; have := E1.out; show _ < _; omega
            rw [eb] at kb; clear eb hoa hpa hp E1; go_wp2
            go_roundg (bv A' n' + bv (sh B' 1) (m' - 1))
            case measure => exact Hlt.out
            case rel => exact ⟨n', m' - 1, A', sh B' 1, rfl, ⟨_, bp', op', cp', rfl, hcp, hA, HtA.out⟩, ⟨_, bq', oq' + 1, cq' - 1, rfl, by omega, bits_tail hB m1, yx2 lb (HtB.out m1)⟩, hn1, by omega, by omega, HO', HN, hs⟩
          . have hob := bv_odd m1 eb
            have hpb := bv_pos m1 (HtB.out m1); rw [eb] at kb; clear eb; have HP := hide (And.intro hoa (And.intro hob (And.intro hpa hpb))); clear hoa hob hpa hpb; go_wp2_with fail; refine (xv3 _ _ bp' op' n' cp' bq' oq' m' cq' A' B' _ (by omega) (by omega) hA hB HtA.out HtB.out).mono ?_; rintro e w2 ⟨rfl, s2⟩; have hA := hA.same s2; have hB := hB.same s2; have hs := hs.trans (s2.since _); clear s2 ka kb
            by_cases hge : bv B' m' <= bv A' n'
            . have hc := yw1 hge
              have hlen := bv_len HtB.out hge; have HN : Hid (g2 = Nat.gcd (bv A' n' - bv B' m') (bv B' m')) := by have h := HG2.out; rw [<- gcd_sub_left hge] at h; exact h
              have Hge := hide hge; clear hge; generalize cmpN (bv A' n') (bv B' m') = z at *; go_wp2_with fail; refine (xx6 _ _ bp' op' n' cp' bq' oq' m' cq' A' B' _ (by omega) hlen hA hB Hge.out).mono ?_; rintro e w3 ⟨g3, t3, c3, D, rfl, k1, k2, hD, k3, k4, k5, s3⟩; have HD := hide k4; have HV := hide k5; have hB := hB.keep s3; have hs3 := hs.trans (sM s3 hs.size); clear k4 k5 s3 hs hA; go_wp2
              go_roundg (bv D t3 + bv B' m')
              case measure => have := Hg.out; have := HV.out; have := HP.out; have := Hge.out; omega
              case rel => exact ⟨t3, m', D, B', rfl, ⟨_, g3, 0, c3, rfl, k1, hD, HD.out⟩, ⟨_, bq', oq', cq', rfl, hcq, hB, HtB.out⟩, by omega, m1, hm1, Or.inr HP.out.2.1, by rw [HV.out]; exact HN, hs3⟩
            . have hlt : bv A' n' < bv B' m' := by omega
              have hc := cmpN_neg hlt; have hlen := bv_len HtA.out (Nat.le_of_lt hlt); have HN : Hid (g2 = Nat.gcd (bv A' n') (bv B' m' - bv A' n')) := by have h := HG2.out; rw [<- gcd_sub_right (Nat.le_of_lt hlt)] at h; exact h
              have Hlt := hide hlt; clear hge hlt; generalize cmpN (bv A' n') (bv B' m') = z at *; go_wp2_with fail; refine (xx6 _ _ bq' oq' m' cq' bp' op' n' cp' B' A' _ (by omega) hlen hB hA (Nat.le_of_lt Hlt.out)).mono ?_; rintro e w3 ⟨g3, t3, c3, D, rfl, k1, k2, hD, k3, k4, k5, s3⟩; have HD := hide k4; have HV := hide k5; have hA := hA.keep s3; have hs3 := hs.trans (sM s3 hs.size)
              have ht3 : 0 < t3 := by
               by_cases e : 0 < t3
               . exact e
               . have e0 : t3 = 0 := by omega
                 rw [e0] at k5; have := Hlt.out
                 simp [bv] at k5
                 omega
              have hne : ((t3 : Int) == 0) = false := by simp; omega
              clear k4 k5 s3 hs hB; go_wp2
              go_roundg (bv A' n' + bv D t3)
              case measure => have := Hg.out; have := HV.out; have := HP.out; have := Hlt.out; omega
              case rel => exact ⟨n', t3, A', D, rfl, ⟨_, bp', op', cp', rfl, hcp, hA, HtA.out⟩, ⟨_, g3, 0, c3, rfl, k1, hD, HD.out⟩, hn1, ht3, by omega, Or.inl HP.out.1, by rw [HV.out]; exact HN, hs3⟩
      . have e0 : n' = 0 := by omega
        subst e0; obtain ⟨i0, hi, hz0, hz1, hz2⟩ := info_parts Tryz.info4; have hmk := run_make_row' (P := Tryz.prog) 134 4 (.bool false) 1 Tryz.underlying134 Tryz.info4 rfl .i64 .i64 tw (by omega) (by omega); have hrow := World.rowIs_made wr (.bool false) tw 4; have hsz := hs.size; have hB2 := hB.keep (w' := wr.alloc (.cells (madeCells #[.bool false] tw) 4)) ((World.Since.refl _ _).alloc (Nat.le_refl _) _); clear kb
        go_wp2_with (at_builtin; refine wpList_append_own _ rfl _ _ 134 rfl w.heap.size 4 i0 (.bool false) 1 1 Tryz.underlying134 hi hz0 hz1 hz2 rfl (by decide) _ _ _ rfl (row_own_bits (S := fun _ => false) hrow (Nat.le_refl _) (by unfold maxLen; omega) hsz) ⟨bq', oq', none⟩ m' cq' (bl B' m') rfl (by rw [bl_len]; omega) (bits_news2 hB2) (bl_one B' m') (by unfold maxLen; omega) (by omega) (by simp; omega) ?_)
        intro v' w3 hown hgrow hnn; rw [<- bl_zeros] at hown; have hs3 : w.Since w.heap.size w3 := (hs.alloc hsz _).grown hgrow (by simp; omega) (fun k hk => by simp [Value.ownBlock] at hk; omega); obtain ⟨g3, c3, rfl, k1, k2, k3⟩ := xw3 hown hnn; clear hown hgrow hnn hB2 hrow hmk hi hz0 hz1 hz2; go_wp2; go_ret; refine ⟨_, tw + m', zeros tw B', rfl, by omega, ⟨_, g3, 0, c3, rfl, k1, k3, fun _ => ?_⟩, ?_, hs3⟩
        . unfold zeros
          rw [if_neg (by omega), show tw + m' - 1 - tw = m' - 1 by omega]; exact HtB.out m1
        . rw [bv_zeros, <- HG.out, <- HGG.out, HG2.out]
          simp [bv]
theorem add_close {w wr : World} {O0 O A : Nat -> Bool} {n L j i : Nat} {x y cb : Bool} (s c' : Bool) (hs : w.Since w.heap.size wr) (hr : wr.rowIs w.heap.size 4 L (fun k => .bool (O k))) (HR : AddRel O0 O A n j i cb)
 (hx : O (j + i) = x) (hy : ext A n i = y) (es : s = ((x != y) != cb)) (ec : c' = ((x && y) || (x && cb) || (y && cb))) :
 ∃ O', w.Since w.heap.size (wr.setCell ⟨w.heap.size, j + i, none⟩ (.bool s)) /\ (wr.setCell ⟨w.heap.size, j + i, none⟩ (.bool s)).rowIs w.heap.size 4 L (fun k => .bool (O' k)) /\ AddRel O0 O' A n j (i + 1) c' := by
 subst es ec; refine ⟨_, hs.setCell (Nat.le_refl _) _, (hr.set (j + i) _).congr (fun k _ => ?_), addRel_step HR hx hy⟩
 by_cases e : k = j + i
 . simp [e]
 . simp [e]
theorem xz1 (a a' : Option Addr) (b off n cap b' off' m cap' : Nat) (A B : Nat -> Bool) (w : World) (hn : n <= 2147483648) (hm : m <= 2147483648) (hA : Bits w a b off n A) (hB : Bits w a' b' off' m B) :
 Calls Tryz.prog 143 #[.slice a n cap, .slice a' m cap'] w fun e w' => ∃ g t cap'' O, e = .returned (.slice (some ⟨g, 0, none⟩) t cap'') /\ t <= cap'' /\ t <= n + m /\ Bits w' (some ⟨g, 0, none⟩) g 0 t O /\ w.heap.size <= g /\
  (0 < t -> O (t - 1) = true) /\ bv O t = bv A n * bv B m /\ w.Since w.heap.size w' := by
 have hmk := run_make_row' (P := Tryz.prog) 134 4 (.bool false) 1 Tryz.underlying134 Tryz.info4 rfl .i64 .i64 (n + m) (by omega) (by omega); rw [Int.natCast_add] at hmk; go_enter Tryz.func143, Tryz.ntmps143; go_wp2; clear hmk
 go_loopw [6] (fun q wr => ∃ j : Nat, j <= m /\ q = .int .i64 j /\ w.Since w.heap.size wr /\ ∃ O, wr.rowIs w.heap.size 4 (n + m) (fun k => .bool (O k)) /\ bv O (n + m) = bv A n * bv B j) (fun q _ => m - (intOf q).toNat)
 case atStart =>
  exact ⟨0, Nat.zero_le _, rfl, (World.Since.refl _ _).alloc (Nat.le_refl _) _, fun _ => false, World.rowIs_made w _ _ _, by rw [bv_more (fun _ => false) 0 (n + m) (by omega) (fun _ _ _ => rfl)]; simp [bv]⟩
 case round =>
  obtain ⟨j, hj, rfl, hs, O0, hr0, h0⟩ := hrel; have H0 : Hid (bv O0 (n + m) = bv A n * bv B j) := h0; clear h0
  by_cases hlt : j < m
  . obtain ⟨rfl, hc⟩ := hB j hlt
    have g0 : wr.cell? ⟨b', off' + j, none⟩ = some (.bool (B j)) := by rw [hs.cell (a := ⟨b', off' + j, none⟩) (hB.lt (by omega))]; exact hc
    clear hc; cases hbj : B j
    . rw [hbj] at g0
      have HB : Hid (B j = false) := hbj; clear hbj; go_wp2; go_roundw
      case rel => exact ⟨j + 1, by omega, by go_num, hs, O0, hr0, mul_skip H0.out HB.out⟩
      case measure => simp [intOf]; omega
    . rw [hbj] at g0
      have HB : Hid (B j = true) := hbj; clear hbj; go_wp2; clear g0
      go_loopw [7, 8] (fun c t wr' => ∃ (i : Nat) (cb : Bool) (O : Nat -> Bool), j + i <= n + m /\ t = .int .i64 i /\ c = .bool cb /\ w.Since w.heap.size wr' /\ wr'.rowIs w.heap.size 4 (n + m) (fun k => .bool (O k)) /\ AddRel O0 O A n j i cb) (fun _ t _ => n + m - (intOf t).toNat)
      case atStart => exact ⟨0, false, O0, by omega, rfl, rfl, hs, hr0, addRel_start O0 A n j⟩
      case round =>
       clear hr0 hs; obtain ⟨i, cb, O, hi, rfl, rfl, hs, hr, hR⟩ := hrel; have HR : Hid (AddRel O0 O A n j i cb) := hR; clear hR
       by_cases hlt2 : j + i < n + m
       . have g1 := hr.cell hlt2
         have g2 := hr.frozen (j + i); obtain ⟨x, hx⟩ : ∃ x, x = O (j + i) := ⟨_, rfl⟩; rw [<- hx] at g1; have HX : Hid (O (j + i) = x) := hx.symm; clear hx
         by_cases hin : i < n
         . obtain ⟨rfl, hc⟩ := hA i hin
           have g3 : wr.cell? ⟨b, off + i, none⟩ = some (.bool (A i)) := by rw [hs.cell (a := ⟨b, off + i, none⟩) (hA.lt (by omega))]; exact hc
           obtain ⟨y, hy⟩ : ∃ y, y = A i := ⟨_, rfl⟩; rw [<- hy] at g3; have HY : Hid (ext A n i = y) := by simp [Hid, ext, hin, hy]
           clear hy hc; cases x <;> cases y <;> cases cb
           all_goals
            go_wp2; go_roundw
            case rel =>
             go_light; obtain ⟨O', k1, k2, k3⟩ := add_close _ _ hs hr HR.out HX.out HY.out rfl rfl; exact ⟨i + 1, _, O', by omega, by go_num, rfl, k1, k2, k3⟩
            case measure => go_light; simp [intOf]; omega
         . have HY : Hid (ext A n i = false) := by simp [Hid, ext, hin]
           cases x <;> cases cb
           all_goals
            go_wp2; go_roundw
            case rel =>
             go_light; obtain ⟨O', k1, k2, k3⟩ := add_close _ _ hs hr HR.out HX.out HY.out rfl rfl; exact ⟨i + 1, _, O', by omega, by go_num, rfl, k1, k2, k3⟩
            case measure => go_light; simp [intOf]; omega
       . have e : j + i = n + m := by omega
         go_wp2; go_roundw
         case rel => exact ⟨j + 1, by omega, by go_num, hs, O, hr, addRel_end HR.out e hlt H0.out HB.out⟩
         case measure => simp [intOf]; omega
  . have e : j = m := by omega
    subst e; go_wp2_with fail; refine (xv9 _ w.heap.size 0 (n + j) _ O0 _ (by omega) (Nat.le_refl _) (bits_row hr0)).mono ?_; rintro e w1 ⟨rfl, rfl⟩; go_wp2; go_ret; have htl := xj3 O0 (n + j); exact ⟨w.heap.size, _, _, O0, rfl, htl, htl, (bits_row hr0).take htl, Nat.le_refl _, fun h => xj8 _ _ h, (bv_tlen _ _).trans H0.out, hs⟩
theorem carry_cast (x y p c : Nat) : ((x : Int) * y + p + c) / 4294967296 = (((x * y + p + c) / 4294967296 : Nat) : Int) := by
 have h : (((x * y + p + c : Nat) : Int)) = (x : Int) * y + p + c := by simp
 rw [<- h]; omega
theorem yj1 (c o : Nat) (a a' : Option Addr) (b off n cap b' off' m cap' : Nat) (X Y : Nat -> Nat) (w : World) (hn : n <= 67108864) (hm : m <= 67108864) (hX : xq1 w a b off n X) (hY : xq1 w a' b' off' m Y)
 (hXl : ∀ j, j < n -> X j < 4294967296) (hYl : ∀ j, j < m -> Y j < 4294967296) (hc0 : w.cell? ⟨c, o, none⟩ = some (.slice a n cap)) (hf0 : w.frozen? ⟨c, o, none⟩ = false) :
 Calls Tryz.prog 231 #[.pointer (some ⟨c, o, none⟩), .slice a' m cap'] w fun e w' => e = .returned (.tuple #[]) /\ ∃ w2 P, w.Since w.heap.size w2 /\ w2.rowIs w.heap.size 159 (n + m) (fun j => .int .u32 (P j : Nat)) /\
  (∀ k, P k < 4294967296) /\ lv P (n + m) = lv X n * lv Y m /\ w' = w2.setCell ⟨c, o, none⟩ (.slice (some ⟨w.heap.size, 0, none⟩) (tlen (nz P) (n + m)) (n + m)) := by
 have hmk := run_make_row' (P := Tryz.prog) 165 159 (.int .u32 0) 4 Tryz.underlying165 Tryz.info159 rfl .i64 .i64 (n + m) (by omega) (by omega); rw [Int.natCast_add] at hmk; have hcl : c < w.heap.size := World.block_lt_of_cell? _ _ hc0; go_enter Tryz.func231, Tryz.ntmps231; go_wp2; clear hmk
 go_loopw [23] (fun q wr => ∃ (i : Nat) (P : Nat -> Nat), i <= n /\ q = .int .i64 i /\ w.Since w.heap.size wr /\ wr.rowIs w.heap.size 159 (n + m) (fun k => .int .u32 (P k)) /\ wr.rowIs (w.heap.size + 1) 165 1 (fun _ => .slice (some ⟨w.heap.size, 0, none⟩) (n + m) (n + m)) /\
  (∀ k, P k < 4294967296) /\ lv P (i + m) = lv X i * lv Y m) (fun q _ => n - (intOf q).toNat)
 case atStart =>
  refine ⟨0, fun _ => 0, Nat.zero_le _, rfl, ((World.Since.refl _ _).alloc (Nat.le_refl _) _).alloc (by simp) _, ((World.rowIs_made w _ _ _).alloc _), ?_, fun _ => Nat.zero_lt_succ _, ?_⟩
  . have := World.rowIs_alloc (w.alloc (Obj.cells (madeCells #[Value.int IntKind.u32 0] (n + m)) 159)) #[Value.slice (some ⟨w.heap.size, 0, none⟩) (n + m) (n + m)] 165 (fun _ => .slice (some ⟨w.heap.size, 0, none⟩) (n + m) (n + m)) (fun i hi => by simp at hi; subst hi; rfl)
    simpa using this
  . rw [lv_more (fun _ => 0) 0 (0 + m) (by omega) (fun _ _ _ => rfl)]; simp [lv]
 case round =>
  obtain ⟨i, P0, hin, rfl, hs, hr0, hbox, hPl, h0⟩ := hrel; have H0 : Hid (lv P0 (i + m) = lv X i * lv Y m) := h0; have HPl : Hid (∀ k, P0 k < 4294967296) := hPl; clear h0 hPl
  by_cases hlt : i < n
  . obtain ⟨rfl, hc⟩ := hX i hlt
    have g0 : wr.cell? ⟨b, off + i, none⟩ = some (.int .u32 (X i)) := by rw [hs.cell (a := ⟨b, off + i, none⟩) (hX.lt (by omega))]; exact hc
    clear hc; have hxi := hXl i hlt; obtain ⟨x, hx⟩ : ∃ x, x = X i := ⟨_, rfl⟩; rw [<- hx] at g0 hxi; have HX : Hid (x = X i) := hx; clear hx; go_wp2; clear g0
    go_loopw [7, 30] (fun c t wr' => ∃ (j cr : Nat) (P : Nat -> Nat), j <= m /\ t = .int .i64 j /\ c = .int .u64 cr /\ w.Since w.heap.size wr' /\ wr'.rowIs w.heap.size 159 (n + m) (fun k => .int .u32 (P k)) /\
     wr'.rowIs (w.heap.size + 1) 165 1 (fun _ => .slice (some ⟨w.heap.size, 0, none⟩) (n + m) (n + m)) /\ MulRel P0 P x Y i j cr) (fun _ t _ => m - (intOf t).toNat)
    case atStart => exact ⟨0, 0, P0, by omega, rfl, rfl, hs, hr0, hbox, mulRel_start HPl.out x Y i⟩
    case round =>
     clear hr0 hs hbox; obtain ⟨j, cr, P, hj, rfl, rfl, hs, hr, hbox, hR⟩ := hrel; have HR : Hid (MulRel P0 P x Y i j cr) := hR; clear hR; have b0 := hbox.cell (i := 0) (by omega)
     by_cases hlt2 : j < m
     . obtain ⟨rfl, hc⟩ := hY j hlt2
       have g0 : wr.cell? ⟨b', off' + j, none⟩ = some (.int .u32 (Y j)) := by rw [hs.cell (a := ⟨b', off' + j, none⟩) (hY.lt (by omega))]; exact hc
       clear hc; have hyj := hYl j hlt2; have g1 := hr.cell (i := i + j) (by omega); have g2 := hr.frozen (i + j); have hsum := mulRel_sum HR.out hxi hyj; have HST := hide (mulRel_step HR.out hxi hyj rfl); obtain ⟨y, hy⟩ : ∃ y, y = Y j := ⟨_, rfl⟩; obtain ⟨p, hp⟩ : ∃ p, p = P (i + j) := ⟨_, rfl⟩; have hcr : cr < 4294967296 := HR.out.2.2.1; have hpl : p < 4294967296 := by rw [hp]; exact HR.out.2.1 _
       rw [<- hy] at g0 hyj hsum HST; rw [<- hp] at g1 hsum HST; clear hy hp; have hm0 : (0 : Int) <= (x : Int) * (y : Int) := by rw [<- Int.natCast_mul]; omega
       have hm1 : (x : Int) * (y : Int) + (p : Int) + (cr : Int) <= 18446744073709551615 := by rw [<- Int.natCast_mul]; omega
       clear hsum; go_wp2; go_roundw
       case rel =>
        go_light; refine ⟨j + 1, (x * y + p + cr) / 4294967296, _, by omega, by go_num, congrArg (Value.int .u64) (carry_cast x y p cr), hs.setCell (Nat.le_refl _) _, (hr.set (i + j) _).congr (fun k _ => ?_), hbox.setOther (by simp) _, HST.out⟩
        by_cases e : k = i + j
        . simp [e]
        . simp [e]
       case measure => simp [intOf]; omega
     . have e : j = m := by omega
       subst e; have g1 := hr.cell (i := i + j) (by omega); have g2 := hr.frozen (i + j); have hcr : cr < 4294967296 := HR.out.2.2.1; go_wp2; go_roundw
       case rel =>
        go_light; rw [HX.out] at HR; refine ⟨i + 1, _, by omega, by go_num, hs.setCell (Nat.le_refl _) _, (hr.set (i + j) _).congr (fun k _ => ?_), hbox.setOther (by simp) _, fun k => ?_, mulRel_end HR.out H0.out⟩
        . by_cases e : k = i + j
          . simp [e]
          . simp [e]
        . show (if k = i + j then cr else P k) < _
          split
          . exact hcr
          . exact HR.out.2.1 k
       case measure => simp [intOf]; omega
  . have e : i = n := by omega
    subst e; have b0 := hbox.cell (i := 0) (by omega); have b1 := hbox.frozen 0; go_wp2_with fail; refine (trim_any (w.heap.size + 1) _ w.heap.size 0 (i + m) (i + m) P0 _ (by omega) (Nat.le_refl _) b0 b1 (xz7 hr0)).mono ?_; rintro e w1 ⟨rfl, rfl⟩; have q0 : wr.frozen? ⟨c, o, none⟩ = false := by rw [hs.frozen (a := ⟨c, o, none⟩) hcl]; exact hf0
    have q1 : wr.cell? ⟨c, o, none⟩ = some (.slice a i cap) := by rw [hs.cell (a := ⟨c, o, none⟩) hcl]; exact hc0
    have q2 : c ≠ w.heap.size + 1 := by omega
    go_wp2
    go_end0
    exact ⟨rfl, _, P0, hs.setCell (Nat.le_succ _) _, hr0.setOther (by simp) _, HPl.out, H0.out, rfl⟩
def SumRel (O A B : Nat -> Bool) (n m i : Nat) (c : Bool) : Prop := bv O i + c.toNat * 2 ^ i = bv (ext A n) i + bv (ext B m) i
theorem sumRel_step {O A B : Nat -> Bool} {n m i : Nat} {c x y : Bool} (h : SumRel O A B n m i c) (hx : ext A n i = x) (hy : ext B m i = y) :
 SumRel (upd O i ((x != y) != c)) A B n m (i + 1) ((x && y) || (x && c) || (y && c)) := by
 unfold SumRel at *; have hf := full_add x y c; simp only [bv, bv_upd O i _ i (Nat.le_refl _), xq5, hx, hy]; generalize ((x != y) != c).toNat = s at hf ⊢; generalize ((x && y) || (x && c) || (y && c)).toNat = d at hf ⊢
 have e : s * 2 ^ i + d * 2 ^ (i + 1) = x.toNat * 2 ^ i + y.toNat * 2 ^ i + c.toNat * 2 ^ i := by
  rw [<- Nat.add_mul, <- Nat.add_mul, <- hf, Nat.add_mul, Nat.pow_succ, Nat.mul_comm (2 ^ i) 2, <- Nat.mul_assoc, Nat.mul_comm d 2]
 omega
theorem sumRel_end {O A B : Nat -> Bool} {n m i : Nat} {c : Bool} (h : SumRel O A B n m i c) (hn : n <= i) (hm : m <= i) : bv O i + c.toNat * 2 ^ i = bv A n + bv B m := by
 unfold SumRel at h; rw [bv_ext A n i hn, bv_ext B m i hm] at h; exact h
theorem not_eq2b (y c : Bool) : (!(y == c)) = ((false != y) != c) := by cases y <;> cases c <;> rfl
theorem yv8 (a a' : Option Addr) (b off n cap b' off' m cap' : Nat) (A B : Nat -> Bool) (w : World) (hn : n <= 2147483648) (hm : m <= 2147483648) (hA : Bits w a b off n A) (hB : Bits w a' b' off' m B) :
 Calls Tryz.prog 142 #[.slice a n cap, .slice a' m cap'] w fun e w' => ∃ g t cap'' D, e = .returned (.slice (some ⟨g, 0, none⟩) t cap'') /\ t <= cap'' /\ t <= max n m + 1 /\ Bits w' (some ⟨g, 0, none⟩) g 0 t D /\ w.heap.size <= g /\
  (0 < t -> D (t - 1) = true) /\ bv D t = bv A n + bv B m /\ w.Since w.heap.size w' := by
 obtain ⟨i0, hi, hz0, hz1, hz2⟩ := info_parts Tryz.info4
 obtain ⟨k, hk1, hk2, hk3, hk4, hk5⟩ : ∃ k, n <= k /\ m <= k /\ k <= 2147483648 /\ k <= max n m /\ (k = n ∨ k = m) := by
  rcases Nat.le_total n m with h | h
  . exact ⟨m, h, Nat.le_refl _, hm, Nat.le_max_right _ _, Or.inr rfl⟩
  . exact ⟨n, Nat.le_refl _, h, hn, Nat.le_max_left _ _, Or.inl rfl⟩
 have HK := hide hk4; clear hk4; go_enter Tryz.func142, Tryz.ntmps142; go_wp2
 go_loopw [5, 6, 7] (fun v c t wr => ∃ (i : Nat) (cb : Bool) (D : Nat -> Bool), i <= k /\ t = .int .i64 i /\ c = .bool cb /\ Hid (v ≠ .slice none 0 0) /\ wr.ownsRow w.heap.size 4 1 v i (bl D i) /\ w.Since w.heap.size wr /\ Hid (SumRel D A B n m i cb)) (fun _ _ t _ => k - (intOf t).toNat)
 case atStart => exact ⟨0, false, fun _ => false, Nat.zero_le _, rfl, rfl, hide (by simp), World.ownsRow_made w #[] 0 (Nat.le_refl _) (by decide) rfl, (World.Since.refl _ _).alloc (Nat.le_refl _) _, hide (by simp [SumRel, bv])⟩
 case round =>
  obtain ⟨i, cb, D, hin, rfl, rfl, HN, hown, hs, HR⟩ := hrel
  by_cases hlt : i < n
  . by_cases him : i < m
    . obtain ⟨rfl, hc⟩ := hA i hlt
      have g0 : wr.cell? ⟨b, off + i, none⟩ = some (.bool (A i)) := by rw [hs.cell (a := ⟨b, off + i, none⟩) (hA.lt (by omega))]; exact hc
      clear hc; obtain ⟨x, hx⟩ : ∃ x, x = A i := ⟨_, rfl⟩; rw [<- hx] at g0; have HX : Hid (ext A n i = x) := by simp [Hid, ext, hlt, hx]
      clear hx; obtain ⟨rfl, hc⟩ := hB i him; have g1 : wr.cell? ⟨b', off' + i, none⟩ = some (.bool (B i)) := by rw [hs.cell (a := ⟨b', off' + i, none⟩) (hB.lt (by omega))]; exact hc
      obtain ⟨y, hy⟩ : ∃ y, y = B i := ⟨_, rfl⟩; rw [<- hy] at g1; have HY : Hid (ext B m i = y) := by simp [Hid, ext, him, hy]
      clear hc hy; have HS := hide (sumRel_step HR.out HX.out HY.out)
      go_wp2_with (at_builtin; refine wpList_append_own _ rfl _ _ 134 rfl w.heap.size 4 i0 (.bool false) 1 1 Tryz.underlying134 hi hz0 hz1 hz2 rfl (by decide) _ _ _ rfl (hown.alloc _) ⟨wr.heap.size, 0, none⟩ 1 1 [.bool _] rfl rfl (xj2 _ _ _) (xj6 _ rfl) (by unfold maxLen; omega) (by omega) (by have := hs.size; simp; omega) ?_)
      intro v' w1 hown' hgrow hnn; have hs1 : w.Since w.heap.size w1 := (hs.alloc hs.size _).grown hgrow (by have := hs.size; simp; omega) (fun k hk => (hown.lt k hk).1); have HN' := hide hnn; rw [not_eq3 x y cb, <- bl_upd] at hown'; clear hgrow hown hs hnn HN; cases x <;> cases y <;> cases cb
      all_goals
       go_wp2; go_roundw
       case rel => exact ⟨i + 1, _, _, by omega, by go_num, rfl, HN', hown', hs1, HS⟩
       case measure => simp [intOf]; omega
    . obtain ⟨rfl, hc⟩ := hA i hlt
      have g0 : wr.cell? ⟨b, off + i, none⟩ = some (.bool (A i)) := by rw [hs.cell (a := ⟨b, off + i, none⟩) (hA.lt (by omega))]; exact hc
      clear hc; obtain ⟨x, hx⟩ : ∃ x, x = A i := ⟨_, rfl⟩; rw [<- hx] at g0; have HX : Hid (ext A n i = x) := by simp [Hid, ext, hlt, hx]
      clear hx; have HY : Hid (ext B m i = false) := by simp [Hid, ext, him]
      have HS := hide (sumRel_step HR.out HX.out HY.out)
      go_wp2_with (at_builtin; refine wpList_append_own _ rfl _ _ 134 rfl w.heap.size 4 i0 (.bool false) 1 1 Tryz.underlying134 hi hz0 hz1 hz2 rfl (by decide) _ _ _ rfl (hown.alloc _) ⟨wr.heap.size, 0, none⟩ 1 1 [.bool _] rfl rfl (xj2 _ _ _) (xj6 _ rfl) (by unfold maxLen; omega) (by omega) (by have := hs.size; simp; omega) ?_)
      intro v' w1 hown' hgrow hnn; have hs1 : w.Since w.heap.size w1 := (hs.alloc hs.size _).grown hgrow (by have := hs.size; simp; omega) (fun k hk => (hown.lt k hk).1); have HN' := hide hnn; rw [not_eq2 x cb, <- bl_upd] at hown'; clear hgrow hown hs hnn HN; cases x <;> cases cb
      all_goals
       go_wp2; go_roundw
       case rel => exact ⟨i + 1, _, _, by omega, by go_num, rfl, HN', hown', hs1, HS⟩
       case measure => simp [intOf]; omega
  . by_cases him : i < m
    . have HX : Hid (ext A n i = false) := by simp [Hid, ext, hlt]
      obtain ⟨rfl, hc⟩ := hB i him; have g1 : wr.cell? ⟨b', off' + i, none⟩ = some (.bool (B i)) := by rw [hs.cell (a := ⟨b', off' + i, none⟩) (hB.lt (by omega))]; exact hc
      obtain ⟨y, hy⟩ : ∃ y, y = B i := ⟨_, rfl⟩; rw [<- hy] at g1; have HY : Hid (ext B m i = y) := by simp [Hid, ext, him, hy]
      clear hc hy; have HS := hide (sumRel_step HR.out HX.out HY.out)
      go_wp2_with (at_builtin; refine wpList_append_own _ rfl _ _ 134 rfl w.heap.size 4 i0 (.bool false) 1 1 Tryz.underlying134 hi hz0 hz1 hz2 rfl (by decide) _ _ _ rfl (hown.alloc _) ⟨wr.heap.size, 0, none⟩ 1 1 [.bool _] rfl rfl (xj2 _ _ _) (xj6 _ rfl) (by unfold maxLen; omega) (by omega) (by have := hs.size; simp; omega) ?_)
      intro v' w1 hown' hgrow hnn; have hs1 : w.Since w.heap.size w1 := (hs.alloc hs.size _).grown hgrow (by have := hs.size; simp; omega) (fun k hk => (hown.lt k hk).1); have HN' := hide hnn; rw [not_eq2b y cb, <- bl_upd] at hown'; clear hgrow hown hs hnn HN; cases y <;> cases cb
      all_goals
       go_wp2; go_roundw
       case rel => exact ⟨i + 1, _, _, by omega, by go_num, rfl, HN', hown', hs1, HS⟩
       case measure => simp [intOf]; omega
    . have e : i = k := by omega
      subst e; have HE := hide (sumRel_end HR.out hk1 hk2); cases cb
      . obtain ⟨g, cap3, rfl, hmc, hg, hD⟩ := xw3 hown HN.out
        go_wp2_with fail; refine (xv9 _ g 0 i cap3 D _ (by omega) hmc hD).mono ?_; rintro e w1 ⟨rfl, rfl⟩; go_wp2; go_ret; have htl := xj3 D i; have := HK.out; exact ⟨g, _, cap3, D, rfl, by omega, by omega, hD.take htl, hg, fun h => xj8 _ _ h, (bv_tlen _ _).trans (by have := HE.out; simpa using this), hs⟩
      . go_wp2_with (at_builtin; refine wpList_append_own _ rfl _ _ 134 rfl w.heap.size 4 i0 (.bool false) 1 1 Tryz.underlying134 hi hz0 hz1 hz2 rfl (by decide) _ _ _ rfl (hown.alloc _) ⟨wr.heap.size, 0, none⟩ 1 1 [.bool true] rfl rfl (xj2 _ _ _) (xj6 _ rfl) (by unfold maxLen; omega) (by omega) (by have := hs.size; simp; omega) ?_)
        intro v' w1 hown' hgrow hnn; have hs1 : w.Since w.heap.size w1 := (hs.alloc hs.size _).grown hgrow (by have := hs.size; simp; omega) (fun k hk => (hown.lt k hk).1); rw [<- bl_upd] at hown'; obtain ⟨g, cap3, rfl, hmc, hg, hD⟩ := xw3 hown' hnn; clear hgrow hown hs; go_wp2_with fail; refine (xv9 _ g 0 (i + 1) cap3 (upd D i true) _ (by omega) hmc hD).mono ?_; rintro e w2 ⟨rfl, rfl⟩; go_wp2; go_ret; have htl := xj3 (upd D i true) (i + 1); have := HK.out; refine ⟨g, _, cap3, upd D i true, rfl, by omega, by omega, hD.take htl, hg, fun h => xj8 _ _ h, (bv_tlen _ _).trans ?_, hs1⟩; have h9 := HE.out; simp only [bv, xq5, bv_upd D i true i (Nat.le_refl _)]; exact h9
end Go.Proofs.YtnogbaapcjjngaaGreatDoor
