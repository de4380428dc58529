import Derived.Test.YtnogbaapcjjngaaGreatDoorOwnP7
import Derived.Test.YtnogbaapcjjngaaGreatDoorOwnP31
import Derived.Lib.Walk
import Derived.Lib.ItoaWalk
import Derived.Lib.ItoaMem
import Derived.Lib.AppendIntMem
import Derived.Lib.OwnKind
import Derived.BigCall
import Derived.BigGuard
import Derived.Test.YtnogbaapcjjngaaGreatDoorOwnP8
import Derived.Test.YtnogbaapcjjngaaGreatDoorOwnP21
import Derived.Test.YtnogbaapcjjngaaGreatDoorOwnP19
set_option maxHeartbeats 6400000
set_option maxRecDepth 100000
namespace Go.Proofs.YtnogbaapcjjngaaGreatDoor
open Go.Shelf Go.RowKit Go.Sort Go.Lib
def Pow (w : World) : Prop := Lib.TabIs Tryz.prog w "internal/strconv.uint64pow10" .u64 Lib.pow10Tab
theorem Pow.stay {w w' : World} (h : Pow w) (s : w.Since w.heap.size w') : Pow w' := tabBelow_of_tabIs h w' ⟨s.os, s.tape, s.output, s.size, s.block⟩
theorem yq3 {B : Nat} {w w' : World} (h : Below B w w') : w.Since B w' := ⟨h.os, h.tape, h.output, h.size, h.block⟩
theorem formatUint0_any (u : Nat) (hu64 : u < 18446744073709551616) (w : World) (htab : Pow w) :
 Calls Tryz.prog 193 #[.int .u64 u, .int .i64 10] w fun e w' => e = .returned (.string ⟨(Lib.decDigits u).toArray⟩) /\ w.Since w.heap.size w' := by
 by_cases hs : u < 100
 . go_enter Tryz.func193, Tryz.ntmps193
   go_wp2_with fail; refine (Tryz.internal_strconv_small u hs _).mono ?_; rintro e w' ⟨rfl, rfl⟩; go_wp2; go_ret; exact ⟨rfl, World.Since.refl _ _⟩
 . have hu1 : 1 <= u := by omega
   have hnd20 : Lib.nDigits u <= 20 := by have := Lib.numDigits_eq u hu1 hu64; split at this <;> omega
   have hal : (Tryz.prog).arrayLen 237 = 24 := by simp [Program.arrayLen, Tryz.underlying237]
   have hsl : ∀ W, (Instr.sliceAt 237 (.pointer (some ⟨w.heap.size, 0, none⟩)) none (some (.int .i64 (Lib.nDigits u : Int))) none).run Tryz.prog W = .ok (.slice (some ⟨w.heap.size, 0, none⟩) (Lib.nDigits u) 24) W := fun W => by
    rw [run_sliceAt_array_h W 237 ⟨w.heap.size, 0, none⟩ (by simp [Program.arrayLen, Program.elem, Tryz.underlying237]) .i64 (Lib.nDigits u : Int) (by omega) (by rw [hal]; omega)]; go_simp
   have hH0 := Lib.holds_zero0 w 237 (Lib.nDigits u) (by omega); have hfmt := Tryz.internal_strconv_formatBase10 w.heap.size 0 24 u (Array.replicate (Lib.nDigits u) 0) (w.alloc (.cells Lib.zeros24 237)) hH0 (by rw [Array.size_replicate]; exact Lib.lt_pow_nDigits u) hu64 (by rw [Array.size_replicate]; omega); rw [Array.size_replicate] at hfmt; have HH0 := Lib.hid hH0; have iu : (100 : Int) <= (u : Int) := by omega
   clear hH0 hal; go_enter Tryz.func193, Tryz.ntmps193; go_wp2_with fail; refine (Tryz.internal_strconv_numDigits u hu1 hu64 _ (Lib.tabIs_alloc htab _)).mono ?_; rintro e w' ⟨rfl, rfl⟩; go_wp2_with fail; refine hfmt.mono ?_; rintro e w' ⟨rfl, k, v', dk, rfl, hF⟩
   have hcv : (convert 114 9 (.slice (some ⟨w.heap.size, 0, none⟩) (Lib.nDigits u) 24)).run Tryz.prog ((putRow (fun (b : UInt8) => Value.int .u8 (b.toNat : Int)) (w.alloc (.cells Lib.zeros24 237)) w.heap.size 0 dk).drewN k) = .ok (.string ⟨(Lib.decDigits u).toArray⟩) ((putRow (fun (b : UInt8) => Value.int .u8 (b.toNat : Int)) (w.alloc (.cells Lib.zeros24 237)) w.heap.size 0 dk).drewN k) := by
    have h := run_convert_bytes_back (P := Tryz.prog) ((putRow (fun (b : UInt8) => Value.int .u8 (b.toNat : Int)) (w.alloc (.cells Lib.zeros24 237)) w.heap.size 0 dk).drewN k) 114 9 5 ⟨w.heap.size, 0, none⟩ 24 (Lib.decDigits u) Tryz.underlying114 Tryz.underlying5 Tryz.underlying9 (fun j hj => by
     rw [Lib.row_is_numeral hF j hj, Lib.add_plain, World.cell?_drewN]; exact cell?_putRow (fun (b : UInt8) => Value.int .u8 (b.toNat : Int)) _ w.heap.size 0 _ dk HH0.out (by rw [hF.size, Array.size_replicate]) j (by rw [hF.size]; rw [Lib.decDigits_length] at hj; exact hj))
    rw [Lib.decDigits_length] at h; exact h
   obtain ⟨os, eo⟩ := Lib.fin_at w (.cells Lib.zeros24 237) dk k 0; have hS : w.Since w.heap.size ((putRow (fun (b : UInt8) => Value.int .u8 (b.toNat : Int)) (w.alloc (.cells Lib.zeros24 237)) w.heap.size 0 dk).drewN k) := by rw [eo]; exact yq3 (Lib.below_grow w.heap.size w (Nat.le_refl _) k os)
   generalize (putRow (fun (b : UInt8) => Value.int .u8 (b.toNat : Int)) (w.alloc (.cells Lib.zeros24 237)) w.heap.size 0 dk).drewN k = W2 at hcv hS ⊢; clear eo HH0 hfmt; go_wp2; go_ret; exact ⟨rfl, hS⟩
theorem formatUint_any (u : Nat) (hu64 : u < 18446744073709551616) (w : World) (htab : Pow w) :
 Calls Tryz.prog 171 #[.int .u64 u, .int .i64 10] w fun e w' => e = .returned (.string ⟨(Lib.decDigits u).toArray⟩) /\ w.Since w.heap.size w' := by
 go_enter Tryz.func171, Tryz.ntmps171; go_wp2_with fail; refine (formatUint0_any u hu64 w htab).mono ?_; rintro e w' ⟨rfl, s⟩; go_wp2; go_ret; exact ⟨rfl, s⟩
theorem appendUint_any (B n u : Nat) (hu64 : u < 18446744073709551616) (sv : Value) (l : List UInt8) (w : World) (hown : w.ownsRow B 5 1 sv n (Lib.byteCells l)) (hBw : B <= w.heap.size) (hlim : n + 20 <= 140737488355328) (htab : Pow w) :
 Calls Tryz.prog 170 #[sv, .int .u64 u, .int .i64 10] w fun e w' => ∃ v', e = .returned v' /\ w'.ownsRow B 5 1 v' (n + (Lib.decDigits u).length) (Lib.byteCells (l ++ Lib.decDigits u)) /\ w.Since B w' /\ Lib.OthersKept 5 none w w' := by
 have J : Calls Tryz.prog 192 #[sv, .int .u64 u, .int .i64 10] w fun e w' => ∃ v', e = .returned v' /\ w'.ownsRow B 5 1 v' (n + (Lib.decDigits u).length) (Lib.byteCells l ++ Lib.byteCells (Lib.decDigits u)) /\ Below B w w' /\ Lib.OthersKept 5 none w w' := by
  by_cases h : u < 100
  . exact Tryz.internal_strconv_AppendUint_10_small B n u h sv _ w hown hBw hlim
  . exact Tryz.internal_strconv_AppendUint_10_big B n u (by omega) hu64 sv _ w hown hBw hlim htab
 obtain ⟨a, cap, rfl⟩ : ∃ a cap, sv = .slice a n cap := by
  rcases hown.2 with ⟨rfl, rfl⟩ | ⟨g, cap, cur, rfl, -⟩
  . exact ⟨none, 0, rfl⟩
  . exact ⟨_, cap, rfl⟩
 go_enter Tryz.func170, Tryz.ntmps170; go_wp2_with fail; refine J.mono ?_; rintro e w' ⟨v', rfl, ho, hb, hk⟩; go_wp2; go_ret; exact ⟨v', rfl, by rw [show Lib.byteCells (l ++ Lib.decDigits u) = Lib.byteCells l ++ Lib.byteCells (Lib.decDigits u) from List.map_append]; exact ho, yq3 hb, hk⟩
def qv (N m : Nat) : Nat := N / 1000000000 ^ m
theorem qv_zero (N : Nat) : qv N 0 = N := by simp [qv]
theorem qv_succ (N m : Nat) : qv N (m + 1) = qv N m / 1000000000 := by rw [qv, qv, Nat.pow_succ, Nat.div_div_eq_div_mul]
theorem qv_split (N m : Nat) : qv N m = qv N (m + 1) * 1000000000 + qv N m % 1000000000 := by rw [qv_succ]; omega
theorem qv_le (N m : Nat) : qv N m <= N := Nat.div_le_self _ _
theorem qv_more {N k m : Nat} (hN : N < 2 ^ k) (h : 0 < qv N m) : m < k + 1 := by
 have h1 : 1000000000 ^ m <= N := by
  rcases Nat.lt_or_ge N (1000000000 ^ m) with h2 | h2
  . rw [qv, Nat.div_eq_of_lt h2] at h; omega
  . exact h2
 have h3 : 2 ^ m <= 1000000000 ^ m := Nat.pow_le_pow_left (by omega) m; have h4 : 2 ^ m < 2 ^ k := by omega
 have := (Nat.pow_lt_pow_iff_right (a := 2) (by omega)).1 h4; omega
def ChI (N m : Nat) (C : Nat -> Nat) : Prop := (∀ j, j < m -> C j = qv N j % 1000000000) /\ (m = 0 ∨ 0 < qv N (m - 1))
theorem chI_step {N m x : Nat} {C : Nat -> Nat} (h : ChI N m C) (hp : 0 < qv N m) (hx : x = qv N m % 1000000000) : ChI N (m + 1) (upd C m x) := by
 refine ⟨fun j hj => ?_, Or.inr (by simpa using hp)⟩
 by_cases e : j = m
 . subst e; rw [xq5]; exact hx
 . rw [xq3 _ _ _ _ e]; exact h.1 j (by omega)
theorem dd_qv {N m : Nat} (h : 0 < qv N (m + 1)) : Lib.decDigits (qv N m) = Lib.decDigits (qv N (m + 1)) ++ (List.replicate (9 - Lib.nDigits (qv N m % 1000000000)) 48 ++ Lib.decDigits (qv N m % 1000000000)) := by
 conv => lhs; rw [qv_split N m]
 exact dd_chunk h (Nat.mod_lt _ (by omega))
theorem qv_up {N k m : Nat} (h : 0 < qv N m) (hk : k <= m) : 0 < qv N k := by
 induction m with
 | zero => rw [show k = 0 by omega]; exact h
 | succ m ih =>
   by_cases e : k = m + 1
   . rw [e]; exact h
   . refine ih ?_ (by omega)
     rw [qv_succ] at h
     rcases Nat.eq_zero_or_pos (qv N m) with h0 | h0
     . rw [h0] at h; simp at h
     . exact h0
structure DecS (a : Option Addr) (c b t cap : Nat) (w wr : World) (k : Nat) (Q : Nat -> Nat) : Prop where
 cell : wr.cell? ⟨c, 0, none⟩ = some (.slice a k cap)
 fz : wr.frozen? ⟨c, 0, none⟩ = false
 limbs : xq1 wr a b 0 k Q
 fb : ∀ o, wr.frozen? ⟨b, o, none⟩ = false
 os : wr.os = w.os
 tape : wr.tape = w.tape
 output : wr.output = w.output
 size : w.heap.size <= wr.heap.size
 block : ∀ j, j < w.heap.size -> j ≠ c -> j ≠ b -> wr.heap[j]? = w.heap[j]?
 lc : c < w.heap.size
 lb : b < w.heap.size
 ne : c ≠ b
section
variable {a : Option Addr} {c b t cap k k' : Nat} {w wr w1 w2 : World} {Q Q2 : Nat -> Nat}
theorem DecS.since (h : DecS a c b t cap w wr k Q) (s : wr.Since wr.heap.size w1) : DecS a c b t cap w w1 k Q :=
 ⟨(s.cell (a := ⟨c, 0, none⟩) (Nat.lt_of_lt_of_le h.lc h.size)).trans h.cell, (s.frozen (a := ⟨c, 0, none⟩) (Nat.lt_of_lt_of_le h.lc h.size)).trans h.fz, h.limbs.keep s, fun o => (s.frozen (a := ⟨b, o, none⟩) (Nat.lt_of_lt_of_le h.lb h.size)).trans (h.fb o),
   s.os.trans h.os, s.tape.trans h.tape, s.output.trans h.output, Nat.le_trans h.size s.size, fun j h1 h2 h3 => (s.block j (Nat.lt_of_lt_of_le h1 h.size)).trans (h.block j h1 h2 h3), h.lc, h.lb, h.ne⟩
theorem DecS.grown {row : Option Nat} (h : DecS a c b t cap w wr k Q) (g : wr.grownBy w1 row) (hr : ∀ k, row = some k -> w.heap.size <= k) : DecS a c b t cap w w1 k Q := by
 have hc : some c ≠ row := fun e => by have := hr c e.symm; have := h.lc; omega
 have hb : some b ≠ row := fun e => by have := hr b e.symm; have := h.lb; omega
 have ec := g.block c (Nat.lt_of_lt_of_le h.lc h.size) hc; have eb := g.block b (Nat.lt_of_lt_of_le h.lb h.size) hb
 exact ⟨(World.cell?_of_block (w := wr) (a := ⟨c, 0, none⟩) ec).trans h.cell, (World.frozen?_of_block (w := wr) (a := ⟨c, 0, none⟩) ec).trans h.fz, fun j hj => ⟨(h.limbs j hj).1, (World.cell?_of_block (w := wr) (a := ⟨b, 0 + j, none⟩) eb).trans (h.limbs j hj).2⟩,
  fun o => (World.frozen?_of_block (w := wr) (a := ⟨b, o, none⟩) eb).trans (h.fb o), g.os.trans h.os, g.tape.trans h.tape, g.output.trans h.output, Nat.le_trans h.size g.size,
  fun j h1 h2 h3 => (g.block j (Nat.lt_of_lt_of_le h1 h.size) (fun e => by have := hr j e.symm; omega)).trans (h.block j h1 h2 h3), h.lc, h.lb, h.ne⟩
theorem DecS.divide (h : DecS a c b t cap w wr k Q) (M : xq0 wr w2 b) (L2 : xq1 w2 a b 0 k Q2) (hk : k' <= k) : DecS a c b t cap w (w2.setCell ⟨c, 0, none⟩ (.slice a k' cap)) k' Q2 := by
 have M2 := (xq0.refl w2 c).setCell 0 (.slice a k' cap); have e0 : w2.cell? ⟨c, 0, none⟩ = some (.slice a k cap) := (M.cell (a := ⟨c, 0, none⟩) h.ne).trans h.cell; refine ⟨World.cell?_setCell_same _ _ _ e0, ?_, ?_, fun o => ?_, M2.os.trans (M.os.trans h.os), M2.tape.trans (M.tape.trans h.tape), M2.output.trans (M.output.trans h.output), by rw [M2.size, M.size]; exact h.size, fun j h1 h2 h3 => (M2.other j h2).trans ((M.other j h3).trans (h.block j h1 h2 h3)), h.lc, h.lb, h.ne⟩
 . rw [M2.frozen 0, M.frozenO (a := ⟨c, 0, none⟩) h.ne]; exact h.fz
 . exact (L2.marked M2 (fun _ => Ne.symm h.ne)).take hk
 . rw [M2.frozenO (a := ⟨b, o, none⟩) (Ne.symm h.ne), M.frozen o]; exact h.fb o
end
structure Kp (base c b : Nat) (w w' : World) : Prop where
 os : w'.os = w.os
 tape : w'.tape = w.tape
 output : w'.output = w.output
 size : w.heap.size <= w'.heap.size
 low : ∀ k, k < base -> w'.heap[k]? = w.heap[k]?
 keep : ∀ k o, w.heap[k]? = some o -> k ≠ c -> k ≠ b -> (∀ x fz, o ≠ .cells x 5 fz) -> w'.heap[k]? = some o
theorem Kp.of {a : Option Addr} {base c b t cap k : Nat} {w wr : World} {Q : Nat -> Nat} (h : DecS a c b t cap w wr k Q) (hb : base <= w.heap.size) (h1 : base <= c) (h2 : base <= b) : Kp base c b w wr :=
 ⟨h.os, h.tape, h.output, h.size, fun k hk => h.block k (by omega) (by omega) (by omega), fun k _ hk e1 e2 _ => (h.block k (Array.getElem?_eq_some_iff.1 hk).1 e1 e2).trans hk⟩
theorem Kp.on {base c b : Nat} {w w1 w2 : World} (h : Kp base c b w w1) (s : w1.Since base w2) (k : Lib.OthersKept 5 none w1 w2) : Kp base c b w w2 :=
 ⟨s.os.trans h.os, s.tape.trans h.tape, s.output.trans h.output, Nat.le_trans h.size s.size, fun i hi => (s.block i hi).trans (h.low i hi), fun i o hi e1 e2 e3 => k i o (h.keep i o hi e1 e2 e3) (by simp) e3⟩
theorem Kp.refl (base c b : Nat) (w : World) : Kp base c b w w := ⟨rfl, rfl, rfl, Nat.le_refl _, fun _ _ => rfl, fun _ _ h _ _ _ => h⟩
theorem Kp.since {base c b : Nat} {w w' : World} (h : Kp base c b w w') : w.Since base w' := ⟨h.os, h.tape, h.output, h.size, h.low⟩
theorem kept_since {e : TypeId} {w w' : World} (s : w.Since w.heap.size w') : Lib.OthersKept e none w w' := fun k _ hk _ _ => (s.block k (Array.getElem?_eq_some_iff.1 hk).1).trans hk
def PowB (base : Nat) (w : World) : Prop := Lib.TabBelow Tryz.prog base w "internal/strconv.uint64pow10" .u64 Lib.pow10Tab
theorem PowB.on {base : Nat} {w w' : World} (h : PowB base w) (s : w.Since base w') : PowB base w' := Lib.TabBelow.on h ⟨s.os, s.tape, s.output, s.size, s.block⟩
theorem PowB.here {base : Nat} {w : World} (h : PowB base w) : Pow w := Lib.TabBelow.here h
def lenOf : Value -> Nat
 | .slice _ n _ => n
 | _ => 0
theorem rep48 (c : Nat) : Lib.repeatL [48] c = List.replicate c 48 := by
 have := Lib.repeatL_replicate 48 1 c
 simpa using this
theorem yx8 (l m : List UInt8) : Lib.byteCells (l ++ m) = Lib.byteCells l ++ Lib.byteCells m := List.map_append
theorem appendDecimal_zero (c base cap : Nat) (a : Option Addr) (sv : Value) (n : Nat) (l : List UInt8) (w : World) (hc0 : w.cell? ⟨c, 0, none⟩ = some (.slice a 0 cap))
 (hown : w.ownsRow base 5 1 sv n (Lib.byteCells l)) (hbase : base <= w.heap.size) (hn : n <= 1000000000) :
 Calls Tryz.prog 134 #[.pointer (some ⟨c, 0, none⟩), sv] w fun e w' => ∃ v', e = .returned v' /\ Hid (v' ≠ .slice none 0 0) /\ w'.ownsRow base 5 1 v' (n + 1) (Lib.byteCells (l ++ Lib.decDigits 0)) /\ w.Since base w' /\ Lib.OthersKept 5 none w w' := by
 obtain ⟨i0, hi, hz0, hz1, hz2⟩ := info_parts Tryz.info5
 obtain ⟨a1, cap1, rfl⟩ : ∃ a cap, sv = .slice a n cap := by
  rcases hown.2 with ⟨rfl, rfl⟩ | ⟨g, cap, cur, rfl, -⟩
  . exact ⟨none, 0, rfl⟩
  . exact ⟨_, cap, rfl⟩
 go_enter Tryz.func134, Tryz.ntmps134; go_wp2_with fail; refine (xk9 c 0 a 0 cap w hc0).mono ?_; rintro e w1 ⟨rfl, rfl⟩
 go_wp2_with (at_builtin; refine wpList_append_own _ rfl _ _ 114 rfl base 5 i0 (.int .u8 0) 1 1 Tryz.underlying114 hi hz0 hz1 hz2 rfl (by decide) _ _ _ rfl (hown.alloc _) ⟨w1.heap.size, 0, none⟩ 1 1 [.int .u8 48] rfl rfl (xj2 _ _ _) (xj6 _ rfl) (by unfold maxLen; omega) (by omega) (by simp; omega) ?_)
 intro v' w2 hown' hgrow hnn; have hs := sal w1 (.cells #[.int .u8 48] 5); have hs1 : w1.Since base w2 := (sM hs hbase).grown hgrow (by simp; omega) (fun k hk => (hown.lt k hk).1); have hk : Lib.OthersKept 5 none w1 w2 := (kept_since hs).grown hgrow (Lib.ownsRow_kind (hown.alloc _)); have HN := hide hnn; clear hgrow hnn hs; go_wp2; go_ret; refine ⟨v', rfl, HN, ?_, hs1, hk⟩; rw [yx8, Lib.decDigits_one (by omega)]; exact hown'
theorem own_same {w w' : World} {base : Nat} {e : TypeId} {size : Nat} {v : Value} {n : Nat} {xs : List Value} (h : w.ownsRow base e size v n xs) (hk : ∀ g, v.ownBlock = some g -> w'.heap[g]? = w.heap[g]?) : w'.ownsRow base e size v n xs := by
 obtain ⟨hl, h | ⟨g, cap, cur, rfl, hb, hh, hr⟩⟩ := h
 . exact ⟨hl, Or.inl h⟩
 . exact ⟨hl, Or.inr ⟨g, cap, cur, rfl, hb, (hk g (by simp [Value.ownBlock])).trans hh, hr⟩⟩
theorem lv_nil {X : Nat -> Nat} {n : Nat} (p : 0 < n -> X (n - 1) ≠ 0) (h : lv X n = 0) : n = 0 := by
 rcases Nat.eq_zero_or_pos n with e | e
 . exact e
 . have := lv_ge X n e (p e); have := Nat.pow_pos (n := 32 * (n - 1)) (show 0 < 2 by omega); omega
theorem nz_top {Q : Nat -> Nat} {k : Nat} (h : 0 < tlen (nz Q) k) : Q (tlen (nz Q) k - 1) ≠ 0 := by
 have := xj8 _ _ h
 simpa [nz] using this
theorem limbs_block {w w' : World} {g m : Nat} {C : Nat -> Nat} (h : xq1 w (some ⟨g, 0, none⟩) g 0 m C) (e : w'.heap[g]? = w.heap[g]?) : xq1 w' (some ⟨g, 0, none⟩) g 0 m C :=
 fun j hj => ⟨rfl, (World.cell?_of_block (w := w) (a := ⟨g, 0 + j, none⟩) e).trans (h j hj).2⟩
theorem own_since {w w' : World} {base : Nat} {e : TypeId} {size : Nat} {v : Value} {n : Nat} {xs : List Value} (h : w.ownsRow base e size v n xs) (s : w.Since w.heap.size w') : w'.ownsRow base e size v n xs := own_same h (fun g hg => s.block g (h.lt g hg).2)
theorem own_some {w : World} {base : Nat} {e : TypeId} {size : Nat} {v : Value} {n : Nat} {xs : List Value} (h : w.ownsRow base e size v n xs) (h0 : 0 < n) : v ≠ .slice none 0 0 := by
 rcases h.2 with ⟨-, e⟩ | ⟨g, cap, cur, rfl, -⟩
 . omega
 . simp
theorem str_size (l : List UInt8) : (⟨l.toArray⟩ : ByteArray).size = l.length := by simp [ByteArray.size]
theorem appendDecimal_big (c b base t cap : Nat) (a : Option Addr) (X : Nat -> Nat) (sv : Value) (n : Nat) (l : List UInt8) (w : World) (ht : t <= 1048576) (h0 : 0 < t) (htc : t <= cap) (D0 : DecS a c b t cap w w t X) (hXl : ∀ j, j < t -> X j < 4294967296) (pX : X (t - 1) ≠ 0)
 (hown : w.ownsRow base 5 1 sv n (Lib.byteCells l)) (hnc : sv.ownBlock ≠ some c) (hnb : sv.ownBlock ≠ some b) (hbase : base <= w.heap.size) (h1 : base <= c) (h2 : base <= b) (hn : n <= 1000000000) (hP : PowB base w) :
 Calls Tryz.prog 134 #[.pointer (some ⟨c, 0, none⟩), sv] w fun e w' => ∃ v', e = .returned v' /\ Hid (v' ≠ .slice none 0 0) /\ w'.ownsRow base 5 1 v' (n + (Lib.decDigits (lv X t)).length) (Lib.byteCells (l ++ Lib.decDigits (lv X t))) /\ Kp base c b w w' := by
 obtain ⟨i0, hi, hz0, hz1, hz2⟩ := info_parts Tryz.info5; obtain ⟨j0, hj, hy0, hy1, hy2⟩ := info_parts Tryz.info159; obtain ⟨N, hN⟩ : ∃ N, N = lv X t := ⟨_, rfl⟩; have HL := hide (yj5 X t hXl); rw [<- hN] at HL ⊢; have HQ0 : Hid ((∀ j, j < t -> X j < 4294967296) /\ (0 < t -> X (t - 1) ≠ 0)) := hide ⟨hXl, fun _ => pX⟩; have HN0 : Hid (lv X t = qv N 0) := hide (by rw [qv_zero, hN])
 have HP0 : Hid (0 < N) := hide (by
  rcases Nat.eq_zero_or_pos N with e | e
  . have := lv_nil (X := X) (n := t) (fun _ => pX) (by rw [<- hN]; exact e); omega
  . exact e)
 have HCB := hide (And.intro h1 h2); have HNB := hide (And.intro hnc hnb); clear hXl pX hN h1 h2 hnc hnb
 obtain ⟨a1, cap1, rfl⟩ : ∃ a cap, sv = .slice a n cap := by
  rcases hown.2 with ⟨rfl, rfl⟩ | ⟨g, cap, cur, rfl, -⟩
  . exact ⟨none, 0, rfl⟩
  . exact ⟨_, cap, rfl⟩
 have ht0 : ((t : Int) == 0) = false := by simp; omega
 go_enter Tryz.func134, Tryz.ntmps134; go_wp2_with fail; refine (xk9 c 0 a t cap w D0.cell).mono ?_; rintro e w1 ⟨rfl, rfl⟩; have sA := sal w1 (.cells #[] 159); have hA1 : (w1.alloc (.cells #[] 159)).ownsRow w1.heap.size 159 1 (.slice (some ⟨w1.heap.size, 0, none⟩) 0 0) 0 (ll (fun _ => 0) 0) := World.ownsRow_made w1 #[] 0 (Nat.le_refl _) (by decide) rfl; have DA := D0.since sA; clear D0 sA; go_wp2
 go_loopw [5] (fun v wr => ∃ (m k : Nat) (Q C : Nat -> Nat), k <= t /\ DecS a c b t cap w1 wr k Q /\ Hid ((∀ j, j < k -> Q j < 4294967296) /\ (0 < k -> Q (k - 1) ≠ 0)) /\ wr.ownsRow w1.heap.size 159 1 v m (ll C m) /\ Hid (v ≠ .slice none 0 0) /\ Hid (lv Q k = qv N m) /\ Hid (ChI N m C)) (fun v _ => 33554440 - lenOf v)
 case atStart => exact ⟨0, t, X, fun _ => 0, Nat.le_refl _, DA, HQ0, hA1, hide (by simp), HN0, hide ⟨fun j hj => absurd hj (by omega), Or.inl rfl⟩⟩
 case round =>
  clear DA HQ0 hA1 HN0; obtain ⟨m, k, Q, C, hk, D, HQ, hch, HN, HV, HC⟩ := hrel
  have hm : m <= 33554433 := by
   rcases HC.out.2 with h | h
   . omega
   . have := qv_more HL.out h; omega
  have hcell := D.cell; go_wp2_with fail; refine (xk9 c 0 a k cap wr hcell).mono ?_; rintro e w2 ⟨rfl, rfl⟩
  by_cases hk0 : 0 < k
  . have hkf : ((k : Int) == 0) = false := by simp; omega
    obtain ⟨g3, cap3, rfl, hmc3, hg3, hgl3, -, -⟩ := xj9 hch HN.out; go_wp2_with fail; refine (divideByLimb_any c 0 a b k cap 1000000000 Q w2 (by omega) (by omega) D.cell D.fz D.limbs HQ.out.1 (fun _ => D.fb) D.ne (by omega) (by omega)).mono ?_; rintro e w4 ⟨rfl, w3, Q2, M, L2, l2, e2, rfl⟩; have D2 := D.divide (k' := tlen (nz Q2) k) M L2 (xj3 _ _)
    have hpos : 0 < qv N m := by
     rw [<- HV.out]
     rcases Nat.eq_zero_or_pos (lv Q k) with e | e
     . have := lv_nil HQ.out.2 e; omega
     . exact e
    have HX : Hid (ChI N (m + 1) (upd C m (lv Q k % 1000000000))) := hide (chI_step HC.out hpos (by rw [HV.out])); have HV2 : Hid (lv Q2 (tlen (nz Q2) k) = qv N (m + 1)) := hide (by rw [xz8, e2, qv_succ, HV.out]); have HQ2 : Hid ((∀ j, j < tlen (nz Q2) k -> Q2 j < 4294967296) /\ (0 < tlen (nz Q2) k -> Q2 (tlen (nz Q2) k - 1) ≠ 0)) := hide ⟨fun j hj => l2 j (Nat.lt_of_lt_of_le hj (xj3 _ _)), nz_top⟩; have hk2 : tlen (nz Q2) k <= t := Nat.le_trans (xj3 _ _) hk; have hgc : g3 ≠ c := by have := D.lc; omega
    have hgb : g3 ≠ b := by have := D.lb; omega
    have hch2 : (w3.setCell ⟨c, 0, none⟩ (.slice a (tlen (nz Q2) k) cap)).ownsRow w1.heap.size 159 1 (.slice (some ⟨g3, 0, none⟩) m cap3) m (ll C m) := own_same hch (fun g hg => by
     simp [Value.ownBlock] at hg
     subst hg; exact (((xq0.refl w3 c).setCell 0 (.slice a (tlen (nz Q2) k) cap)).other _ hgc).trans (M.other _ hgb))
    obtain ⟨x, hx⟩ : ∃ x, x = lv Q k % 1000000000 := ⟨_, rfl⟩; have hxl : x < 1000000000 := by rw [hx]; exact Nat.mod_lt _ (by omega)
    rw [<- hx] at HX ⊢; generalize w3.setCell ⟨c, 0, none⟩ (.slice a (tlen (nz Q2) k) cap) = w5 at *; generalize tlen (nz Q2) k = k2 at *; clear M L2 l2 e2 hx hch HN HV HC HQ D hcell; have hz5 := D2.size
    go_wp2_with (at_builtin; refine wpList_append_own _ rfl _ _ 59 rfl w1.heap.size 159 j0 (.int .u32 0) 1 4 Tryz.underlying59 hj hy0 hy1 hy2 rfl (by decide) _ _ _ rfl (hch2.alloc _) ⟨w5.heap.size, 0, none⟩ 1 1 [.int .u32 x] rfl rfl (xj2 _ _ _) (xj6 _ rfl) (by unfold maxLen; omega) (by omega) (by simp; omega) ?_)
    intro v' w6 hch' hgrow hnn; have D6 := (D2.since ((World.Since.refl _ _).alloc (Nat.le_refl _) (.cells #[.int .u32 (x : Int)] 159))).grown hgrow (fun q hq => (hch2.lt q hq).1); rw [show ll C m ++ [.int .u32 (x : Int)] = ll (upd C m x) (m + 1) from by rw [ll_succ, xq5, ll_congr (fun j hj => xq3 _ _ _ _ (show j ≠ m by omega))]] at hch'; have HN' := hide hnn; obtain ⟨g7, cap7, rfl, -, -, -, -, -⟩ := xj9 hch' hnn; clear hgrow hnn D2 hch2; go_wp2; go_roundw
    case rel => exact ⟨m + 1, k2, Q2, _, hk2, D6, HQ2, hch', HN', HV2, HX⟩
    case measure => simp [lenOf] <;> omega
  . have e : k = 0 := by omega
    subst e
    have hm0 : 0 < m := by
     rcases Nat.eq_zero_or_pos m with e | e
     . subst e
       have h3 := HV.out; rw [qv_zero] at h3; have h4 : lv Q 0 = 0 := rfl; have := HP0.out; omega
     . exact e
    have HTop : Hid (0 < qv N (m - 1)) := by
     rcases HC.out.2 with h | h
     . omega
     . exact hide h
    have HZ : Hid (qv N m = 0) := hide (by rw [<- HV.out]; rfl); obtain ⟨g, capg, rfl, hmc, hg, hgl, LC, -⟩ := xj9 hch HN.out
    obtain ⟨cur, hcur⟩ : ∃ cur, w2.heap[g]? = some (.cells cur 159 (0, 0)) := by
     rcases hch.2 with ⟨e, -⟩ | ⟨g', cap', cur, e, -, hh, -⟩
     . cases e
     . cases e; exact ⟨cur, hh⟩
    have K2 : Kp base c b w1 w2 := Kp.of D hbase HCB.out.1 HCB.out.2; have hown2 : w2.ownsRow base 5 1 (.slice a1 n cap1) n (Lib.byteCells l) := own_same hown (fun q hq => D.block q (hown.lt q hq).2 (fun e => HNB.out.1 (by rw [hq, e])) (fun e => HNB.out.2 (by rw [hq, e]))); have P2 := hP.on K2.since; have HCc := hide HC.out.1; have hbz : base <= w2.heap.size := Nat.le_trans hbase K2.size; obtain ⟨x, hx⟩ : ∃ x, x = C (m - 1) := ⟨_, rfl⟩
    have HX : Hid (x = qv N (m - 1)) := hide (by
     rw [hx, HCc.out (m - 1) (by omega)]; have h5 := qv_succ N (m - 1); rw [show m - 1 + 1 = m by omega, HZ.out] at h5; omega)
    have hxl : x < 1000000000 := by rw [hx, HCc.out (m - 1) (by omega)]; exact Nat.mod_lt _ (by omega)
    have g0 : w2.cell? ⟨g, m - 1, none⟩ = some (.int .u32 x) := by rw [hx]; simpa using (LC (m - 1) (by omega)).2
    clear hch HN HC HV D hown hP hcell HQ hx; have hq1 : (0 : Int) <= ((m - 1 : Nat) : Int) := by omega
    have hq2 : ((m : Int) - 1) = ((m - 1 : Nat) : Int) := by omega
    have hq3 : ((m - 1 : Nat) : Int) < (m : Int) := by omega
    go_wp2_with fail; refine (appendUint_any base n x (by omega) _ l w2 hown2 hbz (by omega) P2.here).mono ?_; rintro e w3 ⟨v3, rfl, ho3, s3, k3⟩; have K3 := K2.on s3 k3; have P3 := P2.on s3; have hc3 : w3.heap[g]? = some (.cells cur 159 (0, 0)) := k3 g _ hcur (by simp) (fun x fz h => by cases h); rw [HX.out] at ho3
    have hlen : ∀ i, (Lib.decDigits (qv N i)).length <= 33554433 := fun i => by
     rw [Lib.decDigits_length]; have := nd_lim (Nat.lt_of_le_of_lt (qv_le N i) HL.out); omega
    have hl3 := hlen (m - 1); obtain ⟨y3, hy3⟩ : ∃ y, y = n + (Lib.decDigits (qv N (m - 1))).length := ⟨_, rfl⟩; rw [<- hy3] at ho3; have hyl : y3 <= 1100000000 := by omega
    have HY3 := hide hy3; have HLen := hide hlen; clear hy3 hl3 hlen s3 k3 hown2 K2 P2 hbz g0 hxl HX; go_wp2
    go_loopw [1, 7] (fun v t wr => ∃ (i : Nat) (z : Int) (y : Nat), i <= m - 1 /\ t = .int .i64 z /\ Hid (z = (i : Int) - 1) /\ y <= 1100000000 /\ wr.ownsRow base 5 1 v y (Lib.byteCells (l ++ Lib.decDigits (qv N i))) /\ Hid (y = n + (Lib.decDigits (qv N i)).length) /\ wr.heap[g]? = some (.cells cur 159 (0, 0)) /\ Kp base c b w1 wr /\ PowB base wr) (fun _ t _ => (RowKit.intOf t + 1).toNat)
    case atStart => exact ⟨m - 1, _, y3, Nat.le_refl _, rfl, hide rfl, hyl, ho3, HY3, hc3, K3, P3⟩
    case round =>
     clear ho3 K3 P3 hyl HY3 hc3; obtain ⟨i, z, y, hi1, rfl, HZi, hyl, ho, HY, hc, K, PB⟩ := hrel; have hbz := Nat.le_trans hbase K.size; have LCw := limbs_block LC (hc.trans hcur.symm)
     by_cases hi0 : 0 < i
     . have hzk : z = ((i - 1 : Nat) : Int) := by have := HZi.out; omega
       clear HZi; subst hzk; have hzp : (0 : Int) <= ((i - 1 : Nat) : Int) := by omega
       have hzm : ((i - 1 : Nat) : Int) < (m : Int) := by omega
       obtain ⟨x, hx⟩ : ∃ x, x = C (i - 1) := ⟨_, rfl⟩; have HX : Hid (x = qv N (i - 1) % 1000000000) := hide (by rw [hx]; exact HCc.out (i - 1) (by omega)); have hxl : x < 1000000000 := by rw [HX.out]; exact Nat.mod_lt _ (by omega)
       have g0 : wr.cell? ⟨g, i - 1, none⟩ = some (.int .u32 x) := by rw [hx]; simpa using (LCw (i - 1) (by omega)).2
       clear hx LCw; go_wp2_with fail; refine (formatUint_any x (by omega) wr PB.here).mono ?_; rintro e w4 ⟨rfl, s4⟩; have hd9 : Lib.nDigits x <= 9 := nd_le (by omega) (by omega); have hdl := Lib.decDigits_length x; go_wp2_with fail; rw [show (9 : Int) - (Lib.nDigits x : Int) = ((9 - Lib.nDigits x : Nat) : Int) by omega]; have hdp := Lib.nDigits_pos x; refine (Tryz.strings_Repeat ⟨#[48]⟩ (9 - Lib.nDigits x) w4 (by omega) (by show 1 * _ <= _; omega)).mono ?_; rintro e w5 ⟨rfl, b5⟩; rw [show Lib.repeatL (⟨#[48]⟩ : ByteArray).data.toList (9 - Lib.nDigits x) = List.replicate (9 - Lib.nDigits x) 48 from rep48 _]; have s5 := yq3 b5; have ho5 := own_since (own_since ho s4) s5; have s45 := s4.trans (sM s5 s4.size); have k5 : Lib.OthersKept 5 none wr w5 := kept_since s45; have z5 : wr.heap.size <= w5.heap.size := s45.size; obtain ⟨rp, hrp⟩ : ∃ rp, rp = List.replicate (9 - Lib.nDigits x) (48 : UInt8) := ⟨_, rfl⟩; have hrl : rp.length = 9 - Lib.nDigits x := by rw [hrp]; simp
       rw [<- hrp]; have HRP := hide hrp; clear hrp b5 s4 s5; have hsz1 := str_size rp; have hsz2 := str_size (Lib.decDigits x)
       go_wp2_with (at_builtin; refine Lib.wpList_append_own_string _ rfl _ _ 114 9 rfl base 5 i0 Tryz.underlying114 Tryz.underlying9 hi hz0 hz1 hz2 _ _ _ rfl ho5 ⟨rp.toArray⟩ rfl (by rw [hsz1]; unfold maxLen; omega) (by rw [hsz1]; omega) (by omega) ?_)
       intro v6 w6 ho6 hg6 _; have s6 : wr.Since base w6 := (sM s45 hbz).grown hg6 (by omega) (fun q hq => (ho5.lt q hq).1); have k6 := k5.grown hg6 (Lib.ownsRow_kind ho5); have z6 := hg6.size
       have hoA : w6.ownsRow base 5 1 v6 (y + rp.length) (Lib.byteCells (l ++ Lib.decDigits (qv N i) ++ rp)) := by
        rw [yx8, hrl]; exact ho6
       clear ho5 hg6 s45 k5 ho6; have ho6 := hoA; clear hoA
       go_wp2_with (at_builtin; refine Lib.wpList_append_own_string _ rfl _ _ 114 9 rfl base 5 i0 Tryz.underlying114 Tryz.underlying9 hi hz0 hz1 hz2 _ _ _ rfl ho6 ⟨(Lib.decDigits x).toArray⟩ rfl (by rw [hsz2]; unfold maxLen; omega) (by rw [hsz2]; omega) (by omega) ?_)
       intro v7 w7 ho7 hg7 _; have s7 : wr.Since base w7 := s6.grown hg7 (by omega) (fun q hq => (ho6.lt q hq).1); have k7 := k6.grown hg7 (Lib.ownsRow_kind ho6)
       have hoB : w7.ownsRow base 5 1 v7 (y + rp.length + (Lib.decDigits x).length) (Lib.byteCells (l ++ Lib.decDigits (qv N i) ++ rp ++ Lib.decDigits x)) := by
        rw [yx8 _ (Lib.decDigits x), hdl]; rw [hrl, List.append_assoc l]; exact ho7
       clear ho7; have ho7 := hoB; clear hoB
       have HDD : Hid (Lib.decDigits (qv N (i - 1)) = Lib.decDigits (qv N i) ++ (rp ++ Lib.decDigits x)) := hide (by
        have h7 := dd_qv (N := N) (m := i - 1) (by rw [show i - 1 + 1 = i by omega]; exact qv_up HTop.out hi1); rw [show i - 1 + 1 = i by omega, <- HX.out, <- HRP.out] at h7; exact h7)
       have ho8 : w7.ownsRow base 5 1 v7 (y + rp.length + (Lib.decDigits x).length) (Lib.byteCells (l ++ Lib.decDigits (qv N (i - 1)))) := by
        rw [HDD.out, <- List.append_assoc, <- List.append_assoc]; exact ho7
       have HY8 : Hid (y + rp.length + (Lib.decDigits x).length = n + (Lib.decDigits (qv N (i - 1))).length) := hide (by
        rw [HDD.out, HY.out]
        simp
        omega)
       have hyl8 : y + rp.length + (Lib.decDigits x).length <= 1100000000 := by
        have h8 := HLen.out (i - 1); have h9 := HY8.out; omega
       have hc8 := k7 g _ hc (by simp) (fun x fz h => by cases h); have K8 := K.on s7 k7; have PB8 := PB.on s7; clear ho7 ho6 hg7 s6 k6 s7 k7; go_wp2; go_roundw
       case rel => exact ⟨i - 1, ((i - 1 : Nat) : Int) - 1, _, by omega, by go_num, hide rfl, hyl8, ho8, HY8, hc8, K8, PB8⟩
       case measure => simp [RowKit.intOf] <;> omega
     . have hzk : z = -1 := by have := HZi.out; omega
       clear HZi; subst hzk; have e : i = 0 := by omega
       subst e; have HNN := hide (own_some ho (by have := HY.out; have := Lib.nDigits_pos (qv N 0); rw [<- Lib.decDigits_length] at this; omega)); have e0 := HY.out; rw [qv_zero] at ho e0; subst e0; go_wp2; go_ret; exact ⟨_, rfl, HNN, ho, K⟩
def Kd (w : World) (v : Value) : Prop := ∀ g, bk v = some g -> ∃ cur T fz, w.heap[g]? = some (.cells cur T fz) /\ T ≠ 5
theorem Kd.undef (w : World) : Kd w undef := fun g h => by cases h
theorem Kd.since {w w' : World} {v : Value} (h : Kd w v) (s : w.Since w.heap.size w') : Kd w' v := fun g e => by
 obtain ⟨cur, T, fz, h1, h2⟩ := h g e; exact ⟨cur, T, fz, (s.block g (Array.getElem?_eq_some_iff.1 h1).1).trans h1, h2⟩
theorem Kd.set {w : World} {v : Value} (h : Kd w v) (c : Nat) (u : Value) : Kd (w.setCell ⟨c, 0, none⟩ u) v := fun g e => by
 obtain ⟨cur, T, fz, h1, h2⟩ := h g e
 by_cases hg : g = c
 . subst hg
   refine ⟨cur.setIfInBounds 0 u, T, fz, ?_, h2⟩
   simp [World.setCell, Array.getElem?_modify, h1]
 . exact ⟨cur, T, fz, (Below.heap_setCell _ _ _ _ hg).trans h1, h2⟩
theorem Kd.own {w : World} {base : Nat} {v : Value} {n : Nat} {xs : List Value} (h : w.ownsRow base 159 1 v n xs) : Kd w v := fun g e => by
 rcases h.2 with ⟨rfl, -⟩ | ⟨g', cap, cur, rfl, -, hh, -⟩
 . cases e
 . cases e
   exact ⟨cur, _, _, hh, by decide⟩
theorem Kd.box (w : World) (u : Value) : Kd (w.alloc (.cells #[u] 165)) (.pointer (some ⟨w.heap.size, 0, none⟩)) := fun g e => by
 cases e; exact ⟨#[u], _, (0, 0), heap_alloc_new w _, by decide⟩
def Kd4 (w : World) (a b c d : Value) : Prop := Kd w a /\ Kd w b /\ Kd w c /\ Kd w d
theorem Kd4.since {w w' : World} {a b c d : Value} (h : Kd4 w a b c d) (s : w.Since w.heap.size w') : Kd4 w' a b c d := ⟨h.1.since s, h.2.1.since s, h.2.2.1.since s, h.2.2.2.since s⟩
theorem Kd4.set {w : World} {a b c d : Value} (h : Kd4 w a b c d) (k : Nat) (u : Value) : Kd4 (w.setCell ⟨k, 0, none⟩ u) a b c d := ⟨h.1.set k u, h.2.1.set k u, h.2.2.1.set k u, h.2.2.2.set k u⟩
theorem Kd4.start (w : World) : Kd4 w undef undef undef undef := ⟨.undef _, .undef _, .undef _, .undef _⟩
structure Bt (w : World) (c b t cap : Nat) (a : Option Addr) (X : Nat -> Nat) : Prop where
 c0 : w.cell? ⟨c, 0, none⟩ = some (.slice a t cap)
 f0 : w.frozen? ⟨c, 0, none⟩ = false
 L : xq1 w a b 0 t X
 fb : 0 < t -> ∀ o, w.frozen? ⟨b, o, none⟩ = false
 kc : ∃ cur T fz, w.heap[c]? = some (.cells cur T fz) /\ T ≠ 5
 kb : 0 < t -> ∃ cur T fz, w.heap[b]? = some (.cells cur T fz) /\ T ≠ 5
section
variable {w w' : World} {c b t cap base d g : Nat} {a : Option Addr} {X : Nat -> Nat}
theorem Bt.lc (h : Bt w c b t cap a X) : c < w.heap.size := by
 obtain ⟨cur, T, fz, h1, -⟩ := h.kc; exact (Array.getElem?_eq_some_iff.1 h1).1
theorem Bt.lb (h : Bt w c b t cap a X) (h0 : 0 < t) : b < w.heap.size := by
 obtain ⟨cur, T, fz, h1, -⟩ := h.kb h0; exact (Array.getElem?_eq_some_iff.1 h1).1
theorem Bt.kept (h : Bt w c b t cap a X) (e1 : w'.heap[c]? = w.heap[c]?) (e2 : 0 < t -> w'.heap[b]? = w.heap[b]?) : Bt w' c b t cap a X :=
 ⟨(World.cell?_of_block (w := w) (a := ⟨c, 0, none⟩) e1).trans h.c0, (World.frozen?_of_block (w := w) (a := ⟨c, 0, none⟩) e1).trans h.f0, fun j hj => ⟨(h.L j hj).1, (World.cell?_of_block (w := w) (a := ⟨b, 0 + j, none⟩) (e2 (by omega))).trans (h.L j hj).2⟩,
   fun h0 o => (World.frozen?_of_block (w := w) (a := ⟨b, o, none⟩) (e2 h0)).trans (h.fb h0 o), by rw [e1]; exact h.kc, fun h0 => by rw [e2 h0]; exact h.kb h0⟩
theorem kept_at {o : Option Obj} {cur : Array Value} {T : TypeId} {fz : Nat × Nat} (h1 : o = some (.cells cur T fz)) (h2 : T ≠ 5) : ∃ ob, o = some ob /\ ∀ x fz, ob ≠ .cells x 5 fz :=
 ⟨_, h1, fun x fz e => by cases e; exact h2 rfl⟩
theorem Bt.others (h : Bt w c b t cap a X) (k : Lib.OthersKept 5 none w w') : Bt w' c b t cap a X := by
 refine h.kept ?_ (fun h0 => ?_)
 . obtain ⟨cur, T, fz, h1, h2⟩ := h.kc
   obtain ⟨ob, e, hne⟩ := kept_at h1 h2; exact (k c ob e (by simp) hne).trans e.symm
 . obtain ⟨cur, T, fz, h1, h2⟩ := h.kb h0
   obtain ⟨ob, e, hne⟩ := kept_at h1 h2; exact (k b ob e (by simp) hne).trans e.symm
theorem Bt.kp (h : Bt w c b t cap a X) (k : Kp base d g w w') (h1 : c ≠ d) (h2 : c ≠ g) (h3 : b ≠ d) (h4 : b ≠ g) : Bt w' c b t cap a X := by
 refine h.kept ?_ (fun h0 => ?_)
 . obtain ⟨cur, T, fz, q1, q2⟩ := h.kc
   obtain ⟨ob, e, hne⟩ := kept_at q1 q2; exact (k.keep c ob e h1 h2 hne).trans e.symm
 . obtain ⟨cur, T, fz, q1, q2⟩ := h.kb h0
   obtain ⟨ob, e, hne⟩ := kept_at q1 q2; exact (k.keep b ob e h3 h4 hne).trans e.symm
end
theorem xv4 (c b base t cap : Nat) (a : Option Addr) (X : Nat -> Nat) (sv : Value) (n : Nat) (l : List UInt8) (w : World) (ht : t <= 1048576) (htc : t <= cap) (B : Bt w c b t cap a X) (hXl : ∀ j, j < t -> X j < 4294967296) (pX : 0 < t -> X (t - 1) ≠ 0) (hcb : c ≠ b)
 (hown : w.ownsRow base 5 1 sv n (Lib.byteCells l)) (hbase : base <= w.heap.size) (h1 : base <= c) (h2 : base <= b) (hn : n <= 1000000000) (hP : PowB base w) :
 Calls Tryz.prog 134 #[.pointer (some ⟨c, 0, none⟩), sv] w fun e w' => ∃ v', e = .returned v' /\ Hid (v' ≠ .slice none 0 0) /\ w'.ownsRow base 5 1 v' (n + (Lib.decDigits (lv X t)).length) (Lib.byteCells (l ++ Lib.decDigits (lv X t))) /\ Kp base c b w w' := by
 have nk : ∀ q, (∃ cur T fz, w.heap[q]? = some (.cells cur T fz) /\ T ≠ 5) -> sv.ownBlock ≠ some q := fun q ⟨cur, T, fz, e1, e2⟩ e => by
  obtain ⟨c2, f2, e3⟩ := Lib.ownsRow_kind hown q e; rw [e1] at e3; cases e3; exact e2 rfl
 rcases Nat.eq_zero_or_pos t with e | e
 . subst e
   refine (appendDecimal_zero c base cap a sv n l w B.c0 hown hbase hn).mono ?_; rintro e w' ⟨v', rfl, HN, ho, s, k⟩; refine ⟨v', rfl, HN, ?_, (Kp.refl base c b w).on s k⟩; have e0 : lv X 0 = 0 := rfl; rw [e0, Lib.decDigits_length, Lib.nDigits_small (by omega)]; exact ho
 . exact appendDecimal_big c b base t cap a X sv n l w ht e htc ⟨B.c0, B.f0, B.L, B.fb e, rfl, rfl, rfl, Nat.le_refl _, fun _ _ _ _ => rfl, B.lc, B.lb e, hcb⟩ hXl (pX e) hown (nk c B.kc) (nk b (B.kb e)) hbase h1 h2 hn hP
theorem J.gd2 {wA : World} {sa sb : Value} {n m : Nat} {X Y : Nat -> Nat} {t5 t6 t20 t21 t22 t23 : Value} {w : World} (h : J wA sa sb n m X Y true true true true true true true true t5 t6 t20 t21 t22 t23 w) (k : Kd4 w t5 t6 t21 t23) (lX : ∀ j, j < n -> X j < 4294967296) (lY : ∀ j, j < m -> Y j < 4294967296) (pX : 0 < n -> X (n - 1) ≠ 0) (pY : 0 < m -> Y (m - 1) ≠ 0) :
 ∃ c d gn gm an am cn cm, t5 = .pointer (some ⟨c, 0, none⟩) /\ t6 = .pointer (some ⟨d, 0, none⟩) /\ Gd wA.heap.size wA w c d gn gm an am n m cn cm X Y /\ Bt w c gn n cn an X /\ Bt w d gm m cm am Y := by
 obtain ⟨c, d, gn, gm, an, am, cn, cm, e5, e6, G⟩ := h.gd lX lY pX pY; obtain ⟨c', q5, c1, -, -⟩ := h.h4 rfl; obtain ⟨d', q6, d1, -, -⟩ := h.h5 rfl; rw [e5] at q5; rw [e6] at q6; cases q5; cases q6; rw [if_pos rfl] at c1 d1; have e21 := Option.some.inj (c1.symm.trans G.bC); have e23 := Option.some.inj (d1.symm.trans G.bD); obtain ⟨k1, k2, k3, k4⟩ := k; refine ⟨c, d, gn, gm, an, am, cn, cm, e5, e6, G, ⟨G.bC, G.fC, G.LX, G.FX, k1 c (by rw [e5]; rfl), fun h0 => k3 gn (by rw [e21, (G.LX 0 h0).1]; rfl)⟩, ⟨G.bD, G.fD, G.LY, G.FY, k2 d (by rw [e6]; rfl), fun h0 => k4 gm (by rw [e23, (G.LY 0 h0).1]; rfl)⟩⟩
def rdyT (p0 l0 l1 p2 l2 l3 l4 l5 l6 l7 : Bool) : Nat -> Bool
 | 0 => !p0
 | 1 => p0 && !l0
 | 2 => l0 && !l1 && !l6 && !l3
 | 3 => !p2
 | 4 => p2 && !l2
 | 5 => l1 && l2 && !l3 && !l7
 | 6 => !l4 && !l6
 | 7 => !l5 && !l7
 | 8 => l4 && l1 && l3 && l5 && !l6
 | 9 => l6 && l5 && l3 && !l7
 | _ => false
def yz0 (p0 l0 l1 p2 l2 l3 l4 l5 l6 l7 : Bool) : Nat := (!p0).toNat + (!l0).toNat + (!l1).toNat + (!p2).toNat + (!l2).toNat + (!l3).toNat + (!l4).toNat + (!l5).toNat + (!l6).toNat + (!l7).toNat
theorem textOf_any (neg : Bool) (a b : Option Addr) (ba oa n ca bb ob m cb : Nat) (X Y : Nat -> Nat) (w : World) (_hw : 0 <= w.heap.size) (hn : n <= 1048576) (hm : m <= 1048576) (hnc : n <= ca) (hmc : m <= cb) (hac : a = none -> ca = 0) (hbc : b = none -> cb = 0)
 (hX : xq1 w a ba oa n X) (hY : xq1 w b bb ob m Y) (hXl : ∀ j, j < n -> X j < 4294967296) (hYl : ∀ j, j < m -> Y j < 4294967296) (_hT : Tab w) (hP : Pow w) (ok : xq9 neg X n Y m = true) :
 Calls Tryz.prog 90 #[.agg #[.bool neg, .slice a n ca, .slice b m cb]] w fun e w' => e = .returned (.string ⟨(yz4 neg (lv X n) (lv Y m)).toArray⟩) /\ w.Since w.heap.size w' := by
 obtain ⟨i0, hi, hz0, hz1, hz2⟩ := info_parts Tryz.info5; have sA := sal w (.cells #[.bool neg, .slice a n ca, .slice b m cb] 61); have bA := Box3.new w (.bool neg) (.slice a n ca) (.slice b m cb) 61
 have pX : 0 < n -> X (n - 1) ≠ 0 := by
  unfold xq9 at ok; simp only [Bool.and_eq_true, bne_iff_ne] at ok; exact xz5.1 ok.1.1.1.1
 have pY : 0 < m -> Y (m - 1) ≠ 0 := by
  unfold xq9 at ok; simp only [Bool.and_eq_true, bne_iff_ne] at ok; exact xz5.1 ok.1.1.1.2
 have S2 := sA; have K2 := bA; have PW : PowB (w.alloc (.cells #[.bool neg, .slice a n ca, .slice b m cb] 61)).heap.size (w.alloc (.cells #[.bool neg, .slice a n ca, .slice b m cb] 61)) := tabBelow_of_tabIs (hP.stay S2); go_enter Tryz.func90, Tryz.ntmps90; generalize hW : w.alloc (.cells #[.bool neg, .slice a n ca, .slice b m cb] 61) = w2 at *; clear sA bA hP ok; have t3 := sal w2 (.cells #[] 5); have o3 : (w2.alloc (.cells #[] 5)).ownsRow w2.heap.size 5 1 (.slice (some ⟨w2.heap.size, 0, none⟩) 0 0) 0 (Lib.byteCells []) := World.ownsRow_made w2 #[] 0 (Nat.le_refl _) (by decide) rfl; have K3 := K2.keep t3; have S3 := S2.trans (sM t3 S2.size); have k0 := K3.c0; have k1 := K3.c1; have k2 := K3.c2; cases neg
 . go_wp2
   have KB := K3; have XB := hX.keep S3; have YB := hY.keep S3; have SB := S3; have oB := o3; have TB := t3; have HLO : Hid ((([] : List UInt8)).length = 0) := hide rfl; clear K2 K3 S3 o3 t3 hX hY; generalize w2.alloc (.cells #[] 5) = wB at *; refine wp_region_any (by kernel_rfl) ?_
   change wpAny _ _ _ _ _ _ _ (World.drew _)
   have b1 : wB.drew.cell? ⟨w.heap.size, 1, none⟩ = some (.slice a n ca) := KB.c1; have b2 : wB.drew.cell? ⟨w.heap.size, 2, none⟩ = some (.slice b m cb) := KB.c2; have XD : xq1 wB.drew a ba oa n X := XB; have YD : xq1 wB.drew b bb ob m Y := YB; have zD : w.heap.size < wB.drew.heap.size := KB.lt; have SD : w.Since w.heap.size wB.drew := ⟨SB.os, SB.tape, SB.output, SB.size, SB.block⟩; have OD : wB.drew.ownsRow w2.heap.size 5 1 (.slice (some ⟨w2.heap.size, 0, none⟩) 0 0) 0 (Lib.byteCells []) := oB.drew; have TD : w2.Since w2.heap.size wB.drew := ⟨TB.os, TB.tape, TB.output, TB.size, TB.block⟩; clear KB XB YB SB oB TB k0 k1 k2; generalize wB.drew = wD at *
   refine wpAny_inv (fun fuel l ac wx => ∃ p0 l0 l1 p2 l2 l3 l4 l5 l6 l7 t5 t6 t15 t20 t21 t18 t22 t23, l = #[p0, l0, l1, p2, l2, l3, l4, l5, l6, l7] /\ fuel = yz0 p0 l0 l1 p2 l2 l3 l4 l5 l6 l7 /\ okl l1 l3 l4 l5 l6 l7 = true /\
    ac = { tmps := #[Value.agg #[Value.bool false, Value.slice a n ca, Value.slice b m cb], Value.pointer (some { block := w.heap.size, off := 0 }), Value.string { data := #[] }, Value.slice (some { block := w2.heap.size, off := 0 }) 0 0, t5, t6, Value.slice (some { block := w2.heap.size, off := 0 }) 0 0, Value.pointer (some { block := w.heap.size, off := 0 }), Value.bool false, undef, undef, undef, t15, t20, t21, t18, t22, t23, undef, undef, undef, undef, undef, undef, undef, undef, undef, undef, undef], defers := [] } /\ (p0 = true -> t15 = .pointer (some ⟨w.heap.size, 1, none⟩)) /\ (p2 = true -> t18 = .pointer (some ⟨w.heap.size, 2, none⟩)) /\
    J wD (.slice a n ca) (.slice b m cb) (tlen (nz X) n) (tlen (nz Y) m) X Y l0 l1 l2 l3 l4 l5 l6 l7 t5 t6 t20 t21 t22 t23 wx /\ Kd4 wx t5 t6 t21 t23) ?_ ?_ ?_ _ _ _ _ ⟨_, _, _, _, _, _, _, _, _, _, _, _, _, _, _, _, _, _, rfl, rfl, rfl, rfl, (fun h => by cases h), (fun h => by cases h), J.start _ _ _ _ _ _ _ _ _, Kd4.start _⟩
   . rintro fuel l ac wx ⟨p0, l0, l1, p2, l2, l3, l4, l5, l6, l7, t5, t6, t15, t20, t21, t18, t22, t23, rfl, hf, hk, rfl, hp0, hp2, j, kd⟩ i hi
     have hr : rdyT p0 l0 l1 p2 l2 l3 l4 l5 l6 l7 i = true := by
      revert i
      refine List.all_eq_true.1 ?_
      revert hk
      clear hf j hp0 hp2 kd
      revert p0 l0 l1 p2 l2 l3 l4 l5 l6 l7
      exact of_decide_eq_true (by kernel_rfl)
     have k1 : wx.cell? ⟨w.heap.size, 1, none⟩ = some (.slice a n ca) := by rw [j.S.cell (a := ⟨w.heap.size, 1, none⟩) zD]; exact b1
     have k2 : wx.cell? ⟨w.heap.size, 2, none⟩ = some (.slice b m cb) := by rw [j.S.cell (a := ⟨w.heap.size, 2, none⟩) zD]; exact b2
     have kX := XD.keep j.S; have kY := YD.keep j.S; clear hi
     rcases i with _ | _ | _ | _ | _ | _ | _ | _ | _ | _ | i
     . simp [rdyT] at hr
       subst hr; refine ⟨_, rfl, fun K hK => ?_⟩; go_simp; refine hK _ _ ⟨true, l0, l1, p2, l2, l3, l4, l5, l6, l7, t5, t6, _, t20, t21, t18, t22, t23, rfl, ?_, hk, rfl, fun _ => rfl, hp2, j, kd⟩
       simp [yz0] at hf ⊢; omega
     . simp [rdyT] at hr
       obtain ⟨rfl, rfl⟩ := hr; have e := hp0 rfl; subst e; refine ⟨_, rfl, fun K hK => ?_⟩; go_simp; refine hK _ _ ⟨true, true, l1, p2, l2, l3, l4, l5, l6, l7, t5, t6, _, _, t21, t18, t22, t23, rfl, ?_, hk, rfl, fun _ => rfl, hp2, j.op0, kd⟩
       simp [yz0] at hf ⊢; omega
     . simp [rdyT] at hr
       obtain ⟨⟨⟨rfl, rfl⟩, rfl⟩, rfl⟩ := hr; have e := j.h0 rfl; subst e; refine ⟨_, rfl, fun K hK => ?_⟩; go_simp; refine (xx5 a ba oa n ca X _ (by omega) hnc hac kX).mono ?_; rintro e w' ⟨v, rfl, o, s⟩; have k4 := kd.since s; refine hK _ _ ⟨p0, true, true, p2, l2, false, l4, l5, false, l7, t5, t6, t15, _, v, t18, t22, t23, rfl, ?_, ?_, rfl, hp0, hp2, j.op1 s (yj4 o).1 (yj4 o).2, ⟨k4.1, k4.2.1, Kd.own o, k4.2.2.2⟩⟩
       . simp [yz0] at hf ⊢; omega
       . simpa [okl] using hk
     . simp [rdyT] at hr
       subst hr; refine ⟨_, rfl, fun K hK => ?_⟩; go_simp; refine hK _ _ ⟨p0, l0, l1, true, l2, l3, l4, l5, l6, l7, t5, t6, t15, t20, t21, _, t22, t23, rfl, ?_, hk, rfl, hp0, fun _ => rfl, j, kd⟩
       simp [yz0] at hf ⊢; omega
     . simp [rdyT] at hr
       obtain ⟨rfl, rfl⟩ := hr; have e := hp2 rfl; subst e; refine ⟨_, rfl, fun K hK => ?_⟩; go_simp; refine hK _ _ ⟨p0, l0, l1, true, true, l3, l4, l5, l6, l7, t5, t6, t15, t20, t21, _, _, t23, rfl, ?_, hk, rfl, hp0, fun _ => rfl, j.op2, kd⟩
       simp [yz0] at hf ⊢; omega
     . simp [rdyT] at hr
       obtain ⟨⟨⟨rfl, rfl⟩, rfl⟩, rfl⟩ := hr; have e := j.h2 rfl; subst e; refine ⟨_, rfl, fun K hK => ?_⟩; go_simp; refine (xx5 b bb ob m cb Y _ (by omega) hmc hbc kY).mono ?_; rintro e w' ⟨v, rfl, o, s⟩; have k4 := kd.since s; refine hK _ _ ⟨p0, l0, true, p2, true, true, l4, l5, l6, false, t5, t6, t15, t20, t21, t18, _, v, rfl, ?_, ?_, rfl, hp0, hp2, j.op3 s (yj4 o).1 (yj4 o).2, ⟨k4.1, k4.2.1, k4.2.2.1, Kd.own o⟩⟩
       . simp [yz0] at hf ⊢; omega
       . revert hk; cases l6 <;> cases l4 <;> cases l5 <;> decide
     . simp [rdyT] at hr
       obtain ⟨rfl, rfl⟩ := hr; refine ⟨_, rfl, fun K hK => ?_⟩; go_simp; have k4 := kd.since ((World.Since.refl wx.heap.size wx).alloc (Nat.le_refl _) (.cells #[.slice none 0 0] 165)); refine hK _ _ ⟨p0, l0, l1, p2, l2, l3, true, l5, false, l7, _, t6, t15, t20, t21, t18, t22, t23, rfl, ?_, ?_, rfl, hp0, hp2, j.op4 165, ⟨Kd.box _ _, k4.2.1, k4.2.2.1, k4.2.2.2⟩⟩
       . simp [yz0] at hf ⊢; omega
       . simpa [okl] using hk
     . simp [rdyT] at hr
       obtain ⟨rfl, rfl⟩ := hr; refine ⟨_, rfl, fun K hK => ?_⟩; go_simp; have k4 := kd.since ((World.Since.refl wx.heap.size wx).alloc (Nat.le_refl _) (.cells #[.slice none 0 0] 165)); refine hK _ _ ⟨p0, l0, l1, p2, l2, l3, l4, true, l6, false, t5, _, t15, t20, t21, t18, t22, t23, rfl, ?_, ?_, rfl, hp0, hp2, j.op5 165, ⟨k4.1, Kd.box _ _, k4.2.2.1, k4.2.2.2⟩⟩
       . simp [yz0] at hf ⊢; omega
       . revert hk; cases l6 <;> cases l4 <;> cases l1 <;> cases l3 <;> decide
     . simp [rdyT] at hr
       obtain ⟨⟨⟨⟨rfl, rfl⟩, rfl⟩, rfl⟩, rfl⟩ := hr; obtain ⟨c, e5, c1, c2, c3⟩ := j.h4 rfl; obtain ⟨xa, xg, xc, e21, -⟩ := yq5 (j.h1 rfl) j.B21 wx.heap.size j.S.size (Nat.le_refl _); subst e5 e21; rw [if_neg (by simp)] at c1; refine ⟨_, rfl, fun K hK => ?_⟩; go_simp; refine hK _ _ ⟨p0, l0, true, p2, l2, true, true, true, true, l7, _, t6, t15, t20, _, t18, t22, t23, rfl, ?_, ?_, rfl, hp0, hp2, j.op6 rfl, kd.set _ _⟩
       . simp [yz0] at hf ⊢; omega
       . simp [okl]
     . simp [rdyT] at hr
       obtain ⟨⟨⟨rfl, rfl⟩, rfl⟩, rfl⟩ := hr; obtain ⟨c, e5, c1, c2, c3⟩ := j.h5 rfl; obtain ⟨xa, xg, xc, e21, -⟩ := yq5 (j.h3 rfl) j.B23 wx.heap.size j.S.size (Nat.le_refl _); subst e5 e21; rw [if_neg (by simp)] at c1; refine ⟨_, rfl, fun K hK => ?_⟩; go_simp; refine hK _ _ ⟨p0, l0, l1, p2, l2, true, l4, true, true, true, t5, _, t15, t20, t21, t18, t22, _, rfl, ?_, ?_, rfl, hp0, hp2, j.op7 rfl, kd.set _ _⟩
       . simp [yz0] at hf ⊢; omega
       . simpa [okl] using hk
     . cases hr
   . rintro l ac wx ⟨p0, l0, l1, p2, l2, l3, l4, l5, l6, l7, t5, t6, t15, t20, t21, t18, t22, t23, rfl, hf, hk, rfl, hp0, hp2, j, kd⟩
     revert hf
     clear hk j hp0 hp2 kd
     revert p0 l0 l1 p2 l2 l3 l4 l5 l6 l7
     exact of_decide_eq_true (by kernel_rfl)
   . rintro fuel l ac wx ⟨p0, l0, l1, p2, l2, l3, l4, l5, l6, l7, t5, t6, t15, t20, t21, t18, t22, t23, rfl, hf, hk, rfl, hp0, hp2, j, kd⟩ he
     have hall : (p0 && (l0 && (l1 && (p2 && (l2 && (l3 && (l4 && (l5 && (l6 && l7))))))))) = true := by
      revert he
      clear hf j hp0 hp2 kd
      revert hk
      revert p0 l0 l1 p2 l2 l3 l4 l5 l6 l7
      exact of_decide_eq_true (by kernel_rfl)
     simp only [Bool.and_eq_true] at hall; obtain ⟨rfl, rfl, rfl, rfl, rfl, rfl, rfl, rfl, rfl, rfl⟩ := hall; rw [xk5 pX, xk5 pY] at j; have e15 := hp0 rfl; have e18 := hp2 rfl; subst e15 e18; obtain ⟨c, d, gn, gm, an, am, cn, cm, rfl, rfl, G, BT, BB⟩ := j.gd2 kd hXl hYl pX pY; clear hp0 hp2 kd he hf hk; have sx := j.S; have ox : wx.ownsRow w2.heap.size 5 1 (.slice (some ⟨w2.heap.size, 0, none⟩) 0 0) 0 (Lib.byteCells []) := own_since OD sx; have Sx := SD.trans (sM sx SD.size); have Tx := TD.trans (sM sx TD.size); have Px : PowB w2.heap.size wx := PW.on Tx; have hTx := Tx.size; have hx1 : w2.heap.size <= c := Nat.le_trans TD.size G.hc; have hx2 : w2.heap.size <= d := Nat.le_trans TD.size G.hd; have hx3 : w2.heap.size <= gn := Nat.le_trans TD.size G.hn; have hx4 : w2.heap.size <= gm := Nat.le_trans TD.size G.hm; clear j b1 b2 XD YD zD OD sx TD SD; go_wp2_with fail; refine (xv4 c gn w2.heap.size n cn an X _ 0 [] wx (by omega) G.nX BT G.lX G.pX (Ne.symm G.d3) ox hTx hx1 hx3 (by omega) Px).mono ?_; rintro e w5 ⟨v5, rfl, HN5, o5, Kp5⟩; have S5 := Sx.trans (sM Kp5.since (Nat.le_trans S2.size (Nat.le_refl _))); have P5 := Px.on Kp5.since; have B5 := BB.kp Kp5 (Ne.symm G.d1) (Ne.symm G.d4) G.d5 (Ne.symm G.d2); have z5 : w2.heap.size <= w5.heap.size := Nat.le_trans hTx Kp5.size; have hdl := dd_lim hn hXl; clear ox Kp5 BT BB Px Sx Tx; obtain ⟨n5, hn5⟩ : ∃ n5, n5 = 0 + (Lib.decDigits (lv X n)).length := ⟨_, rfl⟩; rw [<- hn5] at o5; have HN := hide hn5; have hl5 : n5 <= 33554434 := by omega
     clear hn5 hdl; have hb5 := B5.c0; go_wp2_with fail; refine (xz4 d 0 am gm 0 m cm Y w5 hb5 B5.L G.lY G.pY).mono ?_; rintro e w6 ⟨rfl, rfl⟩
     by_cases h1 : lv Y m = 1
     . have hd1 : decide (lv Y m = 1) = true := by simp [h1]
       have HD := hide h1; rw [hd1]; obtain ⟨g7, c7, rfl, hcv⟩ := xk7 o5 HN5.out (by rw [HN.out]; simp); clear h1 hd1; go_wp2; go_ret; refine ⟨?_, S5⟩; have hD := HD.out
       simp [yz4, hD]
     . have hd1 : decide (lv Y m = 1) = false := by simp [h1]
       have HD := hide h1; rw [hd1]; clear h1 hd1
       go_wp2_with (at_builtin; refine wpList_append_own _ rfl _ _ 114 rfl w2.heap.size 5 i0 (.int .u8 0) 1 1 Tryz.underlying114 hi hz0 hz1 hz2 rfl (by decide) _ _ _ rfl (o5.alloc _) ⟨w6.heap.size, 0, none⟩ 1 1 [.int .u8 47] rfl rfl (xj2 _ _ _) (xj6 _ rfl) (by unfold maxLen; omega) (by omega) (by simp; omega) ?_)
       intro v7 w7 o7 g7 hnn; have t7 := sal w6 (.cells #[.int .u8 47] 5); have s7 : w6.Since w2.heap.size w7 := (sM t7 z5).grown g7 (by simp; omega) (fun k hk => (o5.lt k hk).1); have k7 : Lib.OthersKept 5 none w6 w7 := (kept_since t7).grown g7 (Lib.ownsRow_kind (o5.alloc _)); have S7 := S5.trans (sM s7 S2.size); have P7 := P5.on s7; have B7 := B5.others k7; have z7 := Nat.le_trans z5 s7.size
       have o8 : w7.ownsRow w2.heap.size 5 1 v7 (n5 + 1) (Lib.byteCells ([] ++ Lib.decDigits (lv X n) ++ [47])) := by
        rw [yx8 _ [47]]; exact o7
       clear o5 o7 g7 hnn t7 s7 k7 S5 P5 B5 hb5; go_wp2_with fail; refine (xv4 d gm w2.heap.size m cm am Y _ (n5 + 1) _ w7 (by omega) G.nY B7 G.lY G.pY (Ne.symm G.d6) o8 z7 hx2 hx4 (by omega) P7).mono ?_; rintro e w9 ⟨v9, rfl, HN9, o9, Kp9⟩; have S9 := S7.trans (sM Kp9.since S2.size); obtain ⟨g9, c9, rfl, hcv⟩ := xk7 o9 HN9.out (by rw [HN.out]; simp; omega); clear o9 Kp9 B7 P7; go_wp2; go_ret; refine ⟨?_, S9⟩; have hD := HD.out
       simp [yz4, hD]
 . have z3 : w2.heap.size + 1 = (w2.alloc (.cells #[] 5)).heap.size := by simp
   have nc : ∀ j u, [Value.int .u8 45][j]? = some u -> ((w2.alloc (.cells #[] 5)).alloc (.cells #[.int .u8 45] 5)).cell? ((⟨w2.heap.size + 1, 0, none⟩ : Addr).add j) = some u := by
    rw [z3]; exact xj2 _ _ _
   have o4 : ((w2.alloc (.cells #[] 5)).alloc (.cells #[.int .u8 45] 5)).ownsRow w2.heap.size 5 1 (.slice (some ⟨w2.heap.size, 0, none⟩) 0 0) 0 (Lib.byteCells []) := o3.alloc _; clear z3
   go_wp2_with (at_builtin; refine wpList_append_own _ rfl _ _ 114 rfl w2.heap.size 5 i0 (.int .u8 0) 1 1 Tryz.underlying114 hi hz0 hz1 hz2 rfl (by decide) _ _ _ rfl o4 ⟨w2.heap.size + 1, 0, none⟩ 1 1 [.int .u8 45] rfl rfl nc (xj6 _ rfl) (by unfold maxLen; omega) (by omega) (by simp; omega) ?_)
   intro vo wB oB gB hnn; have t4 : w2.Since w2.heap.size ((w2.alloc (.cells #[] 5)).alloc (.cells #[.int .u8 45] 5)) := t3.alloc t3.size _; have TB : w2.Since w2.heap.size wB := t4.grown gB (by simp; omega) (fun k hk => (o4.lt k hk).1); have SB := S2.trans (sM TB S2.size); have KB := K2.keep TB; have XB := hX.keep SB; have YB := hY.keep SB; have HLO : Hid (([45] : List UInt8).length = 1) := hide rfl; clear K3 S3 o3 t3 hX hY t4 gB hnn o4 nc K2; go_wp2; refine wp_region_any (by kernel_rfl) ?_
   change wpAny _ _ _ _ _ _ _ (World.drew _)
   have b1 : wB.drew.cell? ⟨w.heap.size, 1, none⟩ = some (.slice a n ca) := KB.c1; have b2 : wB.drew.cell? ⟨w.heap.size, 2, none⟩ = some (.slice b m cb) := KB.c2; have XD : xq1 wB.drew a ba oa n X := XB; have YD : xq1 wB.drew b bb ob m Y := YB; have zD : w.heap.size < wB.drew.heap.size := KB.lt; have SD : w.Since w.heap.size wB.drew := ⟨SB.os, SB.tape, SB.output, SB.size, SB.block⟩; have OD : wB.drew.ownsRow w2.heap.size 5 1 vo 1 (Lib.byteCells [45]) := World.ownsRow.drew oB; have TD : w2.Since w2.heap.size wB.drew := ⟨TB.os, TB.tape, TB.output, TB.size, TB.block⟩; clear KB XB YB SB oB TB k0 k1 k2; generalize wB.drew = wD at *
   refine wpAny_inv (fun fuel l ac wx => ∃ p0 l0 l1 p2 l2 l3 l4 l5 l6 l7 t5 t6 t15 t20 t21 t18 t22 t23, l = #[p0, l0, l1, p2, l2, l3, l4, l5, l6, l7] /\ fuel = yz0 p0 l0 l1 p2 l2 l3 l4 l5 l6 l7 /\ okl l1 l3 l4 l5 l6 l7 = true /\
    ac = { tmps := #[Value.agg #[Value.bool true, Value.slice a n ca, Value.slice b m cb], Value.pointer (some { block := w.heap.size, off := 0 }), Value.string { data := #[] }, vo, t5, t6, Value.slice (some { block := w2.heap.size, off := 0 }) 0 0, Value.pointer (some { block := w.heap.size, off := 0 }), Value.bool true, Value.slice (some { block := w2.heap.size, off := 0 }) 0 0, Value.slice (some { block := w2.heap.size + 1, off := 0 }) 1 1, vo, t15, t20, t21, t18, t22, t23, undef, undef, undef, undef, undef, undef, undef, undef, undef, undef, undef], defers := [] } /\ (p0 = true -> t15 = .pointer (some ⟨w.heap.size, 1, none⟩)) /\ (p2 = true -> t18 = .pointer (some ⟨w.heap.size, 2, none⟩)) /\
    J wD (.slice a n ca) (.slice b m cb) (tlen (nz X) n) (tlen (nz Y) m) X Y l0 l1 l2 l3 l4 l5 l6 l7 t5 t6 t20 t21 t22 t23 wx /\ Kd4 wx t5 t6 t21 t23) ?_ ?_ ?_ _ _ _ _ ⟨_, _, _, _, _, _, _, _, _, _, _, _, _, _, _, _, _, _, rfl, rfl, rfl, rfl, (fun h => by cases h), (fun h => by cases h), J.start _ _ _ _ _ _ _ _ _, Kd4.start _⟩
   . rintro fuel l ac wx ⟨p0, l0, l1, p2, l2, l3, l4, l5, l6, l7, t5, t6, t15, t20, t21, t18, t22, t23, rfl, hf, hk, rfl, hp0, hp2, j, kd⟩ i hi
     have hr : rdyT p0 l0 l1 p2 l2 l3 l4 l5 l6 l7 i = true := by
      revert i
      refine List.all_eq_true.1 ?_
      revert hk
      clear hf j hp0 hp2 kd
      revert p0 l0 l1 p2 l2 l3 l4 l5 l6 l7
      exact of_decide_eq_true (by kernel_rfl)
     have k1 : wx.cell? ⟨w.heap.size, 1, none⟩ = some (.slice a n ca) := by rw [j.S.cell (a := ⟨w.heap.size, 1, none⟩) zD]; exact b1
     have k2 : wx.cell? ⟨w.heap.size, 2, none⟩ = some (.slice b m cb) := by rw [j.S.cell (a := ⟨w.heap.size, 2, none⟩) zD]; exact b2
     have kX := XD.keep j.S; have kY := YD.keep j.S; clear hi
     rcases i with _ | _ | _ | _ | _ | _ | _ | _ | _ | _ | i
     . simp [rdyT] at hr
       subst hr; refine ⟨_, rfl, fun K hK => ?_⟩; go_simp; refine hK _ _ ⟨true, l0, l1, p2, l2, l3, l4, l5, l6, l7, t5, t6, _, t20, t21, t18, t22, t23, rfl, ?_, hk, rfl, fun _ => rfl, hp2, j, kd⟩
       simp [yz0] at hf ⊢; omega
     . simp [rdyT] at hr
       obtain ⟨rfl, rfl⟩ := hr; have e := hp0 rfl; subst e; refine ⟨_, rfl, fun K hK => ?_⟩; go_simp; refine hK _ _ ⟨true, true, l1, p2, l2, l3, l4, l5, l6, l7, t5, t6, _, _, t21, t18, t22, t23, rfl, ?_, hk, rfl, fun _ => rfl, hp2, j.op0, kd⟩
       simp [yz0] at hf ⊢; omega
     . simp [rdyT] at hr
       obtain ⟨⟨⟨rfl, rfl⟩, rfl⟩, rfl⟩ := hr; have e := j.h0 rfl; subst e; refine ⟨_, rfl, fun K hK => ?_⟩; go_simp; refine (xx5 a ba oa n ca X _ (by omega) hnc hac kX).mono ?_; rintro e w' ⟨v, rfl, o, s⟩; have k4 := kd.since s; refine hK _ _ ⟨p0, true, true, p2, l2, false, l4, l5, false, l7, t5, t6, t15, _, v, t18, t22, t23, rfl, ?_, ?_, rfl, hp0, hp2, j.op1 s (yj4 o).1 (yj4 o).2, ⟨k4.1, k4.2.1, Kd.own o, k4.2.2.2⟩⟩
       . simp [yz0] at hf ⊢; omega
       . simpa [okl] using hk
     . simp [rdyT] at hr
       subst hr; refine ⟨_, rfl, fun K hK => ?_⟩; go_simp; refine hK _ _ ⟨p0, l0, l1, true, l2, l3, l4, l5, l6, l7, t5, t6, t15, t20, t21, _, t22, t23, rfl, ?_, hk, rfl, hp0, fun _ => rfl, j, kd⟩
       simp [yz0] at hf ⊢; omega
     . simp [rdyT] at hr
       obtain ⟨rfl, rfl⟩ := hr; have e := hp2 rfl; subst e; refine ⟨_, rfl, fun K hK => ?_⟩; go_simp; refine hK _ _ ⟨p0, l0, l1, true, true, l3, l4, l5, l6, l7, t5, t6, t15, t20, t21, _, _, t23, rfl, ?_, hk, rfl, hp0, fun _ => rfl, j.op2, kd⟩
       simp [yz0] at hf ⊢; omega
     . simp [rdyT] at hr
       obtain ⟨⟨⟨rfl, rfl⟩, rfl⟩, rfl⟩ := hr; have e := j.h2 rfl; subst e; refine ⟨_, rfl, fun K hK => ?_⟩; go_simp; refine (xx5 b bb ob m cb Y _ (by omega) hmc hbc kY).mono ?_; rintro e w' ⟨v, rfl, o, s⟩; have k4 := kd.since s; refine hK _ _ ⟨p0, l0, true, p2, true, true, l4, l5, l6, false, t5, t6, t15, t20, t21, t18, _, v, rfl, ?_, ?_, rfl, hp0, hp2, j.op3 s (yj4 o).1 (yj4 o).2, ⟨k4.1, k4.2.1, k4.2.2.1, Kd.own o⟩⟩
       . simp [yz0] at hf ⊢; omega
       . revert hk; cases l6 <;> cases l4 <;> cases l5 <;> decide
     . simp [rdyT] at hr
       obtain ⟨rfl, rfl⟩ := hr; refine ⟨_, rfl, fun K hK => ?_⟩; go_simp; have k4 := kd.since ((World.Since.refl wx.heap.size wx).alloc (Nat.le_refl _) (.cells #[.slice none 0 0] 165)); refine hK _ _ ⟨p0, l0, l1, p2, l2, l3, true, l5, false, l7, _, t6, t15, t20, t21, t18, t22, t23, rfl, ?_, ?_, rfl, hp0, hp2, j.op4 165, ⟨Kd.box _ _, k4.2.1, k4.2.2.1, k4.2.2.2⟩⟩
       . simp [yz0] at hf ⊢; omega
       . simpa [okl] using hk
     . simp [rdyT] at hr
       obtain ⟨rfl, rfl⟩ := hr; refine ⟨_, rfl, fun K hK => ?_⟩; go_simp; have k4 := kd.since ((World.Since.refl wx.heap.size wx).alloc (Nat.le_refl _) (.cells #[.slice none 0 0] 165)); refine hK _ _ ⟨p0, l0, l1, p2, l2, l3, l4, true, l6, false, t5, _, t15, t20, t21, t18, t22, t23, rfl, ?_, ?_, rfl, hp0, hp2, j.op5 165, ⟨k4.1, Kd.box _ _, k4.2.2.1, k4.2.2.2⟩⟩
       . simp [yz0] at hf ⊢; omega
       . revert hk; cases l6 <;> cases l4 <;> cases l1 <;> cases l3 <;> decide
     . simp [rdyT] at hr
       obtain ⟨⟨⟨⟨rfl, rfl⟩, rfl⟩, rfl⟩, rfl⟩ := hr; obtain ⟨c, e5, c1, c2, c3⟩ := j.h4 rfl; obtain ⟨xa, xg, xc, e21, -⟩ := yq5 (j.h1 rfl) j.B21 wx.heap.size j.S.size (Nat.le_refl _); subst e5 e21; rw [if_neg (by simp)] at c1; refine ⟨_, rfl, fun K hK => ?_⟩; go_simp; refine hK _ _ ⟨p0, l0, true, p2, l2, true, true, true, true, l7, _, t6, t15, t20, _, t18, t22, t23, rfl, ?_, ?_, rfl, hp0, hp2, j.op6 rfl, kd.set _ _⟩
       . simp [yz0] at hf ⊢; omega
       . simp [okl]
     . simp [rdyT] at hr
       obtain ⟨⟨⟨rfl, rfl⟩, rfl⟩, rfl⟩ := hr; obtain ⟨c, e5, c1, c2, c3⟩ := j.h5 rfl; obtain ⟨xa, xg, xc, e21, -⟩ := yq5 (j.h3 rfl) j.B23 wx.heap.size j.S.size (Nat.le_refl _); subst e5 e21; rw [if_neg (by simp)] at c1; refine ⟨_, rfl, fun K hK => ?_⟩; go_simp; refine hK _ _ ⟨p0, l0, l1, p2, l2, true, l4, true, true, true, t5, _, t15, t20, t21, t18, t22, _, rfl, ?_, ?_, rfl, hp0, hp2, j.op7 rfl, kd.set _ _⟩
       . simp [yz0] at hf ⊢; omega
       . simpa [okl] using hk
     . cases hr
   . rintro l ac wx ⟨p0, l0, l1, p2, l2, l3, l4, l5, l6, l7, t5, t6, t15, t20, t21, t18, t22, t23, rfl, hf, hk, rfl, hp0, hp2, j, kd⟩
     revert hf
     clear hk j hp0 hp2 kd
     revert p0 l0 l1 p2 l2 l3 l4 l5 l6 l7
     exact of_decide_eq_true (by kernel_rfl)
   . rintro fuel l ac wx ⟨p0, l0, l1, p2, l2, l3, l4, l5, l6, l7, t5, t6, t15, t20, t21, t18, t22, t23, rfl, hf, hk, rfl, hp0, hp2, j, kd⟩ he
     have hall : (p0 && (l0 && (l1 && (p2 && (l2 && (l3 && (l4 && (l5 && (l6 && l7))))))))) = true := by
      revert he
      clear hf j hp0 hp2 kd
      revert hk
      revert p0 l0 l1 p2 l2 l3 l4 l5 l6 l7
      exact of_decide_eq_true (by kernel_rfl)
     simp only [Bool.and_eq_true] at hall; obtain ⟨rfl, rfl, rfl, rfl, rfl, rfl, rfl, rfl, rfl, rfl⟩ := hall; rw [xk5 pX, xk5 pY] at j; have e15 := hp0 rfl; have e18 := hp2 rfl; subst e15 e18; obtain ⟨c, d, gn, gm, an, am, cn, cm, rfl, rfl, G, BT, BB⟩ := j.gd2 kd hXl hYl pX pY; clear hp0 hp2 kd he hf hk; have sx := j.S; have ox : wx.ownsRow w2.heap.size 5 1 vo 1 (Lib.byteCells [45]) := own_since OD sx; have Sx := SD.trans (sM sx SD.size); have Tx := TD.trans (sM sx TD.size); have Px : PowB w2.heap.size wx := PW.on Tx; have hTx := Tx.size; have hx1 : w2.heap.size <= c := Nat.le_trans TD.size G.hc; have hx2 : w2.heap.size <= d := Nat.le_trans TD.size G.hd; have hx3 : w2.heap.size <= gn := Nat.le_trans TD.size G.hn; have hx4 : w2.heap.size <= gm := Nat.le_trans TD.size G.hm; clear j b1 b2 XD YD zD OD sx TD SD; go_wp2_with fail; refine (xv4 c gn w2.heap.size n cn an X _ 1 [45] wx (by omega) G.nX BT G.lX G.pX (Ne.symm G.d3) ox hTx hx1 hx3 (by omega) Px).mono ?_; rintro e w5 ⟨v5, rfl, HN5, o5, Kp5⟩; have S5 := Sx.trans (sM Kp5.since (Nat.le_trans S2.size (Nat.le_refl _))); have P5 := Px.on Kp5.since; have B5 := BB.kp Kp5 (Ne.symm G.d1) (Ne.symm G.d4) G.d5 (Ne.symm G.d2); have z5 : w2.heap.size <= w5.heap.size := Nat.le_trans hTx Kp5.size; have hdl := dd_lim hn hXl; clear ox Kp5 BT BB Px Sx Tx; obtain ⟨n5, hn5⟩ : ∃ n5, n5 = 1 + (Lib.decDigits (lv X n)).length := ⟨_, rfl⟩; rw [<- hn5] at o5; have HN := hide hn5; have hl5 : n5 <= 33554434 := by omega
     clear hn5 hdl; have hb5 := B5.c0; go_wp2_with fail; refine (xz4 d 0 am gm 0 m cm Y w5 hb5 B5.L G.lY G.pY).mono ?_; rintro e w6 ⟨rfl, rfl⟩
     by_cases h1 : lv Y m = 1
     . have hd1 : decide (lv Y m = 1) = true := by simp [h1]
       have HD := hide h1; rw [hd1]; obtain ⟨g7, c7, rfl, hcv⟩ := xk7 o5 HN5.out (by rw [HN.out]; simp; omega); clear h1 hd1; go_wp2; go_ret; refine ⟨?_, S5⟩; have hD := HD.out
       simp [yz4, hD]
     . have hd1 : decide (lv Y m = 1) = false := by simp [h1]
       have HD := hide h1; rw [hd1]; clear h1 hd1
       go_wp2_with (at_builtin; refine wpList_append_own _ rfl _ _ 114 rfl w2.heap.size 5 i0 (.int .u8 0) 1 1 Tryz.underlying114 hi hz0 hz1 hz2 rfl (by decide) _ _ _ rfl (o5.alloc _) ⟨w6.heap.size, 0, none⟩ 1 1 [.int .u8 47] rfl rfl (xj2 _ _ _) (xj6 _ rfl) (by unfold maxLen; omega) (by omega) (by simp; omega) ?_)
       intro v7 w7 o7 g7 hnn; have t7 := sal w6 (.cells #[.int .u8 47] 5); have s7 : w6.Since w2.heap.size w7 := (sM t7 z5).grown g7 (by simp; omega) (fun k hk => (o5.lt k hk).1); have k7 : Lib.OthersKept 5 none w6 w7 := (kept_since t7).grown g7 (Lib.ownsRow_kind (o5.alloc _)); have S7 := S5.trans (sM s7 S2.size); have P7 := P5.on s7; have B7 := B5.others k7; have z7 := Nat.le_trans z5 s7.size
       have o8 : w7.ownsRow w2.heap.size 5 1 v7 (n5 + 1) (Lib.byteCells ([45] ++ Lib.decDigits (lv X n) ++ [47])) := by
        rw [yx8 _ [47]]; exact o7
       clear o5 o7 g7 hnn t7 s7 k7 S5 P5 B5 hb5; go_wp2_with fail; refine (xv4 d gm w2.heap.size m cm am Y _ (n5 + 1) _ w7 (by omega) G.nY B7 G.lY G.pY (Ne.symm G.d6) o8 z7 hx2 hx4 (by omega) P7).mono ?_; rintro e w9 ⟨v9, rfl, HN9, o9, Kp9⟩; have S9 := S7.trans (sM Kp9.since S2.size); obtain ⟨g9, c9, rfl, hcv⟩ := xk7 o9 HN9.out (by rw [HN.out]; simp; omega); clear o9 Kp9 B7 P7; go_wp2; go_ret; refine ⟨?_, S9⟩; have hD := HD.out
       simp [yz4, hD]
end Go.Proofs.YtnogbaapcjjngaaGreatDoor
