import Derived.Test.YtnogbaapcjjngaaGreatDoorOwnP19
import Derived.Test.YtnogbaapcjjngaaGreatDoorOwnP3
import Derived.Test.YtnogbaapcjjngaaGreatDoorOwnP8
import Derived.Test.YtnogbaapcjjngaaGreatDoorOwnP4
import Derived.Deep.RegionHeld3
import Derived.Test.YtnogbaapcjjngaaGreatDoorOwnP1
set_option maxHeartbeats 6400000
set_option maxRecDepth 100000
namespace Go.Proofs.YtnogbaapcjjngaaGreatDoor
open Go.RowKit
theorem xq1.at1 {c o : Nat} {r : Option Nat} {w w' : World} {a : Option Addr} {b off m : Nat} {Y : Nat -> Nat} (h : xq1 w a b off m Y) (s : At1 c o r w w') (h1 : 0 < m -> b ≠ c) (h2 : 0 < m -> r ≠ some b) : xq1 w' a b off m Y :=
 fun j hj => ⟨(h j hj).1, (World.cell?_of_block (w := w) (a := ⟨b, off + j, none⟩) (s.block b (h.lt (by omega)) (h1 (by omega)) (fun e => h2 (by omega) e.symm))).trans (h j hj).2⟩
theorem add_any (c o base n : Nat) (v0 : Value) (a' : Option Addr) (b' off' m cap' : Nat) (X Y : Nat -> Nat) (w : World) (hn : n <= 67108864) (hm : m <= 67108864) (hc0 : w.cell? ⟨c, o, none⟩ = some v0) (hf0 : w.frozen? ⟨c, o, none⟩ = false)
 (hown : w.ownsRow base 159 1 v0 n (ll X n)) (hcb : c < base) (hbase : base <= w.heap.size) (hne : 0 < m -> v0.ownBlock ≠ some b') (hbc : 0 < m -> b' ≠ c) (hY : xq1 w a' b' off' m Y) (hXl : ∀ j, j < n -> X j < 4294967296) (hYl : ∀ j, j < m -> Y j < 4294967296) :
 Calls Tryz.prog 240 #[.pointer (some ⟨c, o, none⟩), .slice a' m cap'] w fun e w' => e = .returned (.tuple #[]) /\ ∃ v k V, w'.cell? ⟨c, o, none⟩ = some v /\ w'.ownsRow base 159 1 v k (ll V k) /\ (∀ q, v.ownBlock = some q -> v0.ownBlock = some q ∨ w.heap.size <= q) /\
  At1 c o v0.ownBlock w w' /\ (∀ j, j < k -> V j < 4294967296) /\ lv V k = lv X n + lv Y m /\ k <= max n m + 1 /\ (k = n ∨ k = m ∨ V (k - 1) ≠ 0) := by
 obtain ⟨i0, hi, hz0, hz1, hz2⟩ := info_parts Tryz.info159; have hcl : c < w.heap.size := by omega
 have HXl := hide hXl; have HYl := hide hYl; clear hXl hYl
 have HLL : Hid (ll (extL X n) n = ll X n) := by
  simp only [Hid, ll]; exact List.map_congr_left fun j hj => by simp [extL, List.mem_range.1 hj]
 go_enter Tryz.func240, Tryz.ntmps240; go_wp2
 go_loopg [] (m - n) (fun g wr => ∃ (k : Nat) (v : Value), n <= k /\ (k = n ∨ k <= m) /\ Hid (g = m - k) /\ wr.cell? ⟨c, o, none⟩ = some v /\ wr.ownsRow base 159 1 v k (ll (extL X n) k) /\ Hid (∀ q, v.ownBlock = some q -> v0.ownBlock = some q ∨ w.heap.size <= q) /\ At1 c o v0.ownBlock w wr)
 case atStart => exact ⟨n, v0, Nat.le_refl _, Or.inl rfl, hide rfl, hc0, by rw [HLL.out]; exact hown, hide (fun q hq => Or.inl hq), At1.refl _ _ _ _⟩
 case round =>
  obtain ⟨k, v, hnk, hkm, HG, q0, ho, HB, hs⟩ := hrel; obtain ⟨a, cap, rfl, hkc, hac, hag⟩ := xw2 ho; have qf : wr.frozen? ⟨c, o, none⟩ = false := by rw [hs.frozen]; exact hf0
  have hsz := hs.size
  by_cases hlt : k < m
  . have HO := hide hown
    clear hown; have hC : some c ≠ (Value.slice a k cap).ownBlock := fun e => by have := (ho.lt c e.symm).1; omega
    go_wp2_with (at_builtin; refine wpList_append_own_at _ rfl _ _ 165 rfl base 159 i0 (.int .u32 0) 1 4 Tryz.underlying165 hi hz0 hz1 hz2 rfl (by decide) _ _ _ rfl (ho.alloc _) ⟨wr.heap.size, 0, none⟩ 1 1 [.int .u32 0] rfl rfl (xj2 _ _ _) (xj6 _ rfl) (by unfold maxLen; omega) (by omega) (by simp; omega) ?_)
    intro v' w1 hown' hgrow hnn hat; rw [ll_snoc X n k hnk] at hown'; have sW := sal wr (.cells #[.int .u32 0] 159)
    have hR : (Value.slice a k cap).ownBlock = v0.ownBlock ∨ ∀ q, (Value.slice a k cap).ownBlock = some q -> w.heap.size <= q := by
     cases e : (Value.slice a k cap).ownBlock with
     | none => exact Or.inr (fun q h => by cases h)
     | some q =>
       rcases HB.out q e with h | h
       . exact Or.inl h.symm
       . exact Or.inr (fun q' h' => by cases h'; exact h)
    have hs1 : At1 c o v0.ownBlock w w1 := (hs.alloc hcl _).grown hgrow hcl hR hC; have q1 : w1.cell? ⟨c, o, none⟩ = some (.slice a k cap) := hgrow.cell ((sW.cell (a := ⟨c, o, none⟩) (show c < wr.heap.size by omega)).trans q0) hC; have f1 : w1.frozen? ⟨c, o, none⟩ = false := by rw [hs1.frozen]; exact hf0
    have HB1 := hide (fun q (hq : v'.ownBlock = some q) => show v0.ownBlock = some q ∨ w.heap.size <= q by
     rcases hat with h | h
     . exact HB.out q (h.symm.trans hq)
     . rw [hq] at h; simp at h; omega)
    obtain ⟨a1, cap1, rfl, hkc1, hac1, hag1⟩ := xw2 hown'; have hCv : (Value.slice a1 (k + 1) cap1).ownBlock ≠ some c := fun e => by have := (hown'.lt c e).1; omega
    clear hgrow hnn hat sW hR ho hs HB q0 qf hC; go_wp2
    go_roundg (m - (k + 1))
    case rel => exact ⟨k + 1, _, by omega, Or.inr (by omega), hide rfl, World.cell?_setCell_same _ _ _ q1, ownsRow_setCell_other hown' hCv _, HB1, hs1.setC _⟩
    case measure => have := HG.out; omega
  . have hmk : m <= k := by omega
    have hkb : k <= 67108864 := by omega
    have HKK : Hid (k = n ∨ k = m) := hide (by omega); have HV0 : Hid (AddL X (extL X n) Y n m 0 0) := hide ⟨by simp [lv], by omega, fun _ _ => rfl, fun j hj => absurd hj (by omega)⟩; have HK : Hid (k <= max n m) := hide (by omega); clear hown hc0 hlt hkm HG; go_wp2
    go_loopw [4, 26] (fun q t wr => ∃ (i cb : Nat) (V : Nat -> Nat), i <= k /\ t = .int .i64 i /\ q = .int .u64 cb /\ cb <= 1 /\ wr.cell? ⟨c, o, none⟩ = some (.slice a k cap) /\ wr.ownsRow base 159 1 (.slice a k cap) k (ll V k) /\ At1 c o v0.ownBlock w wr /\ Hid (AddL X V Y n m i cb)) (fun _ t _ => k - (intOf t).toNat)
    case atStart => exact ⟨0, 0, extL X n, Nat.zero_le _, rfl, rfl, by omega, q0, ho, hs, HV0⟩
    case round =>
     obtain ⟨i, cb, V, hik, rfl, rfl, hcb1, q2, ho2, hs2, HR⟩ := hrel; clear ho hs q0 qf HV0
     by_cases hlt : i < k
     . obtain ⟨g, rfl⟩ := hag i hlt
       obtain ⟨g', cap', e, -, hbg, hgl, LV, FV⟩ := xj9 ho2 (by simp); cases e; have g1 : wr.cell? ⟨g, i, none⟩ = some (.int .u32 (V i)) := by simpa using (LV i hlt).2
       have g2 : wr.frozen? ⟨g, i, none⟩ = false := FV i
       have hgr : some g = v0.ownBlock ∨ w.heap.size <= g := by
        rcases HB.out g rfl with h | h
        . exact Or.inl h.symm
        . exact Or.inr h
       have hxl : V i < 4294967296 := by
        rw [HR.out.2.2.1 i (Nat.le_refl _)]; unfold extL
        split
        . exact HXl.out i (by assumption)
        . omega
       have STEP := hide (fun (s c' : Nat) (y : Nat) (hy : extL Y m i = y) => addL_step (s := s) (c' := c') HR.out rfl hy); obtain ⟨x, ex⟩ : ∃ y, y = V i := ⟨_, rfl⟩; rw [<- ex] at g1 hxl STEP; clear ex LV FV; have hin : (i : Int) < (k : Int) := by omega
       have hcg : g ≠ c := by omega
       have q3 : ∀ u, (wr.setCell ⟨g, i, none⟩ u).cell? ⟨c, o, none⟩ = some (.slice (some ⟨g, 0, none⟩) k cap) := fun u => by rw [((xq0.refl wr g).setCell i u).cell (a := ⟨c, o, none⟩) (Ne.symm hcg)]; exact q2
       by_cases him : i < m
       . obtain ⟨rfl, ky⟩ := (hY.at1 hs2 hbc hne) i him
         have hyl := HYl.out i him; have HEy : Hid (extL Y m i = Y i) := by simp [Hid, extL, him]
         obtain ⟨y, ey⟩ : ∃ y, y = Y i := ⟨_, rfl⟩; rw [<- ey] at ky hyl HEy; clear ey
         by_cases hb : x + cb + y < 4294967296
         . go_wp2
           go_roundw
           case rel => go_light; exact ⟨i + 1, 0, _, by omega, by go_num, congrArg (Value.int .u64) (by omega), by omega, q3 _, own_setI ho2 i (x + cb + y) hlt _ (by omega), hs2.setRow g i _ hgr hcg, STEP.out _ _ y HEy.out (by omega) (by omega) (by omega)⟩
           case measure => simp [intOf]; omega
         . go_wp2
           go_roundw
           case rel => go_light; exact ⟨i + 1, 1, _, by omega, by go_num, congrArg (Value.int .u64) (by omega), by omega, q3 _, own_setI ho2 i (x + cb + y - 4294967296) hlt _ (by omega), hs2.setRow g i _ hgr hcg, STEP.out _ _ y HEy.out (by omega) (by omega) (by omega)⟩
           case measure => simp [intOf]; omega
       . have HEy : Hid (extL Y m i = 0) := by simp [Hid, extL, him]
         by_cases hb : x + cb < 4294967296
         . go_wp2
           go_roundw
           case rel => go_light; exact ⟨i + 1, 0, _, by omega, by go_num, congrArg (Value.int .u64) (by omega), by omega, q3 _, own_setI ho2 i (x + cb) hlt _ (by omega), hs2.setRow g i _ hgr hcg, STEP.out _ _ 0 HEy.out (by omega) (by omega) (by omega)⟩
           case measure => simp [intOf]; omega
         . go_wp2
           go_roundw
           case rel => go_light; exact ⟨i + 1, 1, _, by omega, by go_num, congrArg (Value.int .u64) (by omega), by omega, q3 _, own_setI ho2 i (x + cb - 4294967296) hlt _ (by omega), hs2.setRow g i _ hgr hcg, STEP.out _ _ 0 HEy.out (by omega) (by omega) (by omega)⟩
           case measure => simp [intOf]; omega
     . have e : i = k := by omega
       subst e; have HE := hide (addL_end HR.out hnk hmk); have hc2 : cb = 0 ∨ cb = 1 := by omega
       rcases hc2 with rfl | rfl
       . go_wp2
         go_end0
         exact ⟨rfl, _, i, V, q2, ho2, HB.out, hs2, HR.out.2.2.2, by have := HE.out; omega, by have := HK.out; omega, by rcases HKK.out with h | h <;> simp [h]⟩
       . have hC : some c ≠ (Value.slice a i cap).ownBlock := fun e => by have := (ho2.lt c e.symm).1; omega
         have hsz2 := hs2.size
         go_wp2_with (at_builtin; refine wpList_append_own_at _ rfl _ _ 165 rfl base 159 i0 (.int .u32 0) 1 4 Tryz.underlying165 hi hz0 hz1 hz2 rfl (by decide) _ _ _ rfl (ho2.alloc _) ⟨wr.heap.size, 0, none⟩ 1 1 [.int .u32 1] rfl rfl (xj2 _ _ _) (xj6 _ rfl) (by unfold maxLen; omega) (by omega) (by simp; omega) ?_)
         intro v' w1 hown' hgrow hnn hat; rw [show ll V i ++ [.int .u32 1] = ll (upd V i 1) (i + 1) from by rw [ll_succ, xq5, ll_congr (fun j hj => xq3 _ _ _ _ (show j ≠ i by omega))]; rfl] at hown'; have sW := sal wr (.cells #[.int .u32 1] 159)
         have hR : (Value.slice a i cap).ownBlock = v0.ownBlock ∨ ∀ q, (Value.slice a i cap).ownBlock = some q -> w.heap.size <= q := by
          cases e : (Value.slice a i cap).ownBlock with
          | none => exact Or.inr (fun q h => by cases h)
          | some q =>
            rcases HB.out q e with h | h
            . exact Or.inl h.symm
            . exact Or.inr (fun q' h' => by cases h'; exact h)
         have hs1 : At1 c o v0.ownBlock w w1 := (hs2.alloc hcl _).grown hgrow hcl hR hC; have q1 : w1.cell? ⟨c, o, none⟩ = some (.slice a i cap) := hgrow.cell ((sW.cell (a := ⟨c, o, none⟩) (show c < wr.heap.size by omega)).trans q2) hC; have f1 : w1.frozen? ⟨c, o, none⟩ = false := by rw [hs1.frozen]; exact hf0
         have HB1 := hide (fun q (hq : v'.ownBlock = some q) => show v0.ownBlock = some q ∨ w.heap.size <= q by
          rcases hat with h | h
          . exact HB.out q (h.symm.trans hq)
          . rw [hq] at h; simp at h; omega)
         obtain ⟨a1, cap1, rfl, hkc1, hac1, hag1⟩ := xw2 hown'; have hCv : (Value.slice a1 (i + 1) cap1).ownBlock ≠ some c := fun e => by have := (hown'.lt c e).1; omega
         have HV1 := hide HR.out.2.2.2; clear hgrow hnn hat sW hR ho2 hs2 HB q2 hC HR; go_wp2
         go_end0
         refine ⟨rfl, _, i + 1, upd V i 1, World.cell?_setCell_same _ _ _ q1, ownsRow_setCell_other hown' hCv _, HB1.out, hs1.setC _, fun j hj => ?_, ?_, by have := HK.out; omega, Or.inr (Or.inr (by rw [show i + 1 - 1 = i by omega, xq5]; omega))⟩
         . by_cases e2 : j = i
           . subst e2; rw [xq5]; omega
           . rw [xq3 _ _ _ _ e2]; exact HV1.out j (by omega)
         . have := HE.out
           simp only [lv, xq5, lv_upd V i 1 i (Nat.le_refl _)]; exact this
structure Oth3 (c g h : Nat) (w w' : World) : Prop where
 os : w'.os = w.os
 tape : w'.tape = w.tape
 output : w'.output = w.output
 size : w.heap.size <= w'.heap.size
 block : ∀ k, k < w.heap.size -> k ≠ c -> k ≠ g -> k ≠ h -> w'.heap[k]? = w.heap[k]?
theorem Oth3.trans {c g h : Nat} {w w1 w2 : World} (x : Oth3 c g h w w1) (y : Oth3 c g h w1 w2) : Oth3 c g h w w2 :=
 ⟨y.os.trans x.os, y.tape.trans x.tape, y.output.trans x.output, Nat.le_trans x.size y.size, fun k h1 h2 h3 h4 => (y.block k (Nat.lt_of_lt_of_le h1 x.size) h2 h3 h4).trans (x.block k h1 h2 h3 h4)⟩
theorem Oth3.ofMarked {c g h b : Nat} {w w' : World} (m : xq0 w w' b) (hb : b = c ∨ b = g ∨ b = h) : Oth3 c g h w w' :=
 ⟨m.os, m.tape, m.output, by rw [m.size]; exact Nat.le_refl _, fun k _ h2 h3 h4 => m.other k (by omega)⟩
theorem Oth3.ofAt1 {c o g h : Nat} {w w' : World} (m : At1 c o (some g) w w') : Oth3 c g h w w' :=
 ⟨m.os, m.tape, m.output, m.size, fun k h1 h2 h3 _ => m.block k h1 h2 (by simp; exact h3)⟩
def xj5 (f f' : Bool) (x y : Nat) : Bool := if f = f' then f else if x < y then f' else f
def xq4 (f f' : Bool) (x y : Nat) : Nat := if f = f' then x + y else if x < y then y - x else x - y
theorem top_of_sum {X Y V : Nat -> Nat} {n m k : Nat} (lV : ∀ j, j < k -> V j < 4294967296) (e : lv V k = lv X n + lv Y m) (hk : k = n ∨ k = m ∨ V (k - 1) ≠ 0) (pX : 0 < n -> X (n - 1) ≠ 0) (pY : 0 < m -> Y (m - 1) ≠ 0) (h0 : 0 < k) : V (k - 1) ≠ 0 := by
 intro hz; have e2 : lv V k = lv V (k - 1) := lv_more V (k - 1) k (by omega) (fun j h1 h2 => by rw [show j = k - 1 by omega]; exact hz)
 rcases hk with rfl | rfl | h
 . have := yz5 (A := V) (B := X) (n := k - 1) (m := k) (fun j hj => lV j (by omega)) (by omega) pX
   omega
 . have := yz5 (A := V) (B := Y) (n := k - 1) (m := k) (fun j hj => lV j (by omega)) (by omega) pY
   omega
 . exact h hz
theorem subAt1 (c : Nat) (x z u : Value) (b n cap : Nat) (a' : Option Addr) (b' off' m cap' : Nat) (X Y : Nat -> Nat) (w : World) (hn : n <= 268435456) (hnc : n <= cap) (B : Box4 w c x (.slice (some ⟨b, 0, none⟩) n cap) z u)
 (hf : ∀ x, w.frozen? ⟨b, x, none⟩ = false) (hcb : c ≠ b) (hbb : b' ≠ b) (hX : xq1 w (some ⟨b, 0, none⟩) b 0 n X) (hY : xq1 w a' b' off' m Y) (hXl : ∀ j, j < n -> X j < 4294967296) (hYl : ∀ j, j < m -> Y j < 4294967296) (pY : 0 < m -> Y (m - 1) ≠ 0) (hle : lv Y m <= lv X n) (g h : Nat) (hb : b = g ∨ b = h) :
 Calls Tryz.prog 241 #[.pointer (some ⟨c, 1, none⟩), .slice a' m cap'] w fun e w' => e = .returned (.tuple #[]) /\ ∃ v, Box4 w' c x v z u /\ xj0 w' v b (lv X n - lv Y m) n /\ Oth3 c g h w w' := by
 have hmn : m <= n := by
  rcases Nat.lt_or_ge n m with h1 | h1
  . have := yz5 (A := X) (B := Y) (n := n) (m := m) hXl h1 pY
    omega
  . exact h1
 refine (subtract_any c 1 b n cap a' b' off' m cap' X Y w hn hnc hmn B.c1 (B.f 1) hf hcb hbb hX hY hXl hYl hle).mono ?_; rintro e w' ⟨rfl, w2, V, M, L, lV, eV, rfl⟩; have M2 := (xq0.refl w2 c).setCell 1 (.slice (some ⟨b, 0, none⟩) (tlen (nz V) n) cap)
 have N2 : xj0 w2 (.slice (some ⟨b, 0, none⟩) (tlen (nz V) n) cap) b (lv X n - lv Y m) n :=
  ⟨_, _, _, V, rfl, Nat.le_trans (xj3 _ _) hnc, xj3 _ _, fun h => (by cases h), L.take (xj3 _ _), fun _ o => by rw [M.frozen o]; exact hf o, fun j hj => lV j (Nat.lt_of_lt_of_le hj (xj3 _ _)), top_row, by rw [xz8]; exact eV⟩
 exact ⟨rfl, _, (B.marked M hcb).set1 _, N2.marked M2 (Ne.symm hcb), (Oth3.ofMarked M (by omega)).trans (Oth3.ofMarked M2 (Or.inl rfl))⟩
theorem addTop_any (c : Nat) (f f' : Bool) (v2 v3 : Value) (g h qg qh : Nat) (P Q : Nat -> Nat) (w : World) (hqg : qg <= 16777215) (hqh : qh <= 16777215) (B : Box4 w c (.bool f) (.slice (some ⟨g, 0, none⟩) (tlen (nz P) qg) qg) v2 v3)
 (rg : w.rowIs g 159 qg (fun j => .int .u32 (P j : Nat))) (rh : w.rowIs h 159 qh (fun j => .int .u32 (Q j : Nat))) (hP : ∀ k, P k < 4294967296) (hQ : ∀ k, Q k < 4294967296) (hcg : c < g) (hgh : h ≠ g) (hch : c ≠ h) :
 Calls Tryz.prog 233 #[.pointer (some ⟨c, 0, none⟩), .bool f', .slice (some ⟨h, 0, none⟩) (tlen (nz Q) qh) qh] w fun e w' => e = .returned (.tuple #[]) /\ ∃ v gg, Box4 w' c (.bool (xj5 f f' (lv P qg) (lv Q qh))) v v2 v3 /\
  xj0 w' v gg (xq4 f f' (lv P qg) (lv Q qh)) 16777216 /\ (gg = g ∨ gg = h ∨ w.heap.size <= gg) /\ gg < w'.heap.size /\ Oth3 c g h w w' := by
 have tP := xj3 (nz P) qg; have tQ := xj3 (nz Q) qh; have LP := (xz7 rg).take tP; have LQ := (xz7 rh).take tQ; have pP : 0 < tlen (nz P) qg -> P (tlen (nz P) qg - 1) ≠ 0 := top_row; have pQ : 0 < tlen (nz Q) qh -> Q (tlen (nz Q) qh - 1) ≠ 0 := top_row; have eP := xz8 P qg; have eQ := xz8 Q qh; have oP : w.ownsRow g 159 1 (.slice (some ⟨g, 0, none⟩) (tlen (nz P) qg) qg) (tlen (nz P) qg) (ll P (tlen (nz P) qg)) := row_own rg tP (by unfold maxLen; omega) (Nat.le_refl _); have fg := rg.frozen; have fh := rh.frozen; have gl := rg.lt; have hl := rh.lt; clear rg rh; generalize tlen (nz P) qg = n at *; generalize tlen (nz Q) qh = m at *; have hcl := B.lt
 by_cases hff : f = f'
 . have hN : xj5 f f' (lv P qg) (lv Q qh) = f := by simp [xj5, hff]
   have hT : xq4 f f' (lv P qg) (lv Q qh) = lv P n + lv Q m := by simp [xq4, hff, eP, eQ]
   rw [hN, hT]; clear hN hT eP eQ; subst hff; have k0 := B.c0; go_enter Tryz.func233, Tryz.ntmps233; go_wp2_with fail; refine (add_any c 1 g n (.slice (some ⟨g, 0, none⟩) n qg) (some ⟨h, 0, none⟩) h 0 m qh P Q w (by omega) (by omega) B.c1 (B.f 1) oP hcg (by omega) (fun _ e => hgh (by simpa [Value.ownBlock] using e.symm)) (fun _ => Ne.symm hch) LQ (fun j _ => hP j) (fun j _ => hQ j)).mono ?_; rintro e w1 ⟨rfl, v, k, V, c1, o1, b1, A1, lV, eV, kk, tk⟩; go_wp2; refine bodyPost_ret (results_none rfl _ _ _) rfl ?_; have top := top_of_sum lV eV tk pP pQ; have Bx : Box4 w1 c (.bool f) v v2 v3 := ⟨by rw [A1.cell 0 (by omega)]; exact B.c0, c1, by rw [A1.cell 2 (by omega)]; exact B.c2, by rw [A1.cell 3 (by omega)]; exact B.c3, fun x => by rw [A1.frozen]; exact B.f x⟩; have hs := A1.size; have hk : k <= 16777216 := by omega
   have O : Oth3 c g h w w1 := Oth3.ofAt1 A1; have hc := @World.ownsRow.cells _ _ _ _ _ _ _ o1
   rcases o1.2 with ⟨rfl, rfl⟩ | ⟨g', cap, cur, rfl, hb, hg, hm, _⟩
   . exact ⟨rfl, _, g, Bx, by rw [<- eV]; exact natAt_nil _ _ _, Or.inl rfl, by omega, O⟩
   . have hlt := (Array.getElem?_eq_some_iff.1 hg).1
     refine ⟨rfl, _, g', Bx, ⟨_, k, cap, V, rfl, hm, hk, fun h => (by cases h), fun j hj => ⟨rfl, ?_⟩, fun _ o => by simp [World.frozen?, hg], lV, top, eV⟩, ?_, hlt, O⟩
     . have := hc (g := g') rfl j _ (ll_get V k j hj)
       rw [Addr.add_lit] at this; exact this
     . rcases b1 g' rfl with e | e
       . simp [Value.ownBlock] at e; exact Or.inl e.symm
       . exact Or.inr (Or.inr e)
 . have k0 := B.c0
   have HFF := hide hff; have hfb : (f == f') = false := by simp [hff]
   by_cases hlt : lv P n < lv Q m
   . have hN : xj5 f f' (lv P qg) (lv Q qh) = f' := by rw [<- eP, <- eQ]; simp [xj5, hff, hlt]
     have hT : xq4 f f' (lv P qg) (lv Q qh) = lv Q m - lv P n := by rw [<- eP, <- eQ]; simp [xq4, hff, hlt]
     rw [hN, hT]; clear hN hT eP eQ hff; have hcp := cmpN_neg2 hlt; have HL := hide hlt; clear hlt; go_enter Tryz.func233, Tryz.ntmps233; go_wp2_with fail; refine (yq1 c 1 (some ⟨g, 0, none⟩) (some ⟨h, 0, none⟩) g 0 n qg h 0 m qh P Q w (by omega) (by omega) B.c1 LP LQ (fun j _ => hP j) (fun j _ => hQ j) pP pQ).mono ?_; rintro e w1 ⟨rfl, s1⟩; have B1 : Box4 w1 c (.bool f) (.slice (some ⟨g, 0, none⟩) n qg) v2 v3 := ⟨by rw [s1.cell]; exact B.c0, by rw [s1.cell]; exact B.c1, by rw [s1.cell]; exact B.c2, by rw [s1.cell]; exact B.c3, fun x => by rw [s1.frozen]; exact B.f x⟩; have j1 := B1.c1; have j0 := B1.c0; have jf0 := B1.f 0; have jf1 := B1.f 1; go_wp2_with fail; have M1 : xq0 w1 ((w1.setCell ⟨c, 1, none⟩ (.slice (some ⟨h, 0, none⟩) m qh)).setCell ⟨c, 0, none⟩ (.bool f')) c := ((xq0.refl w1 c).setCell 1 _).setCell 0 _; have B2 := (B1.set1 (.slice (some ⟨h, 0, none⟩) m qh)).set0 (.bool f'); have O1 : Oth3 c g h w w1 := ⟨s1.os, s1.tape, s1.output, by rw [s1.size]; exact Nat.le_refl _, fun k _ _ _ _ => by rw [s1.heap]⟩; have O2 := O1.trans (Oth3.ofMarked (c := c) (g := g) (h := h) M1 (Or.inl rfl)); refine (subAt1 c _ _ _ h m qh (some ⟨g, 0, none⟩) g 0 n qg Q P _ (by omega) tQ B2 (fun x => by rw [M1.frozenO (a := ⟨h, x, none⟩) (Ne.symm hch), s1.frozen]; exact fh x) hch (Ne.symm hgh) ((LQ.same s1).marked M1 (fun _ => Ne.symm hch)) ((LP.same s1).marked M1 (fun _ => by omega)) (fun j _ => hQ j) (fun j _ => hP j) pP (Nat.le_of_lt HL.out) g h (Or.inr rfl)).mono ?_; rintro e w2 ⟨rfl, v, B3, N3, O3⟩; have O := O2.trans O3; go_wp2
     go_end0
     exact ⟨rfl, v, h, B3, N3.more (by omega), Or.inr (Or.inl rfl), Nat.lt_of_lt_of_le hl O.size, O⟩
   . have hN : xj5 f f' (lv P qg) (lv Q qh) = f := by rw [<- eP, <- eQ]; simp [xj5, hff, hlt]
     have hT : xq4 f f' (lv P qg) (lv Q qh) = lv P n - lv Q m := by rw [<- eP, <- eQ]; simp [xq4, hff, hlt]
     rw [hN, hT]; clear hN hT eP eQ hff; have hcp := cmpN_nonneg2 (Nat.le_of_not_lt hlt); have HL := hide (Nat.le_of_not_lt hlt); clear hlt; go_enter Tryz.func233, Tryz.ntmps233; go_wp2_with fail; refine (yq1 c 1 (some ⟨g, 0, none⟩) (some ⟨h, 0, none⟩) g 0 n qg h 0 m qh P Q w (by omega) (by omega) B.c1 LP LQ (fun j _ => hP j) (fun j _ => hQ j) pP pQ).mono ?_; rintro e w1 ⟨rfl, s1⟩; have B1 : Box4 w1 c (.bool f) (.slice (some ⟨g, 0, none⟩) n qg) v2 v3 := ⟨by rw [s1.cell]; exact B.c0, by rw [s1.cell]; exact B.c1, by rw [s1.cell]; exact B.c2, by rw [s1.cell]; exact B.c3, fun x => by rw [s1.frozen]; exact B.f x⟩; go_wp2_with fail; refine (subAt1 c _ _ _ g n qg (some ⟨h, 0, none⟩) h 0 m qh P Q w1 (by omega) tP B1 (fun x => by rw [s1.frozen]; exact fg x) (by omega) hgh (LP.same s1) (LQ.same s1) (fun j _ => hP j) (fun j _ => hQ j) pQ HL.out g h (Or.inl rfl)).mono ?_; rintro e w2 ⟨rfl, v, B2, N2, O2⟩; have O1 : Oth3 c g h w w1 := ⟨s1.os, s1.tape, s1.output, by rw [s1.size]; exact Nat.le_refl _, fun k _ _ _ _ => by rw [s1.heap]⟩; have O := O1.trans O2; go_wp2
     go_end0
     exact ⟨rfl, v, g, B2, N2.more (by omega), Or.inl rfl, Nat.lt_of_lt_of_le gl O.size, O⟩
structure RatD where
 neg : Bool
 n : Nat
 X : Nat -> Nat
 m : Nat
 Y : Nat -> Nat
def RatD.nul : RatD := ⟨false, 0, fun _ => 0, 0, fun _ => 0⟩
def RatD.ok (r : RatD) : Bool := xq9 r.neg r.X r.n r.Y r.m
structure RatL (w : World) (lo : Nat) (r : RatD) (a b : Option Addr) (ca cb : Nat) : Prop where
 nc : r.n <= ca
 mc : r.m <= cb
 ac : a = none -> ca = 0
 bc : b = none -> cb = 0
 LX : ∃ ba oa, (0 < r.n -> lo <= ba) /\ xq1 w a ba oa r.n r.X
 LY : ∃ bb ob, (0 < r.m -> lo <= bb) /\ xq1 w b bb ob r.m r.Y
 lX : ∀ j, j < r.n -> r.X j < 4294967296
 lY : ∀ j, j < r.m -> r.Y j < 4294967296
 n63 : r.n <= 9223372036854775807
 m63 : r.m <= 9223372036854775807
section
variable {w w' : World} {lo lo' b off n c : Nat} {r : RatD} {a a1 a2 : Option Addr} {k1 k2 : Nat} {R : Nat -> RatD}
theorem RatL.keep (h : RatL w lo r a1 a2 k1 k2) (s : w.Since w.heap.size w') : RatL w' lo r a1 a2 k1 k2 := by
 obtain ⟨ba, oa, l1, LX⟩ := h.LX; obtain ⟨bb, ob, l2, LY⟩ := h.LY; exact ⟨h.nc, h.mc, h.ac, h.bc, ⟨ba, oa, l1, LX.keep s⟩, ⟨bb, ob, l2, LY.keep s⟩, h.lX, h.lY, h.n63, h.m63⟩
structure RatM (w : World) (lo b off : Nat) (r : RatD) (a1 a2 : Option Addr) (k1 k2 : Nat) : Prop where
 c0 : w.cell? ⟨b, off, none⟩ = some (.bool r.neg)
 c1 : w.cell? ⟨b, off + 1, none⟩ = some (.slice a1 r.n k1)
 c2 : w.cell? ⟨b, off + 2, none⟩ = some (.slice a2 r.m k2)
 L : RatL w lo r a1 a2 k1 k2
theorem RatM.lt (h : RatM w lo b off r a1 a2 k1 k2) : b < w.heap.size := World.block_lt_of_cell? _ _ h.c0
theorem RatM.keep (h : RatM w lo b off r a1 a2 k1 k2) (s : w.Since w.heap.size w') : RatM w' lo b off r a1 a2 k1 k2 :=
 ⟨(s.cell (a := ⟨b, off, none⟩) h.lt).trans h.c0, (s.cell (a := ⟨b, off + 1, none⟩) h.lt).trans h.c1, (s.cell (a := ⟨b, off + 2, none⟩) h.lt).trans h.c2, h.L.keep s⟩
def Rats (w : World) (lo : Nat) (a : Option Addr) (b off n : Nat) (R : Nat -> RatD) : Prop :=
 ∀ i, i < n -> a = some ⟨b, off, none⟩ /\ ∃ a1 a2 k1 k2, RatM w lo b (off + i * 3) (R i) a1 a2 k1 k2
theorem Rats.keep (h : Rats w lo a b off n R) (s : w.Since w.heap.size w') : Rats w' lo a b off n R := fun i hi => by
 obtain ⟨h1, a1, a2, k1, k2, h2⟩ := h i hi; exact ⟨h1, a1, a2, k1, k2, h2.keep s⟩
end
def szR (R : Nat -> RatD) : Nat -> Nat
 | 0 => 0
 | n + 1 => szR R n + ((R n).n + (R n).m)
theorem szR_succ (R : Nat -> RatD) (n : Nat) : szR R (n + 1) = szR R n + ((R n).n + (R n).m) := rfl
theorem szR_mono {R : Nat -> RatD} {k n : Nat} (h : k <= n) : szR R k <= szR R n := by
 induction n with
 | zero => simp at h; subst h; exact Nat.le_refl _
 | succ n ih =>
   rcases Nat.lt_or_ge n k with h1 | h1
   . have : k = n + 1 := by omega
     subst this; exact Nat.le_refl _
   . have := ih h1
     rw [szR_succ]; omega
theorem szR_at {R : Nat -> RatD} {k n : Nat} (h : k < n) : (R k).n + (R k).m <= szR R n := by
 have := szR_mono (R := R) (show k + 1 <= n from h); rw [szR_succ] at this; omega
def RatsOk (R : Nat -> RatD) (n : Nat) : Prop := ∀ i, i < n -> (R i).ok = true
structure AffD where
 rows : Int
 cols : Int
 nw : Nat
 W : Nat -> RatD
 nb : Nat
 B : Nat -> RatD
def AffD.nul : AffD := ⟨0, 0, 0, fun _ => RatD.nul, 0, fun _ => RatD.nul⟩
def AffD.size (d : AffD) : Nat := d.nw + szR d.W d.nw + (d.nb + szR d.B d.nb)
structure AffL (w : World) (lo : Nat) (d : AffD) (a b : Option Addr) (ca cb : Nat) : Prop where
 nc : d.nw <= ca
 mc : d.nb <= cb
 LW : ∃ ba oa, (0 < d.nw -> lo <= ba) /\ Rats w lo a ba oa d.nw d.W
 LB : ∃ bb ob, (0 < d.nb -> lo <= bb) /\ Rats w lo b bb ob d.nb d.B
 r0 : -9223372036854775808 <= d.rows
 r1 : d.rows <= 9223372036854775807
 q0 : -9223372036854775808 <= d.cols
 q1 : d.cols <= 9223372036854775807
 n63 : d.nw <= 9223372036854775807
 m63 : d.nb <= 9223372036854775807
section
variable {w w' : World} {lo lo' b off n c : Nat} {d : AffD} {a a1 a2 : Option Addr} {k1 k2 : Nat} {A : Nat -> AffD}
theorem AffL.keep (h : AffL w lo d a1 a2 k1 k2) (s : w.Since w.heap.size w') : AffL w' lo d a1 a2 k1 k2 := by
 obtain ⟨ba, oa, l1, LW⟩ := h.LW; obtain ⟨bb, ob, l2, LB⟩ := h.LB; exact ⟨h.nc, h.mc, ⟨ba, oa, l1, LW.keep s⟩, ⟨bb, ob, l2, LB.keep s⟩, h.r0, h.r1, h.q0, h.q1, h.n63, h.m63⟩
structure AffM (w : World) (lo b off : Nat) (d : AffD) (a1 a2 : Option Addr) (k1 k2 : Nat) : Prop where
 c0 : w.cell? ⟨b, off, none⟩ = some (.int .i64 d.rows)
 c1 : w.cell? ⟨b, off + 1, none⟩ = some (.int .i64 d.cols)
 c2 : w.cell? ⟨b, off + 2, none⟩ = some (.slice a1 d.nw k1)
 c3 : w.cell? ⟨b, off + 3, none⟩ = some (.slice a2 d.nb k2)
 L : AffL w lo d a1 a2 k1 k2
theorem AffM.lt (h : AffM w lo b off d a1 a2 k1 k2) : b < w.heap.size := World.block_lt_of_cell? _ _ h.c0
theorem AffM.keep (h : AffM w lo b off d a1 a2 k1 k2) (s : w.Since w.heap.size w') : AffM w' lo b off d a1 a2 k1 k2 :=
 ⟨(s.cell (a := ⟨b, off, none⟩) h.lt).trans h.c0, (s.cell (a := ⟨b, off + 1, none⟩) h.lt).trans h.c1, (s.cell (a := ⟨b, off + 2, none⟩) h.lt).trans h.c2, (s.cell (a := ⟨b, off + 3, none⟩) h.lt).trans h.c3, h.L.keep s⟩
def Affs (w : World) (lo : Nat) (a : Option Addr) (b off n : Nat) (A : Nat -> AffD) : Prop :=
 ∀ i, i < n -> a = some ⟨b, off, none⟩ /\ ∃ a1 a2 k1 k2, AffM w lo b (off + i * 4) (A i) a1 a2 k1 k2
theorem Affs.keep (h : Affs w lo a b off n A) (s : w.Since w.heap.size w') : Affs w' lo a b off n A := fun i hi => by
 obtain ⟨h1, a1, a2, k1, k2, h2⟩ := h i hi; exact ⟨h1, a1, a2, k1, k2, h2.keep s⟩
end
def szA (A : Nat -> AffD) : Nat -> Nat
 | 0 => 0
 | n + 1 => szA A n + (A n).size
theorem szA_succ (A : Nat -> AffD) (n : Nat) : szA A (n + 1) = szA A n + (A n).size := rfl
theorem szA_mono {A : Nat -> AffD} {k n : Nat} (h : k <= n) : szA A k <= szA A n := by
 induction n with
 | zero => simp at h; subst h; exact Nat.le_refl _
 | succ n ih =>
   rcases Nat.lt_or_ge n k with h1 | h1
   . have : k = n + 1 := by omega
     subst this; exact Nat.le_refl _
   . have := ih h1
     rw [szA_succ]; omega
theorem szA_at {A : Nat -> AffD} {k n : Nat} (h : k < n) : (A k).size <= szA A n := by
 have := szA_mono (A := A) (show k + 1 <= n from h); rw [szA_succ] at this; omega
theorem yv7 (a : Option Addr) (lo b off n cap : Nat) (R : Nat -> RatD) (w : World) (hn : n <= 16777216) (hs : szR R n <= 16777216) (H : Rats w lo a b off n R) :
 Calls Tryz.prog 78 #[.slice a n cap] w fun e w' => ∃ r : Bool, e = .returned (.bool r) /\ (r = true ↔ RatsOk R n) /\ w.Since w.heap.size w' := by
 go_enter Tryz.func78, Tryz.ntmps78; go_wp2
 go_loopw [3] (fun i wr => ∃ k : Nat, k <= n /\ i = .int .i64 k /\ w.Since w.heap.size wr /\ RatsOk R k) (fun i _ => n - (intOf i).toNat)
 case atStart => exact ⟨0, Nat.zero_le _, rfl, World.Since.refl _ _, fun i hi => absurd hi (by omega)⟩
 case round =>
  obtain ⟨k, hk, rfl, s, O⟩ := hrel
  by_cases hlt : k < n
  . obtain ⟨rfl, a1, a2, k1, k2, M⟩ := H k hlt
    have M' := M.keep s; have g0 := M'.c0; have g1 := M'.c1; have g2 := M'.c2; have hz : (k : Int) < (n : Int) := by omega
    have hsz := szR_at (R := R) hlt; obtain ⟨ba, oa, -, LX⟩ := M'.L.LX; obtain ⟨bb, ob, -, LY⟩ := M'.L.LY; have J1 := specRatOk_any (R k).neg a1 a2 ba oa (R k).n k1 bb ob (R k).m k2 (R k).X (R k).Y wr (by omega) (by omega) LX LY M.L.lX M.L.lY; rw [show xq9 (R k).neg (R k).X (R k).n (R k).Y (R k).m = (R k).ok from rfl] at J1; cases hok : (R k).ok
    . have HK := hide hok
      rw [hok] at J1; clear hok; go_wp2_with fail; refine J1.mono ?_; rintro e w2 ⟨rfl, s2⟩; go_wp2; go_ret; refine ⟨false, rfl, ⟨(fun h => by cases h), fun h => ?_⟩, s.trans (sM s2 s.size)⟩; have := h k hlt; rw [HK.out] at this; cases this
    . have HK := hide hok
      rw [hok] at J1; clear hok; go_wp2_with fail; refine J1.mono ?_; rintro e w2 ⟨rfl, s2⟩; go_wp2; go_roundw
      case rel =>
       refine ⟨k + 1, by omega, by go_num, s.trans (sM s2 s.size), fun i hi => ?_⟩
       by_cases e : i = k
       . subst e; exact HK.out
       . exact O i (by omega)
      case measure => simp [intOf]; omega
  . have e : k = n := by omega
    subst e; go_wp2; go_ret; exact ⟨true, rfl, ⟨fun _ => O, fun _ => rfl⟩, s⟩
theorem yz6 (x a b : Int) (w : World) (h1 : a <= x) (h2 : x <= b) :
 Calls Tryz.prog 55 #[.int .i64 x, .int .i64 a, .int .i64 b] w fun e w' => e = .returned (.bool true) /\ w' = w := by
 go_enter Tryz.func55, Tryz.ntmps55; go_wp2; go_ret; exact ⟨rfl, rfl⟩
theorem l2In_no (x a b : Int) (w : World) (h : ¬ (a <= x /\ x <= b)) :
 Calls Tryz.prog 55 #[.int .i64 x, .int .i64 a, .int .i64 b] w fun e w' => e = .returned (.bool false) /\ w' = w := by
 by_cases h1 : a <= x
 . have h2 : ¬ x <= b := fun h2 => h ⟨h1, h2⟩
   clear h; go_enter Tryz.func55, Tryz.ntmps55; go_wp2; go_ret; exact ⟨rfl, rfl⟩
 . clear h
   go_enter Tryz.func55, Tryz.ntmps55; go_wp2; go_ret; exact ⟨rfl, rfl⟩
def AffD.sides (d : AffD) : Prop := 0 <= d.rows /\ d.rows <= 20000 /\ 0 <= d.cols /\ d.cols <= 20000
def AffD.shape (d : AffD) : Prop := d.sides /\ (d.nw : Int) = d.rows * d.cols /\ (d.nb : Int) = d.rows
def AffD.cells (d : AffD) : Int := d.rows * (d.cols + 1)
def AffD.vals (d : AffD) : Prop := RatsOk d.W d.nw /\ RatsOk d.B d.nb
theorem AffD.sides.bounds {d : AffD} (h : d.sides) : 0 <= d.cells /\ d.cells <= 400020000 /\ 0 <= d.rows * d.cols /\ d.rows * d.cols <= 400000000 := by
 obtain ⟨h0, h1, h2, h3⟩ := h; have a1 : d.rows * d.cols <= 20000 * 20000 := Int.mul_le_mul h1 h3 h2 (by omega); have a2 : 0 <= d.rows * d.cols := Int.mul_nonneg h0 h2; have e : d.cells = d.rows * d.cols + d.rows := by unfold AffD.cells; rw [Int.mul_add, Int.mul_one]
 omega
theorem l3Cells_any (d : AffD) (v2 v3 : Value) (w : World) (h : d.sides) :
 Calls Tryz.prog 57 #[.agg #[.int .i64 d.rows, .int .i64 d.cols, v2, v3]] w fun e w' => e = .returned (.int .i64 d.cells) /\ w.Since w.heap.size w' := by
 have sA := sal w (.cells #[.int .i64 d.rows, .int .i64 d.cols, v2, v3] 74); have hb := h.bounds; unfold AffD.cells at hb ⊢; obtain ⟨h0, h1, h2, h3⟩ := h; go_enter Tryz.func57, Tryz.ntmps57; go_wp2; go_ret; exact ⟨rfl, sA⟩
theorem l3MapOk_any (d : AffD) (a1 a2 : Option Addr) (lo k1 k2 : Nat) (w : World) (hd : d.size <= 16777216) (H : AffL w lo d a1 a2 k1 k2) :
 Calls Tryz.prog 56 #[.agg #[.int .i64 d.rows, .int .i64 d.cols, .slice a1 d.nw k1, .slice a2 d.nb k2]] w fun e w' => ∃ r : Bool, e = .returned (.bool r) /\ (r = true ↔ d.shape /\ d.cells <= 20000 /\ d.vals) /\ w.Since w.heap.size w' := by
 have ts := hd; unfold AffD.size at ts; have sA := sal w (.cells #[.int .i64 d.rows, .int .i64 d.cols, .slice a1 d.nw k1, .slice a2 d.nb k2] 74); have bA := Box4.new w (.int .i64 d.rows) (.int .i64 d.cols) (.slice a1 d.nw k1) (.slice a2 d.nb k2) 74
 by_cases hr : 0 <= d.rows /\ d.rows <= 20000
 rotate_left
 . have HN := hide (show ¬ d.shape from fun h => hr ⟨h.1.1, h.1.2.1⟩)
   go_enter Tryz.func56, Tryz.ntmps56; go_wp2_with fail; refine (l2In_no d.rows 0 20000 _ hr).mono ?_; rintro e w1 ⟨rfl, rfl⟩; clear hr; go_wp2; go_ret; exact ⟨false, rfl, ⟨(fun h => by cases h), fun h => absurd h.1 HN.out⟩, sA⟩
 by_cases hc : 0 <= d.cols /\ d.cols <= 20000
 rotate_left
 . have HN := hide (show ¬ d.shape from fun h => hc ⟨h.1.2.2.1, h.1.2.2.2⟩)
   go_enter Tryz.func56, Tryz.ntmps56; go_wp2_with fail; refine (yz6 d.rows 0 20000 _ hr.1 hr.2).mono ?_; rintro e w1 ⟨rfl, rfl⟩; go_wp2_with fail; refine (l2In_no d.cols 0 20000 _ hc).mono ?_; rintro e w1 ⟨rfl, rfl⟩; clear hr hc; go_wp2; go_ret; exact ⟨false, rfl, ⟨(fun h => by cases h), fun h => absurd h.1 HN.out⟩, sA⟩
 have hS : d.sides := ⟨hr.1, hr.2, hc.1, hc.2⟩; have hb := hS.bounds; obtain ⟨hr0, hr1⟩ := hr; obtain ⟨hc0, hc1⟩ := hc; obtain ⟨hb0, hb1, hb2, hb3⟩ := hb
 by_cases hw : (d.nw : Int) = d.rows * d.cols
 rotate_left
 . have HN := hide (show ¬ d.shape from fun h => hw h.2.1)
   go_enter Tryz.func56, Tryz.ntmps56; go_wp2_with fail; refine (yz6 d.rows 0 20000 _ hr0 hr1).mono ?_; rintro e w1 ⟨rfl, rfl⟩; go_wp2_with fail; refine (yz6 d.cols 0 20000 _ hc0 hc1).mono ?_; rintro e w1 ⟨rfl, rfl⟩; go_wp2; go_ret; exact ⟨false, rfl, ⟨(fun h => by cases h), fun h => absurd h.1 HN.out⟩, sA⟩
 by_cases hv : (d.nb : Int) = d.rows
 rotate_left
 . have HN := hide (show ¬ d.shape from fun h => hv h.2.2)
   go_enter Tryz.func56, Tryz.ntmps56; go_wp2_with fail; refine (yz6 d.rows 0 20000 _ hr0 hr1).mono ?_; rintro e w1 ⟨rfl, rfl⟩; go_wp2_with fail; refine (yz6 d.cols 0 20000 _ hc0 hc1).mono ?_; rintro e w1 ⟨rfl, rfl⟩; go_wp2; go_ret; exact ⟨false, rfl, ⟨(fun h => by cases h), fun h => absurd h.1 HN.out⟩, sA⟩
 have HS := hide (show d.shape from ⟨hS, hw, hv⟩); have q1 : ((d.nw : Int) != d.rows * d.cols) = false := by simpa using hw
 have q2 : ((d.nb : Int) != d.rows) = false := by simpa using hv
 clear hw hv; go_enter Tryz.func56, Tryz.ntmps56; go_wp2_with fail; refine (yz6 d.rows 0 20000 _ hr0 hr1).mono ?_; rintro e w1 ⟨rfl, rfl⟩; go_wp2_with fail; refine (yz6 d.cols 0 20000 _ hc0 hc1).mono ?_; rintro e w1 ⟨rfl, rfl⟩; go_wp2_with fail; refine (l3Cells_any d _ _ _ hS).mono ?_; rintro e w1 ⟨rfl, s1⟩; have B1 := bA.keep s1; have b2 := B1.c2; have b3 := B1.c3; have S1 := sA.trans (sM s1 sA.size); obtain ⟨ba, oa, -, LW⟩ := (H.keep S1).LW; obtain ⟨bb, ob, -, LB⟩ := (H.keep S1).LB
 by_cases hcl : d.cells <= 20000
 rotate_left
 . have hg : 20000 < d.cells := by omega
   have HN := hide hcl; clear hcl bA; go_wp2; go_ret; exact ⟨false, rfl, ⟨(fun h => by cases h), fun h => absurd h.2.1 (by have := HN.out; omega)⟩, S1⟩
 have hg : ¬ 20000 < d.cells := by omega
 have HC := hide hcl; clear hcl bA; go_wp2_with fail; refine (yv7 a1 lo ba oa d.nw k1 d.W w1 (by omega) (by omega) LW).mono ?_; rintro e w2 ⟨r1, rfl, i1, s2⟩; have I1 := hide i1; clear i1; cases r1
 . go_wp2
   go_ret; exact ⟨false, rfl, ⟨(fun h => by cases h), fun h => absurd (I1.out.2 h.2.2.1) (by simp)⟩, S1.trans (sM s2 S1.size)⟩
 . have b3' := (B1.keep s2).c3
   clear b2 b3; go_wp2_with fail; refine (yv7 a2 lo bb ob d.nb k2 d.B w2 (by omega) (by omega) (LB.keep s2)).mono ?_; rintro e w3 ⟨r2, rfl, i2, s3⟩; have I2 := hide i2; clear i2; go_wp2; go_ret; exact ⟨r2, rfl, ⟨fun h => ⟨HS.out, HC.out, I1.out.1 (by simp), I2.out.1 h⟩, fun h => I2.out.2 h.2.2.2⟩, (S1.trans (sM s2 S1.size)).trans (sM s3 (Nat.le_trans S1.size s2.size))⟩
def sumC (A : Nat -> AffD) : Nat -> Int
 | 0 => 0
 | k + 1 => sumC A k + (A k).cells
theorem sumC_succ (A : Nat -> AffD) (k : Nat) : sumC A (k + 1) = sumC A k + (A k).cells := rfl
structure NetP (n : Nat) (A : Nat -> AffD) : Prop where
 n0 : 1 <= n
 n1 : n <= 10000
 shape : ∀ k, k < n -> (A k).shape
 chain : ∀ k, k < n -> 0 < k -> (A k).cols = (A (k - 1)).rows
 sum : sumC A n <= 20000
 vals : ∀ k, k < n -> (A k).vals
theorem sumC_bound {A : Nat -> AffD} {k : Nat} (h : ∀ j, j < k -> (A j).shape) : 0 <= sumC A k /\ sumC A k <= 400020000 * k := by
 induction k with
 | zero => simp [sumC]
 | succ k ih =>
   obtain ⟨h1, h2⟩ := ih (fun j hj => h j (by omega)); obtain ⟨h3, h4, -, -⟩ := (h k (by omega)).1.bounds; rw [sumC_succ]; omega
theorem sumC_mono {A : Nat -> AffD} {k n : Nat} (h : ∀ j, j < n -> (A j).shape) (hk : k <= n) : sumC A k <= sumC A n := by
 induction n with
 | zero => simp at hk; subst hk; exact Int.le_refl _
 | succ n ih =>
   rcases Nat.lt_or_ge n k with h1 | h1
   . have : k = n + 1 := by omega
     subst this; exact Int.le_refl _
   . have := ih (fun j hj => h j (by omega)) h1
     have := (h n (by omega)).1.bounds; rw [sumC_succ]; omega
theorem NetP.cells {n : Nat} {A : Nat -> AffD} (h : NetP n A) {k : Nat} (hk : k < n) : (A k).cells <= 20000 := by
 have h1 := sumC_mono h.shape (show k + 1 <= n from hk); have h2 := (sumC_bound (A := A) (k := k) (fun j hj => h.shape j (by omega))).1; have h3 := h.sum; rw [sumC_succ] at h1; omega
theorem yv1 {P : Program} (t e : TypeId) (z : Value) (size bytes : Nat) (ht : P.underlying t = some (.slice e)) (hinfo : (P.info? e).map (fun i => (i.zero, i.size, i.bytes)) = some (some z, size, bytes))
 (kl kc : IntKind) (n : Nat) (hbytes : bytes * n <= 281474976710656) (h63 : n <= 9223372036854775807) (w : World) :
 (Instr.makeSlice t (.int kl (n : Int)) (.int kc (n : Int))).run P w = .ok (.slice (some ⟨w.heap.size, 0, none⟩) n n) (w.alloc (.cells (madeCells z.cells (n * size)) e)) := by
 obtain ⟨i, hi, hzz⟩ := Option.map_eq_some_iff.1 hinfo; simp only [Prod.mk.injEq] at hzz; obtain ⟨hz, hs, hb⟩ := hzz
 have hb' : (i.bytes : Int) * (n : Int) <= 281474976710656 := by
  have h : ((i.bytes * n : Nat) : Int) <= 281474976710656 := by rw [hb]; omega
  rwa [Int.natCast_mul] at h
 have hr := run_make (P := P) w t e i z ht hi hz kl kc n n (by omega) (Int.le_refl _) hb' (by omega); simp only [Int.toNat_natCast, hs] at hr; exact hr
structure Room (w : World) (c N : Nat) : Prop where
 lt : c < w.heap.size
 cell : ∀ o, o < N -> ∃ v, w.cell? ⟨c, o, none⟩ = some v
 f : ∀ o, w.frozen? ⟨c, o, none⟩ = false
theorem Room.new (w : World) (z : Array Value) (N : Nat) (t : TypeId) : Room (w.alloc (.cells (madeCells z N) t)) w.heap.size N :=
 ⟨by simp, fun o ho => ⟨_, by simp [go_sem, madeCells, ho]; rfl⟩, fun o => by simp [go_sem]⟩
theorem Room.keep {w w' : World} {c N : Nat} (h : Room w c N) (s : w.Since w.heap.size w') : Room w' c N :=
 ⟨Nat.lt_of_lt_of_le h.lt s.size, fun o ho => by obtain ⟨v, hv⟩ := h.cell o ho; exact ⟨v, (s.cell (a := ⟨c, o, none⟩) h.lt).trans hv⟩, fun o => (s.frozen (a := ⟨c, o, none⟩) h.lt).trans (h.f o)⟩
theorem Room.set {w : World} {c N : Nat} (h : Room w c N) (q : Nat) (v : Value) : Room (w.setCell ⟨c, q, none⟩ v) c N := by
 have M : xq0 w (w.setCell ⟨c, q, none⟩ v) c := (xq0.refl w c).setCell q v; refine ⟨by rw [M.size]; exact h.lt, fun o ho => ?_, fun o => by rw [M.frozen]; exact h.f o⟩; obtain ⟨u, hu⟩ := h.cell o ho
 by_cases e : o = q
 . subst e; exact ⟨v, World.cell?_setCell_same _ _ _ hu⟩
 . exact ⟨u, (World.cell?_setCell_other _ _ _ _ (fun h => e (congrArg Addr.off h).symm)).trans hu⟩
theorem cell_put {w : World} {c N : Nat} (h : Room w c N) {q : Nat} (hq : q < N) (v : Value) : (w.setCell ⟨c, q, none⟩ v).cell? ⟨c, q, none⟩ = some v := by
 obtain ⟨u, hu⟩ := h.cell q hq; exact World.cell?_setCell_same _ _ _ hu
theorem yx7 (w : World) (c : Nat) {q o : Nat} (h : o ≠ q) (v : Value) : (w.setCell ⟨c, q, none⟩ v).cell? ⟨c, o, none⟩ = w.cell? ⟨c, o, none⟩ :=
 World.cell?_setCell_other _ _ _ _ (fun e => h (congrArg Addr.off e).symm)
theorem put3 {w : World} {c N q : Nat} (h : Room w c N) (hq : q + 2 < N) (x y z : Value) :
 ∃ w', w' = ((w.setCell ⟨c, q, none⟩ x).setCell ⟨c, q + 1, none⟩ y).setCell ⟨c, q + 2, none⟩ z /\ xq0 w w' c /\ Room w' c N /\ w'.cell? ⟨c, q, none⟩ = some x /\ w'.cell? ⟨c, q + 1, none⟩ = some y /\ w'.cell? ⟨c, q + 2, none⟩ = some z /\
  ∀ o, o < q ∨ q + 2 < o -> w'.cell? ⟨c, o, none⟩ = w.cell? ⟨c, o, none⟩ := by
 refine ⟨_, rfl, (((xq0.refl w c).setCell _ _).setCell _ _).setCell _ _, ((h.set _ _).set _ _).set _ _, ?_, ?_, ?_, fun o ho => ?_⟩
 . rw [yx7 _ _ (by omega), yx7 _ _ (by omega)]; exact cell_put h (by omega) x
 . rw [yx7 _ _ (by omega)]; exact cell_put (h.set _ _) (by omega) y
 . exact cell_put ((h.set _ _).set _ _) (by omega) z
 . rw [yx7 _ _ (by omega), yx7 _ _ (by omega), yx7 _ _ (by omega)]
theorem info_Rat : (Tryz.prog.info? 61).map (fun i => (i.zero, i.size, i.bytes)) = some (some (.agg #[.bool false, .slice none 0 0, .slice none 0 0]), 3, 56) := by kernel_rfl
def LimbsOf (N : Nat) (p : Nat × (Nat -> Nat)) : Prop := (∀ j, j < p.1 -> p.2 j < 4294967296) /\ (0 < p.1 -> p.2 (p.1 - 1) ≠ 0) /\ lv p.2 p.1 = N
def canN : Nat → Nat → Nat
  | 0, _ => 0
  | f + 1, N => if N = 0 then 0 else canN f (N / 4294967296) + 1
/-- The limbs of N. -/
def canR (N : Nat) : Nat × (Nat → Nat) := (canN N N, fun j => N / 2 ^ (32 * j) % 4294967296)
theorem canN_ok : ∀ f N, N ≤ f → N < 2 ^ (32 * canN f N) ∧ (0 < canN f N → 2 ^ (32 * (canN f N - 1)) ≤ N)
  | 0, N, h => by
    obtain rfl : N = 0 := by omega
    exact ⟨by simp [canN], fun h => by simp [canN] at h⟩
  | f + 1, N, h => by
    unfold canN
    split
    · rename_i e; subst e; exact ⟨by simp, fun h => absurd h (by omega)⟩
    · rename_i e
      obtain ⟨h1, h2⟩ := canN_ok f (N / 4294967296) (by omega)
      generalize canN f (N / 4294967296) = c at *
      have p1 : ∀ c, 2 ^ (32 * (c + 1)) = 2 ^ (32 * c) * 4294967296 := fun c => by rw [Nat.mul_add, Nat.pow_add]
      refine ⟨by rw [p1]; exact (Nat.div_lt_iff_lt_mul (by omega)).1 h1, fun _ => ?_⟩
      rw [Nat.add_sub_cancel]
      rcases Nat.eq_zero_or_pos c with rfl | hc
      · simp; omega
      · obtain ⟨b, rfl⟩ : ∃ b, c = b + 1 := ⟨c - 1, by omega⟩
        have := h2 hc
        rw [Nat.add_sub_cancel] at this
        rw [p1]; exact (Nat.le_div_iff_mul_le (by omega)).1 this
theorem lv_can (N : Nat) : ∀ n, lv (fun j => N / 2 ^ (32 * j) % 4294967296) n = N % 2 ^ (32 * n)
  | 0 => by simp [lv, Nat.mod_one]
  | n + 1 => by
    have p1 : 2 ^ (32 * (n + 1)) = 2 ^ (32 * n) * 4294967296 := by rw [Nat.mul_add, Nat.pow_add]
    rw [lv, lv_can N n, p1, Nat.mod_mul, Nat.mul_comm (2 ^ (32 * n))]
theorem canR_ok (N : Nat) : LimbsOf N (canR N) := by
  obtain ⟨h1, h2⟩ := canN_ok N N (Nat.le_refl _)
  refine ⟨fun j _ => Nat.mod_lt _ (by omega), fun h => ?_, (lv_can N _).trans (Nat.mod_eq_of_lt h1)⟩
  have h3 := h2 h
  show N / 2 ^ (32 * (canN N N - 1)) % 4294967296 ≠ 0
  have h : 0 < canN N N := h
  generalize canN N N = c at *
  obtain ⟨b, rfl⟩ : ∃ b, c = b + 1 := ⟨c - 1, by omega⟩
  rw [Nat.add_sub_cancel] at *
  rw [show 2 ^ (32 * (b + 1)) = 2 ^ (32 * b) * 4294967296 by rw [Nat.mul_add, Nat.pow_add]] at h1
  have h4 : N / 2 ^ (32 * b) < 4294967296 := (Nat.div_lt_iff_lt_mul (Nat.pow_pos (by omega))).2 (by rw [Nat.mul_comm]; exact h1)
  have h5 := Nat.div_pos h3 (Nat.pow_pos (by omega))
  rw [Nat.mod_eq_of_lt h4]; omega
theorem canR_of {N : Nat} {p : Nat × (Nat -> Nat)} (h : LimbsOf N p) : (canR N).1 = p.1 /\ (∀ j, j < p.1 -> (canR N).2 j = p.2 j) /\ LimbsOf N (canR N) := by
 have hc := canR_ok N
 obtain ⟨e1, e2⟩ := lv_inj hc.1 h.1 hc.2.1 h.2.1 (hc.2.2.trans h.2.2.symm); exact ⟨e1, fun j hj => e2 j (by omega), hc⟩
theorem xj0.can {w : World} {v : Value} {g N M : Nat} (h : xj0 w v g N M) : ∃ a cap, v = .slice a (canR N).1 cap /\ (canR N).1 <= cap /\ (canR N).1 <= M /\ (a = none -> cap = 0) /\ xq1 w a g 0 (canR N).1 (canR N).2 /\ (∀ j, j < (canR N).1 -> (canR N).2 j < 4294967296) := by
 obtain ⟨a, m, cap, Y, rfl, h1, h2, h3, h4, h5, h6, h7, h8⟩ := h; obtain ⟨e1, e2, hc⟩ := canR_of (N := N) (p := (m, Y)) ⟨h6, h7, h8⟩; have e1 : (canR N).1 = m := e1; have e2 : ∀ j, j < m -> (canR N).2 j = Y j := e2; refine ⟨a, cap, by rw [e1], by omega, by omega, h3, fun j hj => ?_, hc.1⟩; rw [e2 j (by omega)]; exact h4 j (by omega)
def ratC (neg : Bool) (N D : Nat) : RatD := ⟨neg, (canR N).1, (canR N).2, (canR D).1, (canR D).2⟩
def MulA (X V : Nat -> Nat) (F E i c : Nat) : Prop := lv V i + c * 2 ^ (32 * i) = lv X i * F + E /\ c < 4294967296 /\ (∀ k, i <= k -> V k = X k) /\ ∀ k, k < i -> V k < 4294967296
theorem mulA_step {X V : Nat -> Nat} {F E i c s c' x : Nat} (h : MulA X V F E i c) (hx : V i = x) (hs : s < 4294967296) (hc : c' < 4294967296) (e : s + c' * 4294967296 = x * F + c) : MulA X (upd V i s) F E (i + 1) c' := by
 obtain ⟨h1, h2, h3, h4⟩ := h; have hx0 : X i = x := by rw [<- hx]; exact (h3 i (Nat.le_refl _)).symm
 refine ⟨?_, hc, fun k hk => by rw [xq3 _ _ _ _ (by omega)]; exact h3 k (by omega), fun k hk => ?_⟩
 . simp only [lv, xq5, lv_upd V i s i (Nat.le_refl _), hx0]
   rw [pow32]; generalize 2 ^ (32 * i) = P at *
   have e2 : s * P + c' * (4294967296 * P) = x * P * F + c * P := by
    rw [<- Nat.mul_assoc, <- Nat.add_mul, e, Nat.add_mul, Nat.mul_assoc x F P, Nat.mul_comm F P, <- Nat.mul_assoc]
   rw [Nat.add_mul (lv X i)]; omega
 . by_cases e2 : k = i
   . subst e2; rw [xq5]; exact hs
   . rw [xq3 _ _ _ _ e2]; exact h4 k (by omega)
theorem multiplyAdd_any (c o base n : Nat) (v0 : Value) (E : Nat) (X : Nat -> Nat) (w : World) (hn : n <= 67108864) (hE : E < 4294967296) (hc0 : w.cell? ⟨c, o, none⟩ = some v0) (hf0 : w.frozen? ⟨c, o, none⟩ = false)
 (hown : w.ownsRow base 159 1 v0 n (ll X n)) (hne : v0.ownBlock ≠ some c) (hcl : c < w.heap.size) (hbase : base <= w.heap.size) (hXl : ∀ j, j < n -> X j < 4294967296) :
 Calls Tryz.prog 161 #[.pointer (some ⟨c, o, none⟩), .int .u32 1000000000, .int .u32 E] w fun e w' => e = .returned (.tuple #[]) /\ ∃ v k V, w'.cell? ⟨c, o, none⟩ = some v /\ w'.ownsRow base 159 1 v k (ll V k) /\ (v = .slice none 0 0 -> v0 = .slice none 0 0) /\ v.ownBlock ≠ some c /\
  At1 c o v0.ownBlock w w' /\ (∀ j, j < k -> V j < 4294967296) /\ lv V k = lv X n * 1000000000 + E /\ k <= n + 1 /\ (k = n ∨ V (k - 1) ≠ 0) := by
 obtain ⟨i0, hi, hz0, hz1, hz2⟩ := info_parts Tryz.info159; have HXl := hide hXl; clear hXl; obtain ⟨a, cap, rfl, hkc, hac, hag⟩ := xw2 hown; go_enter Tryz.func161, Tryz.ntmps161; have HV0 : Hid (MulA X X 1000000000 E 0 E) := hide ⟨by simp [lv], hE, fun _ _ => rfl, fun j hj => absurd hj (by omega)⟩; go_wp2
 go_loopw [6, 16] (fun q t wr => ∃ (i cb : Nat) (V : Nat -> Nat), i <= n /\ t = .int .i64 i /\ q = .int .u64 cb /\ cb < 4294967296 /\ wr.cell? ⟨c, o, none⟩ = some (.slice a n cap) /\ wr.ownsRow base 159 1 (.slice a n cap) n (ll V n) /\ At1 c o (Value.slice a n cap).ownBlock w wr /\ Hid (MulA X V 1000000000 E i cb)) (fun _ t _ => n - (intOf t).toNat)
 case atStart => exact ⟨0, E, X, Nat.zero_le _, rfl, rfl, hE, hc0, hown, At1.refl _ _ _ _, HV0⟩
 case round =>
  obtain ⟨i, cb, V, hik, rfl, rfl, hcb1, q2, ho2, hs2, HR⟩ := hrel; clear hown hc0 HV0
  by_cases hlt : i < n
  . obtain ⟨g, rfl⟩ := hag i hlt
    obtain ⟨g', cap', e, -, hbg, hgl, LV, FV⟩ := xj9 ho2 (by simp); cases e; have g1 : wr.cell? ⟨g, i, none⟩ = some (.int .u32 (V i)) := by simpa using (LV i hlt).2
    have g2 : wr.frozen? ⟨g, i, none⟩ = false := FV i
    have hxl : V i < 4294967296 := by
     rw [HR.out.2.2.1 i (Nat.le_refl _)]; exact HXl.out i hlt
    have STEP := hide (fun (s c' : Nat) => mulA_step (s := s) (c' := c') HR.out rfl); obtain ⟨x, ex⟩ : ∃ y, y = V i := ⟨_, rfl⟩; rw [<- ex] at g1 hxl STEP; clear ex LV FV; have hin : (i : Int) < (n : Int) := by omega
    have hcg : g ≠ c := fun e => hne (by rw [e]; rfl)
    have q3 : ∀ u, (wr.setCell ⟨g, i, none⟩ u).cell? ⟨c, o, none⟩ = some (.slice (some ⟨g, 0, none⟩) n cap) := fun u => by rw [((xq0.refl wr g).setCell i u).cell (a := ⟨c, o, none⟩) (Ne.symm hcg)]; exact q2
    go_wp2; go_roundw
    case rel => go_light; exact ⟨i + 1, (x * 1000000000 + cb) / 4294967296, _, by omega, by go_num, congrArg (Value.int .u64) (by omega), by omega, q3 _, own_setI ho2 i ((x * 1000000000 + cb) % 4294967296) hlt _ (by omega), hs2.setRow g i _ (Or.inl rfl) hcg, STEP.out _ _ (by omega) (by omega) (by omega)⟩
    case measure => simp [intOf]; omega
  . have e : i = n := by omega
    subst e; have HE := hide HR.out.1; have HV1 := hide HR.out.2.2.2
    rcases Nat.eq_zero_or_pos cb with hc2 | hc2
    . subst hc2
      go_wp2
      go_end0
      exact ⟨rfl, _, i, V, q2, ho2, fun h => h, hne, hs2, HV1.out, by have := HE.out; omega, by omega, Or.inl rfl⟩
    . have hC : some c ≠ (Value.slice a i cap).ownBlock := fun e => hne e.symm
      have hsz2 := hs2.size; have hcf : ((cb : Int) == 0) = false := by simp; omega
      go_wp2_with (at_builtin; refine wpList_append_own_at _ rfl _ _ 165 rfl base 159 i0 (.int .u32 0) 1 4 Tryz.underlying165 hi hz0 hz1 hz2 rfl (by decide) _ _ _ rfl (ho2.alloc _) ⟨wr.heap.size, 0, none⟩ 1 1 [.int .u32 cb] rfl rfl (xj2 _ _ _) (xj6 _ rfl) (by unfold maxLen; omega) (by omega) (by simp; omega) ?_)
      intro v' w1 hown' hgrow hnn hat; rw [show ll V i ++ [.int .u32 (cb : Int)] = ll (upd V i cb) (i + 1) from by rw [ll_succ, xq5, ll_congr (fun j hj => xq3 _ _ _ _ (show j ≠ i by omega))]] at hown'; have sW := sal wr (.cells #[.int .u32 (cb : Int)] 159); have hs1 : At1 c o (Value.slice a i cap).ownBlock w w1 := (hs2.alloc hcl _).grown hgrow hcl (Or.inl rfl) hC; have q1 : w1.cell? ⟨c, o, none⟩ = some (.slice a i cap) := hgrow.cell ((sW.cell (a := ⟨c, o, none⟩) (show c < wr.heap.size by omega)).trans q2) hC; have f1 : w1.frozen? ⟨c, o, none⟩ = false := by rw [hs1.frozen]; exact hf0
      have hCv : v'.ownBlock ≠ some c := fun e => by
       rcases hat with h | h
       . exact hne (h.symm.trans e)
       . rw [e] at h; simp at h; omega
      obtain ⟨a1, cap1, rfl, hkc1, hac1, hag1⟩ := xw2 hown'; clear hgrow hnn hat sW ho2 hs2 q2 hC HR; go_wp2
      go_end0
      refine ⟨rfl, _, i + 1, upd V i cb, World.cell?_setCell_same _ _ _ q1, ownsRow_setCell_other hown' hCv _, fun h => by simp at h, hCv, hs1.setC _, fun j hj => ?_, ?_, by omega, Or.inr (by rw [show i + 1 - 1 = i by omega, xq5]; omega)⟩
      . by_cases e2 : j = i
        . subst e2; rw [xq5]; omega
        . rw [xq3 _ _ _ _ e2]; exact HV1.out j (by omega)
      . have := HE.out
        simp only [lv, xq5, lv_upd V i cb i (Nat.le_refl _)]; exact this
theorem Tab.keepN {w w' : World} (_h : Tab w) (_hw : 0 <= w.heap.size) (_s : w.Since w.heap.size w') : Tab w' := trivial
theorem allValid_any (a : Option Addr) (lo b off n cap : Nat) (R : Nat -> RatD) (w : World) (hw : 0 <= w.heap.size) (hT : Tab w) (hn : n <= 16777216) (hs : szR R n <= 16777216) (H : Rats w lo a b off n R) :
 Calls Tryz.prog 66 #[.slice a n cap] w fun e w' => ∃ r : Bool, e = .returned (.bool r) /\ (r = true ↔ RatsOk R n) /\ w.Since w.heap.size w' := by
 go_enter Tryz.func66, Tryz.ntmps66; go_wp2
 go_loopw [7] (fun i wr => ∃ k : Nat, k <= n /\ i = .int .i64 k /\ w.Since w.heap.size wr /\ RatsOk R k) (fun i _ => n - (intOf i).toNat)
 case atStart => exact ⟨0, Nat.zero_le _, rfl, World.Since.refl _ _, fun i hi => absurd hi (by omega)⟩
 case round =>
  obtain ⟨k, hk, rfl, s, O⟩ := hrel
  by_cases hlt : k < n
  . obtain ⟨rfl, a1, a2, k1, k2, M⟩ := H k hlt
    have M' := M.keep s; have g0 := M'.c0; have g1 := M'.c1; have g2 := M'.c2; have hz : (k : Int) < (n : Int) := by omega
    have hsz := szR_at (R := R) hlt; have sA : w.Since w.heap.size (wr.alloc (.cells #[.bool (R k).neg, .slice a1 (R k).n k1, .slice a2 (R k).m k2] 61)) := s.alloc s.size _; obtain ⟨ba, oa, -, LX⟩ := (M.L.keep sA).LX; obtain ⟨bb, ob, -, LY⟩ := (M.L.keep sA).LY; have J1 := implRatOk_any (R k).neg a1 a2 ba oa (R k).n k1 bb ob (R k).m k2 (R k).X (R k).Y _ (Nat.zero_le _) (by omega) (by omega) M.L.nc M.L.mc M.L.ac M.L.bc LX LY M.L.lX M.L.lY (hT.keepN hw sA); rw [show xq9 (R k).neg (R k).X (R k).n (R k).Y (R k).m = (R k).ok from rfl] at J1; cases hok : (R k).ok
    . have HK := hide hok
      rw [hok] at J1; clear hok; go_wp2_with fail; refine J1.mono ?_; rintro e w2 ⟨rfl, s2⟩; go_wp2; go_ret; refine ⟨false, rfl, ⟨(fun h => by cases h), fun h => ?_⟩, sA.trans (sM s2 sA.size)⟩; have := h k hlt; rw [HK.out] at this; cases this
    . have HK := hide hok
      rw [hok] at J1; clear hok; go_wp2_with fail; refine J1.mono ?_; rintro e w2 ⟨rfl, s2⟩; go_wp2; go_roundw
      case rel =>
       refine ⟨k + 1, by omega, by go_num, sA.trans (sM s2 sA.size), fun i hi => ?_⟩
       by_cases e : i = k
       . subst e; exact HK.out
       . exact O i (by omega)
      case measure => simp [intOf]; omega
  . have e : k = n := by omega
    subst e; go_wp2; go_ret; exact ⟨true, rfl, ⟨fun _ => O, fun _ => rfl⟩, s⟩
theorem xv0 (x : Int) (w : World) (h1 : 0 <= x) (h2 : x <= 20000) :
 Calls Tryz.prog 139 #[.int .i64 x] w fun e w' => e = .returned (.bool true) /\ w' = w := by
 go_enter Tryz.func139, Tryz.ntmps139; go_wp2; go_ret; exact ⟨rfl, rfl⟩
theorem sideFits_no (x : Int) (w : World) (h : ¬ (0 <= x /\ x <= 20000)) :
 Calls Tryz.prog 139 #[.int .i64 x] w fun e w' => e = .returned (.bool false) /\ w' = w := by
 by_cases h1 : 0 <= x
 . have h2 : ¬ x <= 20000 := fun h2 => h ⟨h1, h2⟩
   clear h; go_enter Tryz.func139, Tryz.ntmps139; go_wp2; go_ret; exact ⟨rfl, rfl⟩
 . clear h
   go_enter Tryz.func139, Tryz.ntmps139; go_wp2; go_ret; exact ⟨rfl, rfl⟩
theorem cellsOf_any (d : AffD) (w : World) (h : d.sides) :
 Calls Tryz.prog 102 #[.int .i64 d.rows, .int .i64 d.cols] w fun e w' => e = .returned (.int .i64 d.cells) /\ w' = w := by
 have hb := h.bounds; unfold AffD.cells at hb ⊢; obtain ⟨h0, h1, h2, h3⟩ := h; go_enter Tryz.func102, Tryz.ntmps102; go_wp2; go_ret; exact ⟨rfl, rfl⟩
theorem shapeFits_any (d : AffD) (a1 a2 : Option Addr) (k1 k2 : Nat) (w : World) :
 Calls Tryz.prog 101 #[.agg #[.int .i64 d.rows, .int .i64 d.cols, .slice a1 d.nw k1, .slice a2 d.nb k2]] w fun e w' => ∃ r : Bool, e = .returned (.bool r) /\ (r = true ↔ d.shape) /\ w.Since w.heap.size w' := by
 have sA := sal w (.cells #[.int .i64 d.rows, .int .i64 d.cols, .slice a1 d.nw k1, .slice a2 d.nb k2] 74)
 by_cases hr : 0 <= d.rows /\ d.rows <= 20000
 rotate_left
 . have HN := hide (show ¬ d.shape from fun h => hr ⟨h.1.1, h.1.2.1⟩)
   go_enter Tryz.func101, Tryz.ntmps101; go_wp2_with fail; refine (sideFits_no d.rows _ hr).mono ?_; rintro e w1 ⟨rfl, rfl⟩; clear hr; go_wp2; go_ret; exact ⟨false, rfl, ⟨(fun h => by cases h), fun h => absurd h HN.out⟩, sA⟩
 by_cases hc : 0 <= d.cols /\ d.cols <= 20000
 rotate_left
 . have HN := hide (show ¬ d.shape from fun h => hc ⟨h.1.2.2.1, h.1.2.2.2⟩)
   go_enter Tryz.func101, Tryz.ntmps101; go_wp2_with fail; refine (xv0 d.rows _ hr.1 hr.2).mono ?_; rintro e w1 ⟨rfl, rfl⟩; go_wp2_with fail; refine (sideFits_no d.cols _ hc).mono ?_; rintro e w1 ⟨rfl, rfl⟩; clear hr hc; go_wp2; go_ret; exact ⟨false, rfl, ⟨(fun h => by cases h), fun h => absurd h HN.out⟩, sA⟩
 have hS : d.sides := ⟨hr.1, hr.2, hc.1, hc.2⟩; have hb := hS.bounds; obtain ⟨hr0, hr1⟩ := hr; obtain ⟨hc0, hc1⟩ := hc; obtain ⟨hb0, hb1, hb2, hb3⟩ := hb
 by_cases hw : (d.nw : Int) = d.rows * d.cols
 rotate_left
 . have HN := hide (show ¬ d.shape from fun h => hw h.2.1)
   have q : ((d.nw : Int) == d.rows * d.cols) = false := by simpa using hw
   clear hw; go_enter Tryz.func101, Tryz.ntmps101; go_wp2_with fail; refine (xv0 d.rows _ hr0 hr1).mono ?_; rintro e w1 ⟨rfl, rfl⟩; go_wp2_with fail; refine (xv0 d.cols _ hc0 hc1).mono ?_; rintro e w1 ⟨rfl, rfl⟩; go_wp2; go_ret; exact ⟨false, rfl, ⟨(fun h => by cases h), fun h => absurd h HN.out⟩, sA⟩
 have q : ((d.nw : Int) == d.rows * d.cols) = true := by simpa using hw
 by_cases hv : (d.nb : Int) = d.rows
 rotate_left
 . have HN := hide (show ¬ d.shape from fun h => hv h.2.2)
   have q2 : ((d.nb : Int) == d.rows) = false := by simpa using hv
   clear hv hw; go_enter Tryz.func101, Tryz.ntmps101; go_wp2_with fail; refine (xv0 d.rows _ hr0 hr1).mono ?_; rintro e w1 ⟨rfl, rfl⟩; go_wp2_with fail; refine (xv0 d.cols _ hc0 hc1).mono ?_; rintro e w1 ⟨rfl, rfl⟩; go_wp2; go_ret; exact ⟨false, rfl, ⟨(fun h => by cases h), fun h => absurd h HN.out⟩, sA⟩
 have HS := hide (show d.shape from ⟨hS, hw, hv⟩); have q2 : ((d.nb : Int) == d.rows) = true := by simpa using hv
 clear hw hv; go_enter Tryz.func101, Tryz.ntmps101; go_wp2_with fail; refine (xv0 d.rows _ hr0 hr1).mono ?_; rintro e w1 ⟨rfl, rfl⟩; go_wp2_with fail; refine (xv0 d.cols _ hc0 hc1).mono ?_; rintro e w1 ⟨rfl, rfl⟩; go_wp2; go_ret; exact ⟨true, rfl, ⟨fun _ => HS.out, fun _ => rfl⟩, sA⟩
theorem shapeFits_yes (d : AffD) (a1 a2 : Option Addr) (k1 k2 : Nat) (w : World) (h : d.shape) :
 Calls Tryz.prog 101 #[.agg #[.int .i64 d.rows, .int .i64 d.cols, .slice a1 d.nw k1, .slice a2 d.nb k2]] w fun e w' => e = .returned (.bool true) /\ w.Since w.heap.size w' :=
 (shapeFits_any d a1 a2 k1 k2 w).mono fun e w' ⟨r, he, hi, hs⟩ => ⟨by rw [he, hi.2 h], hs⟩
theorem shapeFits_no (d : AffD) (a1 a2 : Option Addr) (k1 k2 : Nat) (w : World) (h : ¬ d.shape) :
 Calls Tryz.prog 101 #[.agg #[.int .i64 d.rows, .int .i64 d.cols, .slice a1 d.nw k1, .slice a2 d.nb k2]] w fun e w' => e = .returned (.bool false) /\ w.Since w.heap.size w' :=
 (shapeFits_any d a1 a2 k1 k2 w).mono fun e w' ⟨r, he, hi, hs⟩ => ⟨by rw [he]; cases r; rfl; exact absurd (hi.1 rfl) h, hs⟩
structure ChainP (n : Nat) (A : Nat -> AffD) : Prop where
 n0 : 1 <= n
 n1 : n <= 10000
 shape : ∀ k, k < n -> (A k).shape
 chain : ∀ k, k < n -> 0 < k -> (A k).cols = (A (k - 1)).rows
 sum : sumC A n <= 20000
theorem chainFits_any (a : Option Addr) (lo b off n cap : Nat) (A : Nat -> AffD) (w : World) (hn : n <= 16777216) (H : Affs w lo a b off n A) :
 Calls Tryz.prog 65 #[.agg #[.slice a n cap]] w fun e w' => ∃ r : Bool, e = .returned (.bool r) /\ (r = true ↔ ChainP n A) /\ w.Since w.heap.size w' := by
 have sA := sal w (.cells #[.slice a n cap] 24); have bA := Box1.new w (.slice a n cap) 24
 by_cases h0 : (n : Int) < 1
 . have HN := hide (show ¬ ChainP n A from fun p => by have := p.n0; omega)
   go_enter Tryz.func65, Tryz.ntmps65; go_wp2; go_ret; exact ⟨false, rfl, ⟨(fun h => by cases h), fun h => absurd h HN.out⟩, sA⟩
 by_cases h1 : (10000 : Int) < n
 . have HN := hide (show ¬ ChainP n A from fun p => by have := p.n1; omega)
   go_enter Tryz.func65, Tryz.ntmps65; go_wp2; go_ret; exact Or.inl ⟨rfl, HN.out, sA⟩
 go_enter Tryz.func65, Tryz.ntmps65; go_wp2_with fail; generalize w.alloc (.cells #[.slice a n cap] 24) = wA at *
 go_loopw [3, 19] (fun q i wr => ∃ k : Nat, k <= n /\ i = .int .i64 k /\ q = .int .i64 (sumC A k) /\ wA.Since wA.heap.size wr /\ (∀ j, j < k -> (A j).shape) /\ (∀ j, j < k -> 0 < j -> (A j).cols = (A (j - 1)).rows)) (fun _ i _ => n - (intOf i).toNat)
 case atStart => exact ⟨0, Nat.zero_le _, rfl, rfl, World.Since.refl _ _, fun i hi => absurd hi (by omega), fun i hi => absurd hi (by omega)⟩
 case round =>
  obtain ⟨k, hk, rfl, rfl, s, O, C⟩ := hrel
  by_cases hlt : k < n
  . have B1 := bA.keep s
    have b0 := B1.c0; have S1 := sA.trans (sM s sA.size); obtain ⟨rfl, a1, a2, k1, k2, M⟩ := H k hlt; have M' := M.keep S1; have g0 := M'.c0; have g1 := M'.c1; have g2 := M'.c2; have g3 := M'.c3; have hz : (k : Int) < (n : Int) := by omega
    have t1 := sal wr (.cells #[.int .i64 (A k).rows, .int .i64 (A k).cols, .slice a1 (A k).nw k1, .slice a2 (A k).nb k2] 74); have cB := Box4.new wr (.int .i64 (A k).rows) (.int .i64 (A k).cols) (.slice a1 (A k).nw k1) (.slice a2 (A k).nb k2) 74; go_wp2_with fail; generalize wr.alloc (.cells #[.int .i64 (A k).rows, .int .i64 (A k).cols, .slice a1 (A k).nw k1, .slice a2 (A k).nb k2] 74) = w1 at *; have S2 : w.Since w.heap.size w1.drew := ⟨(S1.trans (sM t1 S1.size)).os, (S1.trans (sM t1 S1.size)).tape, (S1.trans (sM t1 S1.size)).output, (S1.trans (sM t1 S1.size)).size, (S1.trans (sM t1 S1.size)).block⟩; have B2 : Box1 w1.drew w.heap.size (.slice (some ⟨b, off, none⟩) n cap) := ⟨(B1.keep t1).c0, (B1.keep t1).f⟩; have D2 : Box4 w1.drew wr.heap.size (.int .i64 (A k).rows) (.int .i64 (A k).cols) (.slice a1 (A k).nw k1) (.slice a2 (A k).nb k2) := ⟨cB.c0, cB.c1, cB.c2, cB.c3, cB.f⟩; have p0 := B2.c0; have d0 := cB.c0; have d1 := cB.c1; have d2 := cB.c2; have d3 := cB.c3; have d0' := D2.c0; have d1' := D2.c1; have d2' := D2.c2; have d3' := D2.c3; have sd1 : wA.Since wA.heap.size w1.drew := ⟨(s.trans (sM t1 s.size)).os, (s.trans (sM t1 s.size)).tape, (s.trans (sM t1 s.size)).output, (s.trans (sM t1 s.size)).size, (s.trans (sM t1 s.size)).block⟩; clear g0 g1 g2 g3 b0
    by_cases hsh : (A k).shape
    rotate_left
    . have HN := hide hsh
      have J1 := shapeFits_no (A k) a1 a2 k1 k2 w1.drew hsh; clear hsh; refine wp_region_held_drew (S := (fun w' => w'.cell? ⟨wr.heap.size, 0, none⟩ = some (.int .i64 (A k).rows) /\ w'.cell? ⟨wr.heap.size, 1, none⟩ = some (.int .i64 (A k).cols) /\ w'.cell? ⟨wr.heap.size, 2, none⟩ = some (.slice a1 (A k).nw k1) /\ w'.cell? ⟨wr.heap.size, 3, none⟩ = some (.slice a2 (A k).nb k2))) (by kernel_rfl) ?_ (fun hHeld => ?_)
      . go_keep
      refine ta 0 24 (.agg #[.int .i64 (A k).rows, .int .i64 (A k).cols, .slice a1 (A k).nw k1, .slice a2 (A k).nb k2]) ?_ ?_
      . intro w' hSw
        try dsimp only at hSw
        go_simp
      simp only [ap, la, lz, ls]; refine wpAnyH_ready (rs := [1]) (by kernel_rfl) (by simp) ?_; refine AllReadyH.cons rfl (fun K hK => ?_) AllReadyH.nil; go_simp
      go_wp2_with (go_at_call 101; with_reducible refine J1.mono ?_; rintro e w3 ⟨rfl, s3⟩)
      have S3 := S2.trans (sM s3 S2.size); have D3 := D2.keep s3; have i0 := D3.c0; have i1 := D3.c1; have i2 := D3.c2; have i3 := D3.c3; refine hK.out _ _ ?_ (fun hHeld2 => ?_)
      . exact ⟨i0, i1, i2, i3⟩
      clear hK K hHeld; refine tk 2 26 (.bool true) ?_; simp only [ap, la, lz, ls]; refine tk 3 27 (.bool true) ?_; simp only [ap, la, lz, ls]; refine sk 4 28 ?_; simp only [ap, la, lz, ls]; refine sk 5 29 ?_; simp only [ap, la, lz, ls]; refine sk 6 30 ?_; simp only [ap, la, lz, ls]; refine sk 7 31 ?_; simp only [ap, la, lz, ls]; refine sk 8 32 ?_; simp only [ap, la, lz, ls]; refine sk 9 33 ?_; simp only [ap, la, lz, ls]; refine sk 10 34 ?_; simp only [ap, la, lz, ls]; refine sk 11 35 ?_; simp only [ap, la, lz, ls]; refine sk 12 36 ?_; simp only [ap, la, lz, ls]; refine sk 13 37 ?_; simp only [ap, la, lz, ls]; refine sk 14 38 ?_; simp only [ap, la, lz, ls]; refine sk 15 39 ?_; simp only [ap, la, lz, ls]; refine sk 16 40 ?_; simp only [ap, la, lz, ls]; refine sk 17 41 ?_; simp only [ap, la, lz, ls]; refine tk 18 42 (.bool true) ?_; simp only [ap, la, lz, ls]; refine wpAnyH_done (by kernel_rfl) ?_ _
      all_goals go_wp2
      all_goals go_ret
      all_goals exact ⟨false, rfl, ⟨(fun h => by cases h), fun p => absurd (p.shape k hlt) HN.out⟩, S3⟩
    have HS := hide hsh; have hb := hsh.1.bounds; have sb := sumC_bound (A := A) (k := k) O; have J1 := shapeFits_yes (A k) a1 a2 k1 k2 w1.drew hsh; clear hsh
    rcases Nat.eq_zero_or_pos k with h00 | hpos
    . have hg : decide ((0 : Int) < k) = false := by simp; omega
      have OO : ∀ j, j < k + 1 -> (A j).shape := fun j hj => by
       obtain rfl : j = k := by omega
       exact HS.out
      have CC : ∀ j, j < k + 1 -> 0 < j -> (A j).cols = (A (j - 1)).rows := fun j hj h => by omega
      have HO := hide (And.intro OO CC); have H0 := hide h00; clear OO CC O C h00; refine wp_region_held_drew (S := (fun w' => w'.cell? ⟨wr.heap.size, 0, none⟩ = some (.int .i64 (A k).rows) /\ w'.cell? ⟨wr.heap.size, 1, none⟩ = some (.int .i64 (A k).cols) /\ w'.cell? ⟨wr.heap.size, 2, none⟩ = some (.slice a1 (A k).nw k1) /\ w'.cell? ⟨wr.heap.size, 3, none⟩ = some (.slice a2 (A k).nb k2))) (by kernel_rfl) ?_ (fun hHeld => ?_)
      . go_keep
      refine ta 0 24 (.agg #[.int .i64 (A k).rows, .int .i64 (A k).cols, .slice a1 (A k).nw k1, .slice a2 (A k).nb k2]) ?_ ?_
      . intro w' hSw
        try dsimp only at hSw
        go_simp
      simp only [ap, la, lz, ls]; refine wpAnyH_ready (rs := [1]) (by kernel_rfl) (by simp) ?_; refine AllReadyH.cons rfl (fun K hK => ?_) AllReadyH.nil; go_simp
      go_wp2_with (go_at_call 101; with_reducible refine J1.mono ?_; rintro e w3 ⟨rfl, s3⟩)
      have S3 := S2.trans (sM s3 S2.size); have D3 := D2.keep s3; have i0 := D3.c0; have i1 := D3.c1; have i2 := D3.c2; have i3 := D3.c3; refine hK.out _ _ ?_ (fun hHeld2 => ?_)
      . exact ⟨i0, i1, i2, i3⟩
      clear hK K hHeld; refine tk 2 26 (.bool false) ?_; simp only [ap, la, lz, ls]; refine tk 3 27 (.bool false) ?_; simp only [ap, la, lz, ls]; refine tk 4 28 (.int .i64 k) ?_; simp only [ap, la, lz, ls]; refine ta 5 29 (.bool false) ?_ ?_
      . intro w' hSw
        try dsimp only at hSw
        go_simp; exact H0.out
      simp only [ap, la, lz, ls]; refine tk 6 30 (.bool false) ?_; simp only [ap, la, lz, ls]; refine sk 7 31 ?_; simp only [ap, la, lz, ls]; refine sk 8 32 ?_; simp only [ap, la, lz, ls]; refine sk 9 33 ?_; simp only [ap, la, lz, ls]; refine sk 10 34 ?_; simp only [ap, la, lz, ls]; refine sk 11 35 ?_; simp only [ap, la, lz, ls]; refine sk 12 36 ?_; simp only [ap, la, lz, ls]; refine sk 13 37 ?_; simp only [ap, la, lz, ls]; refine sk 14 38 ?_; simp only [ap, la, lz, ls]; refine sk 15 39 ?_; simp only [ap, la, lz, ls]; refine sk 16 40 ?_; simp only [ap, la, lz, ls]; refine tk 17 41 (.bool false) ?_; simp only [ap, la, lz, ls]; refine tk 18 42 (.bool false) ?_; simp only [ap, la, lz, ls]; refine wpAnyH_done (by kernel_rfl) ?_ _; go_wp2_with fail; refine (cellsOf_any (A k) _ HS.out.1).mono ?_; rintro e w4 ⟨rfl, rfl⟩; go_wp2; go_roundw
      case rel => exact ⟨k + 1, by omega, by go_num, rfl, sd1.trans (sM s3 sd1.size), HO.out.1, HO.out.2⟩
      case measure => simp [intOf]; omega
    . obtain ⟨p, hp⟩ : ∃ p, p = k - 1 := ⟨_, rfl⟩
      have HP := hide hp; obtain ⟨-, a1', a2', k1', k2', M0⟩ := H p (by omega); have e0 := (M0.keep S2).c0; have hg : (0 : Int) < k := by omega
      have hk1 : IntKind.i64.wrap ((k : Int) - 1) = (p : Int) := by rw [IntKind.wrap_i64]; omega
      have hk2 : (p : Int) < n := by omega
      have hk3 : (k : Int) - 1 = p := by omega
      clear hp
      by_cases hch : (A k).cols = (A p).rows
      . have HC := hide hch
        have q : ((A k).cols != (A p).rows) = false := by simpa using hch
        clear hch
        have OO : ∀ j, j < k + 1 -> (A j).shape := fun j hj => by
         by_cases e : j = k
         . subst e; exact HS.out
         . exact O j (by omega)
        have CC : ∀ j, j < k + 1 -> 0 < j -> (A j).cols = (A (j - 1)).rows := fun j hj h => by
         by_cases e : j = k
         . subst e; rw [<- HP.out]; exact HC.out
         . exact C j (by omega) h
        have HO := hide (And.intro OO CC); clear OO CC O C; refine wp_region_held_drew (S := (fun w' => w'.cell? ⟨wr.heap.size, 0, none⟩ = some (.int .i64 (A k).rows) /\ w'.cell? ⟨wr.heap.size, 1, none⟩ = some (.int .i64 (A k).cols) /\ w'.cell? ⟨wr.heap.size, 2, none⟩ = some (.slice a1 (A k).nw k1) /\ w'.cell? ⟨wr.heap.size, 3, none⟩ = some (.slice a2 (A k).nb k2) /\ w'.cell? ⟨w.heap.size, 0, none⟩ = some (.slice (some ⟨b, off, none⟩) n cap) /\ w'.cell? ⟨b, off + p * 4, none⟩ = some (.int .i64 (A p).rows))) (by kernel_rfl) ?_ (fun hHeld => ?_)
        . exact ⟨d0', d1', d2', d3', p0, e0⟩
        refine ta 0 24 (.agg #[.int .i64 (A k).rows, .int .i64 (A k).cols, .slice a1 (A k).nw k1, .slice a2 (A k).nb k2]) ?_ ?_
        . intro w' hSw
          try dsimp only at hSw
          go_simp
        simp only [ap, la, lz, ls]; refine wpAnyH_ready (rs := [1]) (by kernel_rfl) (by simp) ?_; refine AllReadyH.cons rfl (fun K hK => ?_) AllReadyH.nil; go_simp
        go_wp2_with (go_at_call 101; with_reducible refine J1.mono ?_; rintro e w3 ⟨rfl, s3⟩)
        have S3 := S2.trans (sM s3 S2.size); have D3 := D2.keep s3; have i0 := D3.c0; have i1 := D3.c1; have i2 := D3.c2; have i3 := D3.c3; have i4 := (B2.keep s3).c0; have i5 := (M0.keep S3).c0; refine hK.out _ _ ?_ (fun hHeld2 => ?_)
        . exact ⟨i0, i1, i2, i3, i4, i5⟩
        clear hK K hHeld; refine tk 2 26 (.bool false) ?_; simp only [ap, la, lz, ls]; refine tk 3 27 (.bool false) ?_; simp only [ap, la, lz, ls]; refine tk 4 28 (.int .i64 k) ?_; simp only [ap, la, lz, ls]; refine ta 5 29 (.bool true) ?_ ?_
        . intro w' hSw
          try dsimp only at hSw
          go_simp
        simp only [ap, la, lz, ls]; refine tk 6 30 (.bool true) ?_; simp only [ap, la, lz, ls]; refine tk 7 31 (.pointer (some ⟨wr.heap.size, 1, none⟩)) ?_; simp only [ap, la, lz, ls]; refine ta 8 32 (.int .i64 (A k).cols) ?_ ?_
        . intro w' hSw
          try dsimp only at hSw
          go_simp
        simp only [ap, la, lz, ls]; refine tk 9 33 (.pointer (some ⟨w.heap.size, 0, none⟩)) ?_; simp only [ap, la, lz, ls]; refine ta 10 34 (.slice (some ⟨b, off, none⟩) n cap) ?_ ?_
        . intro w' hSw
          try dsimp only at hSw
          go_simp
        simp only [ap, la, lz, ls]; refine tk 11 35 (.int .i64 k) ?_; simp only [ap, la, lz, ls]; refine ta 12 36 (.int .i64 p) ?_ ?_
        . intro w' hSw
          try dsimp only at hSw
          go_simp; rw [IntKind.wrap_i64]; omega
        simp only [ap, la, lz, ls]; refine ta 13 37 (.pointer (some ⟨b, off + p * 4, none⟩)) ?_ ?_
        . intro w' hSw
          try dsimp only at hSw
          go_simp
        simp only [ap, la, lz, ls]; refine tk 14 38 (.pointer (some ⟨b, off + p * 4, none⟩)) ?_; simp only [ap, la, lz, ls]; refine ta 15 39 (.int .i64 (A p).rows) ?_ ?_
        . intro w' hSw
          try dsimp only at hSw
          go_simp
        simp only [ap, la, lz, ls]; refine ta 16 40 (.bool false) ?_ ?_
        . intro w' hSw
          try dsimp only at hSw
          go_simp
        simp only [ap, la, lz, ls]; refine tk 17 41 (.bool false) ?_; simp only [ap, la, lz, ls]; refine tk 18 42 (.bool false) ?_; simp only [ap, la, lz, ls]; refine wpAnyH_done (by kernel_rfl) ?_ _
        all_goals go_wp2_with fail
        all_goals refine (cellsOf_any (A k) _ HS.out.1).mono ?_
        all_goals rintro e w4 ⟨rfl, rfl⟩
        all_goals go_wp2
        all_goals go_roundw
        case rel => exact ⟨k + 1, by omega, by go_num, rfl, sd1.trans (sM s3 sd1.size), HO.out.1, HO.out.2⟩
        case measure => simp [intOf]; omega
      . have HC := hide hch
        have q : ((A k).cols != (A p).rows) = true := by simpa using hch
        clear hch; refine wp_region_held_drew (S := (fun w' => w'.cell? ⟨wr.heap.size, 0, none⟩ = some (.int .i64 (A k).rows) /\ w'.cell? ⟨wr.heap.size, 1, none⟩ = some (.int .i64 (A k).cols) /\ w'.cell? ⟨wr.heap.size, 2, none⟩ = some (.slice a1 (A k).nw k1) /\ w'.cell? ⟨wr.heap.size, 3, none⟩ = some (.slice a2 (A k).nb k2) /\ w'.cell? ⟨w.heap.size, 0, none⟩ = some (.slice (some ⟨b, off, none⟩) n cap) /\ w'.cell? ⟨b, off + p * 4, none⟩ = some (.int .i64 (A p).rows))) (by kernel_rfl) ?_ (fun hHeld => ?_)
        . exact ⟨d0', d1', d2', d3', p0, e0⟩
        refine ta 0 24 (.agg #[.int .i64 (A k).rows, .int .i64 (A k).cols, .slice a1 (A k).nw k1, .slice a2 (A k).nb k2]) ?_ ?_
        . intro w' hSw
          try dsimp only at hSw
          go_simp
        simp only [ap, la, lz, ls]; refine wpAnyH_ready (rs := [1]) (by kernel_rfl) (by simp) ?_; refine AllReadyH.cons rfl (fun K hK => ?_) AllReadyH.nil; go_simp
        go_wp2_with (go_at_call 101; with_reducible refine J1.mono ?_; rintro e w3 ⟨rfl, s3⟩)
        have S3 := S2.trans (sM s3 S2.size); have D3 := D2.keep s3; have i0 := D3.c0; have i1 := D3.c1; have i2 := D3.c2; have i3 := D3.c3; have i4 := (B2.keep s3).c0; have i5 := (M0.keep S3).c0; refine hK.out _ _ ?_ (fun hHeld2 => ?_)
        . exact ⟨i0, i1, i2, i3, i4, i5⟩
        clear hK K hHeld; refine tk 2 26 (.bool false) ?_; simp only [ap, la, lz, ls]; refine tk 3 27 (.bool false) ?_; simp only [ap, la, lz, ls]; refine tk 4 28 (.int .i64 k) ?_; simp only [ap, la, lz, ls]; refine ta 5 29 (.bool true) ?_ ?_
        . intro w' hSw
          try dsimp only at hSw
          go_simp
        simp only [ap, la, lz, ls]; refine tk 6 30 (.bool true) ?_; simp only [ap, la, lz, ls]; refine tk 7 31 (.pointer (some ⟨wr.heap.size, 1, none⟩)) ?_; simp only [ap, la, lz, ls]; refine ta 8 32 (.int .i64 (A k).cols) ?_ ?_
        . intro w' hSw
          try dsimp only at hSw
          go_simp
        simp only [ap, la, lz, ls]; refine tk 9 33 (.pointer (some ⟨w.heap.size, 0, none⟩)) ?_; simp only [ap, la, lz, ls]; refine ta 10 34 (.slice (some ⟨b, off, none⟩) n cap) ?_ ?_
        . intro w' hSw
          try dsimp only at hSw
          go_simp
        simp only [ap, la, lz, ls]; refine tk 11 35 (.int .i64 k) ?_; simp only [ap, la, lz, ls]; refine ta 12 36 (.int .i64 p) ?_ ?_
        . intro w' hSw
          try dsimp only at hSw
          go_simp; rw [IntKind.wrap_i64]; omega
        simp only [ap, la, lz, ls]; refine ta 13 37 (.pointer (some ⟨b, off + p * 4, none⟩)) ?_ ?_
        . intro w' hSw
          try dsimp only at hSw
          go_simp
        simp only [ap, la, lz, ls]; refine tk 14 38 (.pointer (some ⟨b, off + p * 4, none⟩)) ?_; simp only [ap, la, lz, ls]; refine ta 15 39 (.int .i64 (A p).rows) ?_ ?_
        . intro w' hSw
          try dsimp only at hSw
          go_simp
        simp only [ap, la, lz, ls]; refine ta 16 40 (.bool true) ?_ ?_
        . intro w' hSw
          try dsimp only at hSw
          go_simp
        simp only [ap, la, lz, ls]; refine tk 17 41 (.bool true) ?_; simp only [ap, la, lz, ls]; refine tk 18 42 (.bool true) ?_; simp only [ap, la, lz, ls]; refine wpAnyH_done (by kernel_rfl) ?_ _
        all_goals go_wp2
        all_goals go_ret
        all_goals exact ⟨false, rfl, ⟨(fun h => by cases h), fun pc => absurd (pc.chain k hlt hpos) (by rw [<- HP.out]; exact HC.out)⟩, S3⟩
  . have S1 : w.Since w.heap.size wr := sA.trans (sM s sA.size)
    have e : k = n := by omega
    subst e; have HO := hide (And.intro O C); clear O C
    by_cases hq : sumC A k <= 20000
    . have HQ := hide hq
      go_wp2; go_ret; exact ⟨true, by simp, ⟨fun _ => ⟨by omega, by omega, HO.out.1, HO.out.2, HQ.out⟩, fun _ => rfl⟩, S1⟩
    . have HQ := hide hq
      go_wp2; go_ret; exact Or.inl ⟨by simp, fun p => absurd p.sum (by have := HQ.out; omega), S1⟩
theorem netP_iff (n : Nat) (A : Nat -> AffD) : NetP n A ↔ ChainP n A /\ ∀ k, k < n -> (A k).vals :=
 ⟨fun h => ⟨⟨h.n0, h.n1, h.shape, h.chain, h.sum⟩, h.vals⟩, fun h => ⟨h.1.n0, h.1.n1, h.1.shape, h.1.chain, h.1.sum, h.2⟩⟩
theorem implNetOk_any (a : Option Addr) (lo b off n cap : Nat) (A : Nat -> AffD) (w : World) (hw : 0 <= w.heap.size) (hT : Tab w) (hn : n <= 16777216) (hs : szA A n <= 16777216) (H : Affs w lo a b off n A) :
 Calls Tryz.prog 27 #[.agg #[.slice a n cap]] w fun e w' => ∃ r : Bool, e = .returned (.bool r) /\ (r = true ↔ NetP n A) /\ w.Since w.heap.size w' := by
 have sA := sal w (.cells #[.slice a n cap] 24); have bA := Box1.new w (.slice a n cap) 24; have E := hide (netP_iff n A); go_enter Tryz.func27, Tryz.ntmps27; go_wp2_with fail; refine (chainFits_any a lo b off n cap A _ hn (H.keep sA)).mono ?_; rintro e w1 ⟨r1, rfl, i1, s1⟩; have I1 := hide i1; have S1 := sA.trans (sM s1 sA.size); have B1 := bA.keep s1; have b0 := B1.c0; clear i1 bA; cases r1
 . go_wp2
   go_ret; exact ⟨false, rfl, ⟨(fun h => by cases h), fun p => absurd (I1.out.2 (E.out.1 p).1) (by simp)⟩, S1⟩
 have CP := hide (I1.out.1 (by simp)); clear I1; go_wp2_with fail
 go_loopw [11] (fun i wr => ∃ k : Nat, k <= n /\ i = .int .i64 k /\ w1.Since w1.heap.size wr /\ (∀ j, j < k -> (A j).vals)) (fun i _ => n - (intOf i).toNat)
 case atStart => exact ⟨0, Nat.zero_le _, rfl, World.Since.refl _ _, fun i hi => absurd hi (by omega)⟩
 case round =>
  obtain ⟨k, hk, rfl, s, O⟩ := hrel
  by_cases hlt : k < n
  . have S2 : w.Since w.heap.size wr := S1.trans (sM s S1.size)
    obtain ⟨rfl, a1, a2, k1, k2, M⟩ := H k hlt; have M' := M.keep S2; have g0 := M'.c0; have g1 := M'.c1; have g2 := M'.c2; have g3 := M'.c3; have hz : (k : Int) < (n : Int) := by omega
    have hsz := szA_at (A := A) hlt; unfold AffD.size at hsz; have t1 := sal wr (.cells #[.int .i64 (A k).rows, .int .i64 (A k).cols, .slice a1 (A k).nw k1, .slice a2 (A k).nb k2] 74); have cB := Box4.new wr (.int .i64 (A k).rows) (.int .i64 (A k).cols) (.slice a1 (A k).nw k1) (.slice a2 (A k).nb k2) 74; go_wp2_with fail; generalize wr.alloc (.cells #[.int .i64 (A k).rows, .int .i64 (A k).cols, .slice a1 (A k).nw k1, .slice a2 (A k).nb k2] 74) = w2 at *; have S3 := S2.trans (sM t1 S2.size); have s3 := s.trans (sM t1 s.size); obtain ⟨ba, oa, -, LW⟩ := (M.L.keep S3).LW; obtain ⟨bb, ob, -, LB⟩ := (M.L.keep S3).LB; refine (allValid_any a1 lo ba oa (A k).nw k1 (A k).W w2 (Nat.zero_le _) (hT.keepN hw S3) (by omega) (by omega) LW).mono ?_; rintro e w3 ⟨r2, rfl, i2, s4⟩; have I2 := hide i2; have S4 := S3.trans (sM s4 S3.size); have d3 := (cB.keep s4).c3; clear i2 g0 g1 g2 g3; cases r2
    . go_wp2
      go_ret; exact ⟨false, rfl, ⟨(fun h => by cases h), fun p => absurd (I2.out.2 (p.vals k hlt).1) (by simp)⟩, S4⟩
    go_wp2_with fail; refine (allValid_any a2 lo bb ob (A k).nb k2 (A k).B w3 (Nat.zero_le _) (hT.keepN hw S4) (by omega) (by omega) (LB.keep s4)).mono ?_; rintro e w4 ⟨r3, rfl, i3, s5⟩; have I3 := hide i3; have S5 := S4.trans (sM s5 S4.size); clear i3; cases r3
    . go_wp2
      go_ret; exact ⟨false, rfl, ⟨(fun h => by cases h), fun p => absurd (I3.out.2 (p.vals k hlt).2) (by simp)⟩, S5⟩
    go_wp2; go_roundw
    case rel =>
     refine ⟨k + 1, by omega, by go_num, (s3.trans (sM s4 s3.size)).trans (sM s5 (Nat.le_trans s3.size s4.size)), fun j hj => ?_⟩
     by_cases e : j = k
     . subst e; exact ⟨I2.out.1 (by simp), I3.out.1 (by simp)⟩
     . exact O j (by omega)
    case measure => simp [intOf]; omega
  . have S2 : w.Since w.heap.size wr := S1.trans (sM s S1.size)
    have e : k = n := by omega
    subst e; have HO := hide O; clear O; go_wp2; go_ret; exact ⟨true, rfl, ⟨fun _ => E.out.2 ⟨CP.out, HO.out⟩, fun _ => rfl⟩, S2⟩
end Go.Proofs.YtnogbaapcjjngaaGreatDoor
