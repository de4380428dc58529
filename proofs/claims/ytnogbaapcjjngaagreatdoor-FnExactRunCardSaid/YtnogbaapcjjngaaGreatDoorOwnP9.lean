import Derived.Test.YtnogbaapcjjngaaGreatDoorOwnP8
import Derived.Test.YtnogbaapcjjngaaGreatDoorOwnP4
import Derived.Test.YtnogbaapcjjngaaGreatDoorOwnP1
set_option maxHeartbeats 6400000
set_option maxRecDepth 100000
namespace Go.Proofs.YtnogbaapcjjngaaGreatDoor
open Go.RowKit
theorem limb_any (c o : Nat) (a : Option Addr) (b off n cap i : Nat) (X : Nat -> Nat) (w : World) (hc0 : w.cell? ⟨c, o, none⟩ = some (.slice a n cap)) (hX : xq1 w a b off n X) :
 Calls Tryz.prog 239 #[.pointer (some ⟨c, o, none⟩), .int .i64 (i : Int)] w fun e w' => e = .returned (.int .u32 ((extL X n i : Nat) : Int)) /\ w' = w := by
 by_cases h : i < n
 . obtain ⟨rfl, hc⟩ := hX i h
   have he : extL X n i = X i := by simp [extL, h]
   rw [he]; obtain ⟨x, ex⟩ : ∃ x, x = X i := ⟨_, rfl⟩; rw [<- ex] at hc ⊢; clear ex he; have hlt : ¬ ((n : Int) <= (i : Int)) := by omega
   go_enter Tryz.func239, Tryz.ntmps239; go_wp2; go_ret
   trivial
 . have he : extL X n i = 0 := by simp [extL, h]
   rw [he]; have hge : (n : Int) <= (i : Int) := by omega
   go_enter Tryz.func239, Tryz.ntmps239; go_wp2; go_ret
   trivial
theorem or_wide (h l s : Nat) (hs : s <= 32) (hh : h * 2 ^ s < 18446744073709551616) (hl : l < 2 ^ s) : bits .or .u64 ((h * 2 ^ s : Nat) : Int) (l : Int) = ((h * 2 ^ s + l : Nat) : Int) := by
 have h2 := pow_le32 s hs; rw [u64_or_nat _ _ hh (by omega)]
 congr 1
 have := Nat.two_pow_add_eq_or_of_lt hl h; rw [Nat.mul_comm]; exact this.symm
theorem leading_any (c o : Nat) (a : Option Addr) (b off n cap size s : Nat) (X : Nat -> Nat) (w : World) (hz : 3 <= size) (hz2 : size <= 1099511627776) (hs : s < 32) (hc0 : w.cell? ⟨c, o, none⟩ = some (.slice a n cap)) (hX : xq1 w a b off n X)
 (hXl : ∀ j, j < size -> extL X n j < 4294967296) (ht : extL X n (size - 1) * 2 ^ s < 4294967296) :
 Calls Tryz.prog 226 #[.pointer (some ⟨c, o, none⟩), .int .i64 (size : Int), .int .i64 (s : Int)] w fun e w' =>
  e = .returned (.int .u64 (((extL X n (size - 1) * 4294967296 + extL X n (size - 2)) * 2 ^ s + extL X n (size - 3) * 2 ^ s / 4294967296 : Nat) : Int)) /\ w' = w := by
 have J1 := limb_any c o a b off n cap (size - 1) X w hc0 hX; have J2 := limb_any c o a b off n cap (size - 2) X w hc0 hX; have J3 := limb_any c o a b off n cap (size - 3) X w hc0 hX; obtain ⟨A, -, -, L2, L3, -⟩ := lead_val (extL X n) size s hz hXl hs ht; have b1 := hXl (size - 1) (by omega); have b2 := hXl (size - 2) (by omega); have b3 := hXl (size - 3) (by omega); rw [show ((size - 1 : Nat) : Int) = (size : Int) - 1 by omega] at J1; rw [show ((size - 2 : Nat) : Int) = (size : Int) - 2 by omega] at J2; rw [show ((size - 3 : Nat) : Int) = (size : Int) - 3 by omega] at J3; generalize extL X n (size - 1) = z1 at *; generalize extL X n (size - 2) = z2 at *; generalize extL X n (size - 3) = z3 at *; have hor := or64 z1 z2 b1 b2; have hp : 2 ^ s <= 4294967296 := pow_le32 s (by omega)
 have h3 : z3 * 2 ^ s < 18446744073709551616 := by
  have : z3 * 2 ^ s <= 4294967295 * 2 ^ s := Nat.mul_le_mul_right _ (by omega); omega
 have e1 := shl_wide z3 s h3; have e2 := shl_wide (z1 * 4294967296 + z2) s L2; have e3 := or_wide (z1 * 4294967296 + z2) (z3 * 2 ^ s / 4294967296) s (by omega) L2 L3; have E1 := hide e1; have E2 := hide e2; have E3 := hide e3; clear e1 e2 e3 L2 L3 hp h3 ht hXl hX; go_enter Tryz.func226, Tryz.ntmps226; go_wp2_with fail; refine J1.mono ?_; rintro e w1 ⟨rfl, rfl⟩; go_wp2_with fail; refine J2.mono ?_; rintro e w1 ⟨rfl, rfl⟩; go_wp2_with fail; refine J3.mono ?_; rintro e w1 ⟨rfl, rfl⟩; go_wp2; go_ret; go_light; have e1 := E1.out; have e2 := E2.out; have e3 := E3.out; rw [e1, show ((z1 : Int) * 4294967296 + (z2 : Int)) = ((z1 * 4294967296 + z2 : Nat) : Int) by omega, e2, show ((z3 * 2 ^ s : Nat) : Int) / 4294967296 = ((z3 * 2 ^ s / 4294967296 : Nat) : Int) by omega, e3]; exact ⟨rfl, rfl⟩
theorem take_any (b p q P Q o : Nat) (w : World) (B : Box3 w b (.int .u64 (P : Int)) (.int .u64 (Q : Int)) (.int .u64 (o : Int))) (hp : p + P < 18446744073709551616) (hq : q + Q < 18446744073709551616) (ho : o <= 1) :
 Calls Tryz.prog 225 #[.pointer (some ⟨b, 0, none⟩), .int .u64 (p : Int), .int .u64 (q : Int)] w fun e w' => ∃ d o' : Nat, e = .returned (.int .u32 (d : Int)) /\ xq0 w w' b /\
  Box3 w' b (.int .u64 (((p + P) / 4294967296 : Nat) : Int)) (.int .u64 (((q + Q) / 4294967296 : Nat) : Int)) (.int .u64 (o' : Int)) /\ d < 4294967296 /\ o' <= 1 /\ (p + P) % 4294967296 + o' * 4294967296 = (q + Q) % 4294967296 + o + d := by
 obtain ⟨d, o', hd, ho', he, hw1, hw2⟩ := owe (r := (p + P) % 4294967296) (t := (q + Q) % 4294967296) (o := o) (Nat.mod_lt _ (by omega)) (Nat.mod_lt _ (by omega)) ho; have HE := hide he; have H1 := hide hw1; have H2 := hide hw2; have a1 := and_low (p + P) hp; have a2 := and_low (q + Q) hq; have A1 := hide a1; have A2 := hide a2; clear he hw1 hw2 a1 a2; have c0 := B.c0; have c1 := B.c1; have c2 := B.c2; have f := B.f; have f0 := f 0; have f1 := f 1; have f2 := f 2; clear f; go_enter Tryz.func225, Tryz.ntmps225; go_wp2; go_ret; go_light
 have e0 : IntKind.u64.wrap (IntKind.u64.wrap (bits .and .u64 ((p : Int) + P) 4294967295 - bits .and .u64 ((q : Int) + Q) 4294967295) - o) = (((((p + P) % 4294967296 : Nat) : Int) - (((q + Q) % 4294967296 : Nat) : Int) - o) % 18446744073709551616) := by
  have h1 := A1.out; have h2 := A2.out; rw [show ((p : Int) + P) = ((p + P : Nat) : Int) by omega, show ((q : Int) + Q) = ((q + Q : Nat) : Int) by omega, h1, h2, IntKind.wrap_u64, IntKind.wrap_u64]; omega
 have e1 := H1.out; have e2 := H2.out; rw [<- e0] at e1 e2; rw [e1, e2, show ((p : Int) + P) / 4294967296 = (((p + P) / 4294967296 : Nat) : Int) by omega, show ((q : Int) + Q) / 4294967296 = (((q + Q) / 4294967296 : Nat) : Int) by omega]; exact ⟨d, o', rfl, (((xq0.refl _ _).setCell _ _).setCell _ _).setCell _ _, ((B.set0 _).set1 _).set2 _, hd, ho', HE.out⟩
theorem leapInfo : (Tryz.prog.info? 221).map (·.size) = some 5 := by kernel_rfl
theorem extL_lt {X : Nat -> Nat} {n : Nat} (h : ∀ j, j < n -> X j < 4294967296) (j : Nat) : extL X n j < 4294967296 := by
 unfold extL; split
 . exact h j (by assumption)
 . omega
theorem top_shift {X Y : Nat -> Nat} {n m s : Nat} (h3 : 3 <= n) (hmn : m <= n) (hX : ∀ j, j < n -> X j < 4294967296) (hle : lv Y m <= lv X n) (ht : X (n - 1) * 2 ^ s < 4294967296) : extL Y m (n - 1) * 2 ^ s < 4294967296 := by
 have h1 : lv (extL Y m) n <= lv X n := by rw [yx0 Y m n hmn]; exact hle
 obtain ⟨k, rfl⟩ : ∃ k, n = k + 1 := ⟨n - 1, by omega⟩; have h2 := yj5 X k (fun j hj => hX j (by omega)); simp only [lv] at h1; rw [show k + 1 - 1 = k by omega] at *
 have h3 : extL Y m k <= X k := by
  apply Nat.le_of_not_lt
  intro hlt; have : (X k + 1) * 2 ^ (32 * k) <= extL Y m k * 2 ^ (32 * k) := Nat.mul_le_mul_right _ hlt; rw [Nat.add_mul] at this; omega
 have := Nat.mul_le_mul_right (2 ^ s) h3; omega
theorem yq2 (a b F : Nat) (h : a * b = F) (hF : F < 18446744073709551616) : IntKind.u64.wrap ((a : Int) * (b : Int)) = (F : Int) := by
 have e : (a : Int) * (b : Int) = ((a * b : Nat) : Int) := by rw [Int.natCast_mul]
 rw [e, h]; exact xq8 _ hF
def LeapRet (N M : Nat) (w : World) (e : Ending) (w' : World) : Prop :=
 ∃ (u v x y : Nat) (odd : Bool), e = .returned (.agg #[.int .u64 (u : Int), .int .u64 (v : Int), .int .u64 (x : Int), .int .u64 (y : Int), .bool odd]) /\ LeapOk N M u v x y odd /\ w.Since w.heap.size w'
theorem leapOf_any (an am : Option Addr) (gn gm n m cn cm : Nat) (X Y : Nat -> Nat) (w : World) (hn : n <= 268435456) (hm : 3 <= m) (hmn : m <= n) (hX : xq1 w an gn 0 n X) (hY : xq1 w am gm 0 m Y) (hXl : ∀ j, j < n -> X j < 4294967296) (hYl : ∀ j, j < m -> Y j < 4294967296)
 (tX : X (n - 1) ≠ 0) (hle : lv Y m <= lv X n) :
 Calls Tryz.prog 202 #[.slice an n cn, .slice am m cm] w (LeapRet (lv X n) (lv Y m) w) := by
 have kd : w.cell? ⟨gn, n - 1, none⟩ = some (.int .u32 (X (n - 1))) := by simpa using (hX (n - 1) (by omega)).2
 have hbl : gn < w.heap.size := hX.lt (by omega); have hbl1 : gn < w.heap.size + 1 := by omega
 have hbl2 : gn < w.heap.size + 1 + 1 := by omega
 obtain ⟨rfl, -⟩ := hX 0 (by omega); have hx0 : 0 < X (n - 1) := by omega
 have hxl := hXl (n - 1) (by omega); have hd1 : (1 : Int) <= (n : Int) := by omega
 have HLE := hide hle; have HXl := hide hXl; have HYl := hide hYl; clear tX hle hXl hYl; go_enter Tryz.func202, Tryz.ntmps202; go_wp2_with fail; refine (lz32_any (X (n - 1)) _ hx0 hxl).mono ?_; rintro e w1 ⟨s, rfl, rfl, hs, -, hsh⟩
 have sA : w.Since w.heap.size (((w.alloc (.cells #[.slice (some ⟨gn, 0, none⟩) n cn] 165)).alloc (.cells #[.slice am m cm] 165)).alloc (.cells #[.int .u64 0, .int .u64 0, .int .u64 0, .int .u64 0, .bool false] 221)) :=
  (((World.Since.refl _ _).alloc (Nat.le_refl _) _).alloc (by simp) _).alloc (by simp; omega) _
 have bx1 : (((w.alloc (.cells #[.slice (some ⟨gn, 0, none⟩) n cn] 165)).alloc (.cells #[.slice am m cm] 165)).alloc (.cells #[.int .u64 0, .int .u64 0, .int .u64 0, .int .u64 0, .bool false] 221)).cell? ⟨w.heap.size, 0, none⟩ = some (.slice (some ⟨gn, 0, none⟩) n cn) := by simp [go_sem]
 have bx2 : (((w.alloc (.cells #[.slice (some ⟨gn, 0, none⟩) n cn] 165)).alloc (.cells #[.slice am m cm] 165)).alloc (.cells #[.int .u64 0, .int .u64 0, .int .u64 0, .int .u64 0, .bool false] 221)).cell? ⟨w.heap.size + 1, 0, none⟩ = some (.slice am m cm) := by simp [go_sem]
 have bx3 : Box5 (((w.alloc (.cells #[.slice (some ⟨gn, 0, none⟩) n cn] 165)).alloc (.cells #[.slice am m cm] 165)).alloc (.cells #[.int .u64 0, .int .u64 0, .int .u64 0, .int .u64 0, .bool false] 221)) (w.heap.size + 1 + 1) (.int .u64 0) (.int .u64 0) (.int .u64 0) (.int .u64 0) (.bool false) := by
  have := Box5.new ((w.alloc (.cells #[.slice (some ⟨gn, 0, none⟩) n cn] 165)).alloc (.cells #[.slice am m cm] 165)) (.int .u64 0) (.int .u64 0) (.int .u64 0) (.int .u64 0) (.bool false) 221
  simpa using this
 have hwz : (((w.alloc (.cells #[.slice (some ⟨gn, 0, none⟩) n cn] 165)).alloc (.cells #[.slice am m cm] 165)).alloc (.cells #[.int .u64 0, .int .u64 0, .int .u64 0, .int .u64 0, .bool false] 221)).heap.size = w.heap.size + 3 := by simp
 generalize (((w.alloc (.cells #[.slice (some ⟨gn, 0, none⟩) n cn] 165)).alloc (.cells #[.slice am m cm] 165)).alloc (.cells #[.int .u64 0, .int .u64 0, .int .u64 0, .int .u64 0, .bool false] 221)) = wA at *; have hsm := top_shift (s := s) (by omega) hmn HXl.out HLE.out hsh; have hsx : extL X n (n - 1) * 2 ^ s < 4294967296 := by rw [show extL X n (n - 1) = X (n - 1) by simp [extL]; omega]; exact hsh
 have J1 := leading_any w.heap.size 0 _ gn 0 n cn n s X wA (by omega) (by omega) hs bx1 (hX.keep sA) (fun j _ => extL_lt HXl.out j) hsx; have J2 := leading_any (w.heap.size + 1) 0 am gm 0 m cm n s Y wA (by omega) (by omega) hs bx2 (hY.keep sA) (fun j _ => extL_lt HYl.out j) hsm; obtain ⟨A, eA, lA, -, -, a1, a2, a3⟩ := lead_val (extL X n) n s (by omega) (fun j _ => extL_lt HXl.out j) hs hsx; obtain ⟨B, eB, lB, -, -, b1, b2, b3⟩ := lead_val (extL Y m) n s (by omega) (fun j _ => extL_lt HYl.out j) hs hsm; rw [<- eA] at J1; rw [<- eB] at J2; rw [yx0 X n n (Nat.le_refl _)] at a1 a2 a3; rw [yx0 Y m n hmn] at b1 b2 b3; have hBA : B <= A := by rw [a3, b3]; exact Nat.div_le_div_right HLE.out
 have hNp : 0 < lv X n := by
  have := lv_ge X n (by omega) (by omega); have := Nat.pow_pos (n := 32 * (n - 1)) (show 0 < 2 by omega); omega
 have OUT := hide (fun (r s u v x y : Nat) (e : Bool) (h : Lp A B r s u v x y e) => h.out (N := lv X n) (M := lv Y m) lA a1 a2 b1 b2 hNp); have LP0 := hide (Lp.start hBA); clear eA eB a1 a2 a3 b1 b2 b3 hNp hsm hsx hsh kd hbl1 hbl2 HLE HXl HYl hx0 hxl; go_wp2_with fail; refine J1.mono ?_; rintro e w1 ⟨rfl, rfl⟩; go_wp2_with fail; refine J2.mono ?_; rintro e w1 ⟨rfl, rfl⟩; clear J1 J2; go_wp2
 go_loopw [7, 8, 10, 11] (fun t7 t8 t10 t11 wr => ∃ (r s u0 u v x0 x y : Nat) (e : Bool), t7 = .int .u64 (r : Int) /\ t8 = .int .u64 (s : Int) /\ t10 = .int .u64 (v : Int) /\ t11 = .int .u64 (y : Int) /\ w.Since w.heap.size wr /\
  Box5 wr (w.heap.size + 1 + 1) (.int .u64 0) (.int .u64 0) (.int .u64 0) (.int .u64 0) (.bool false) /\ Box5 wr (w.heap.size + 3) (.int .u64 (u0 : Int)) (.int .u64 (u : Int)) (.int .u64 (x0 : Int)) (.int .u64 (x : Int)) (.bool e) /\
  Hid (Lp A B r s u v x y e) /\ Hid (LeapOk (lv X n) (lv Y m) u0 u x0 x e) /\ r < 18446744073709551616 /\ s <= r /\ x < 18446744073709551616 /\ y < 18446744073709551616 /\ u < 18446744073709551616 /\ v < 18446744073709551616) (fun _ t8 _ _ _ => (intOf t8).toNat)
 case atStart =>
  refine ⟨A, B, 0, 1, 0, 0, 0, 1, true, rfl, rfl, rfl, rfl, sA.alloc (by omega) _, bx3.keep ((World.Since.refl _ _).alloc (Nat.le_refl _) _), (by rw [<- hwz]; exact Box5.new w1 _ _ _ _ _ _), LP0, ?_, lA, hBA, by omega, by omega, by omega, by omega⟩; intro h; exact absurd rfl h
 case round =>
  obtain ⟨r, s, u0, u, v, x0, x, y, e, rfl, rfl, rfl, rfl, S, B1, B2, HLP, HOK, hr, hsr, hx, hy, hu, hv⟩ := hrel; have hy1 := HLP.out.y1; have g0 := B2.c0; have g1 := B2.c1; have g2 := B2.c2; have g3 := B2.c3; have g4 := B2.c4; have f0 := B2.f 0; have f1 := B2.f 1; have f2 := B2.f 2; have f3 := B2.f 3; have f4 := B2.f 4
  by_cases c1 : y <= s
  . have hsum : x + y < 18446744073709551616 := by
     have h1 := HLP.out.hA; have h2 : y * 1 <= y * r := Nat.mul_le_mul_left _ (by omega); have h3 : x * 1 <= x * s := Nat.mul_le_mul_left _ (by omega); omega
    by_cases c2 : x + y <= r - s
    . have HN := HLP.out.step c1
      have HO := OUT.out r s u v x y e HLP.out c1 c2; obtain ⟨q, hq⟩ : ∃ q, q = r / s := ⟨_, rfl⟩; obtain ⟨t, ht⟩ : ∃ t, t = r % s := ⟨_, rfl⟩; have hts : t < s := by rw [ht]; exact Nat.mod_lt _ (by omega)
      have q1 : (r : Int) / (s : Int) = (q : Int) := by rw [hq]; simp
      have q2 : (r : Int) % (s : Int) = (t : Int) := by rw [ht]; simp
      have q3 : q < 18446744073709551616 := by rw [hq]; exact Nat.lt_of_le_of_lt (Nat.div_le_self _ _) hr
      rw [<- hq, <- ht] at HN; obtain ⟨F1, e1⟩ : ∃ F, F = q * v := ⟨_, rfl⟩; obtain ⟨F2, e2⟩ : ∃ F, F = q * y := ⟨_, rfl⟩; rw [<- e1, <- e2] at HN
      have hy' : x + F2 < 18446744073709551616 := by
       have h1 := HN.hA; have h2 : (x + F2) * 1 <= (x + F2) * s := Nat.mul_le_mul_left _ (by omega); omega
      have hu' : u + F1 < 18446744073709551616 := by have := HN.vy; omega
      have k1 := yq2 q v F1 e1.symm (by omega); have k2 := yq2 q y F2 e2.symm (by omega); have HLN := hide HN; have HON := hide HO; have hs0 : ((s : Int) == 0) = false := by simp; omega
      have hs1 : (s : Int) ≠ 0 := by omega
      have i1 : (y : Int) <= (s : Int) := by omega
      have i2 : (x : Int) + (y : Int) <= (r : Int) - (s : Int) := by omega
      clear HN HO hq ht e1 e2 HLP HOK OUT LP0; go_wp2
      go_region
      go_wp2; go_roundw
      case rel =>
       go_light; have S1 := ((((S.setCell (a := ⟨w.heap.size + 3, 0, none⟩) (by show w.heap.size <= w.heap.size + 3; omega) (.int .u64 (u : Int))).setCell (a := ⟨w.heap.size + 3, 1, none⟩) (by show w.heap.size <= w.heap.size + 3; omega) (.int .u64 (v : Int))).setCell (a := ⟨w.heap.size + 3, 2, none⟩) (by show w.heap.size <= w.heap.size + 3; omega) (.int .u64 (x : Int))).setCell (a := ⟨w.heap.size + 3, 3, none⟩) (by show w.heap.size <= w.heap.size + 3; omega) (.int .u64 (y : Int))).setCell (a := ⟨w.heap.size + 3, 4, none⟩) (by show w.heap.size <= w.heap.size + 3; omega) (.bool !e); have M1 := (((((xq0.refl wr (w.heap.size + 3)).setCell 0 (.int .u64 (u : Int))).setCell 1 (.int .u64 (v : Int))).setCell 2 (.int .u64 (x : Int))).setCell 3 (.int .u64 (y : Int))).setCell 4 (.bool !e); exact ⟨s, t, u, v, u + F1, x, y, x + F2, !e, rfl, by rw [q2], rfl, rfl, ⟨S1.os, S1.tape, S1.output, S1.size, S1.block⟩, (B1.marked M1 (by omega)).drew, (((((B2.set0 _).set1 _).set2 _).set3 _).set4 _).drew, HLN, HON, by omega, by omega, by omega, by omega, by omega, by omega⟩
      case measure => simp [intOf]; omega
    . have i1 : (y : Int) <= (s : Int) := by omega
      have i2 : ¬ ((x : Int) + (y : Int) <= (r : Int) - (s : Int)) := by omega
      have r0 := B1.c0; have r1 := B1.c1; have r2 := B1.c2; have r3 := B1.c3; have r4 := B1.c4; have p0 := B1.f 0; have p1 := B1.f 1; have p2 := B1.f 2; have p3 := B1.f 3; have p4 := B1.f 4; go_wp2; exact bodyPost_ret (results_box5T rfl Tryz.underlying221 rfl leapInfo _ _ _ _ _ _ _ _ rfl (((((B1.set0 _).set1 _).set2 _).set3 _).set4 _)) rfl ⟨_, _, _, _, _, rfl, HOK.out, ((((S.setCell (by show w.heap.size <= w.heap.size + 1 + 1; omega) _).setCell (by show w.heap.size <= w.heap.size + 1 + 1; omega) _).setCell (by show w.heap.size <= w.heap.size + 1 + 1; omega) _).setCell (by show w.heap.size <= w.heap.size + 1 + 1; omega) _).setCell (by show w.heap.size <= w.heap.size + 1 + 1; omega) _⟩
  . have i1 : ¬ ((y : Int) <= (s : Int)) := by omega
    have r0 := B1.c0; have r1 := B1.c1; have r2 := B1.c2; have r3 := B1.c3; have r4 := B1.c4; have p0 := B1.f 0; have p1 := B1.f 1; have p2 := B1.f 2; have p3 := B1.f 3; have p4 := B1.f 4; go_wp2; exact bodyPost_ret (results_box5T rfl Tryz.underlying221 rfl leapInfo _ _ _ _ _ _ _ _ rfl (((((B1.set0 _).set1 _).set2 _).set3 _).set4 _)) rfl ⟨_, _, _, _, _, rfl, HOK.out, ((((S.setCell (by show w.heap.size <= w.heap.size + 1 + 1; omega) _).setCell (by show w.heap.size <= w.heap.size + 1 + 1; omega) _).setCell (by show w.heap.size <= w.heap.size + 1 + 1; omega) _).setCell (by show w.heap.size <= w.heap.size + 1 + 1; omega) _).setCell (by show w.heap.size <= w.heap.size + 1 + 1; omega) _⟩
end Go.Proofs.YtnogbaapcjjngaaGreatDoor
