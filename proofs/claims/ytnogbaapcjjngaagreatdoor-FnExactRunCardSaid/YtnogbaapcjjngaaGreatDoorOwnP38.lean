import Derived.Test.YtnogbaapcjjngaaGreatDoorOwnP37
import Derived.Defers
import Derived.Recover
import Derived.Test.YtnogbaapcjjngaaGreatDoorOwnP20
import Derived.Test.YtnogbaapcjjngaaGreatDoorOwnP26
import Derived.Test.YtnogbaapcjjngaaGreatDoorOwnP32
import Derived.Test.YtnogbaapcjjngaaGreatDoorOwnP13
set_option maxHeartbeats 6400000
set_option maxRecDepth 100000
namespace Go.Proofs.YtnogbaapcjjngaaGreatDoor
open Go.RowKit
theorem wrongLineOf_q (n : Int) (w : World) : Calls Tryz.prog 24 #[.iface 86 (.agg #[.int .i64 n])] w fun e w' => e = .returned (.int .i64 n) /\ w.Since w.heap.size w' := by
 have sA := sal w (.cells #[.int .i64 n] 86); have hta : ∀ w : World, (Instr.typeAssert (.iface 86 (.agg #[.int .i64 n])) 20 86 true).run Tryz.prog w = .ok (.tuple #[.agg #[.int .i64 n], .bool true]) w := fun _ => by kernel_rfl
 go_enter Tryz.func24, Tryz.ntmps24; go_wp2; go_ret; exact ⟨rfl, sA⟩
theorem caught_panics (d e : Nat) (x : Value) (y : Int) (n : Int) (w : World) (B : Box1 w d x) (E : Box1 w e (.int .i64 y)) (hde : d ≠ e) :
 CallsD Tryz.prog 23 #[.pointer (some ⟨d, 0, none⟩), .pointer (some ⟨e, 0, none⟩)] (.panicking [{ v := .iface 86 (.agg #[.int .i64 n]), recovered := false }]) w fun r u' w' =>
  r = .returned (.tuple #[]) /\ u' = .panicking [{ v := .iface 86 (.agg #[.int .i64 n]), recovered := true }] /\ Box1 w' d (.slice none 0 0) /\ Box1 w' e (.int .i64 2) /\ Chg (fun q => q = d ∨ q = e) w w' := by
 refine callsD_of_wpS Tryz.func23 rfl fun c₀ cs hu => ?_
 apply wpS_seq
 apply wpS_region
 simp [wpOpsS, go_sem, recoverD, hu, Tryz.ntmps23, Exit.thenS]
 refine wpS_of_wp ?_; have b0 := B.c0; have e0 := E.c0; have fb := B.f 0; have fe := E.f 0; go_wp2_with fail; refine (wrongLineOf_q n w).mono ?_; rintro r w1 ⟨rfl, s1⟩; clear b0 e0 fb fe; have B1 := B.keep s1; have E1 := E.keep s1; have b0 := B1.c0; have fb := B1.f 0; have BS : But d w1 (w1.setCell ⟨d, 0, none⟩ (.slice none 0 0)) := (But.refl d w1).set 0 _; have E2 := E1.but BS (fun h => hde h.symm); have e0 := E2.c0; have fe := E2.f 0; have B2 : Box1 (w1.setCell ⟨d, 0, none⟩ (.slice none 0 0)) d (.slice none 0 0) := ⟨World.cell?_setCell_same _ _ _ b0, fun q => by simpa using B1.f q⟩; have BS2 : But e (w1.setCell ⟨d, 0, none⟩ (.slice none 0 0)) ((w1.setCell ⟨d, 0, none⟩ (.slice none 0 0)).setCell ⟨e, 0, none⟩ (.int .i64 2)) := (But.refl e _).set 0 _; have B3 := B2.but BS2 hde; have E3 : Box1 ((w1.setCell ⟨d, 0, none⟩ (.slice none 0 0)).setCell ⟨e, 0, none⟩ (.int .i64 2)) e (.int .i64 2) := ⟨World.cell?_setCell_same _ _ _ e0, fun q => by simpa using E2.f q⟩
 have CH : Chg (fun q => q = d ∨ q = e) w ((w1.setCell ⟨d, 0, none⟩ (.slice none 0 0)).setCell ⟨e, 0, none⟩ (.int .i64 2)) := ⟨(BS2.os.trans BS.os).trans s1.os, (BS2.tape.trans BS.tape).trans s1.tape, (BS2.output.trans BS.output).trans s1.output, Nat.le_trans (Nat.le_trans s1.size BS.size) BS2.size, fun q hq hn => by
  have z1 := s1.size; rw [BS2.block q (Nat.lt_of_lt_of_le (by omega) BS.size) (by simp; exact fun h => hn (Or.inr h)), BS.block q (by omega) (by simp; exact fun h => hn (Or.inl h))]; exact s1.block q hq⟩
 go_wp2
 simp [bodyPostS, results, Tryz.results23]
 exact ⟨B3, E3, CH⟩
theorem caught_idle (d e : Nat) (w : World) :
 CallsD Tryz.prog 23 #[.pointer (some ⟨d, 0, none⟩), .pointer (some ⟨e, 0, none⟩)] .returning w fun r u' w' => r = .returned (.tuple #[]) /\ u' = .returning /\ w' = w := by
 refine callsD_of_wpS Tryz.func23 rfl fun c₀ cs hu => ?_
 apply wpS_seq
 apply wpS_region
 simp [wpOpsS, go_sem, recoverD, hu, Tryz.ntmps23, Exit.thenS]
 refine wpS_of_wp ?_; go_wp2; cases c₀
 simp_all [bodyPostS, results, Tryz.results23]
theorem RatW.can0 {w : World} {p : Nat -> Prop} {v : Value} {neg : Bool} {N D M : Nat} (h : RatW w p v neg N D M) (hM : M <= 9223372036854775807) : ∃ a1 a2 k1 k2, v = .agg #[.bool (ratC neg N D).neg, .slice a1 (ratC neg N D).n k1, .slice a2 (ratC neg N D).m k2] /\ RatL w 0 (ratC neg N D) a1 a2 k1 k2 := by
 obtain ⟨v1, v2, g, h', rfl, h1, h2, -⟩ := h; obtain ⟨a1, k1, rfl, p1, p2, p3, p4, p5⟩ := h1.can; obtain ⟨a2, k2, rfl, q1, q2, q3, q4, q5⟩ := h2.can; exact ⟨a1, a2, k1, k2, rfl, ⟨p1, q1, p3, q3, ⟨g, 0, fun _ => Nat.zero_le _, p4⟩, ⟨h', 0, fun _ => Nat.zero_le _, q4⟩, p5, q5, Nat.le_trans p2 hM, Nat.le_trans q2 hM⟩⟩
def numF (l : List ByteArray) : Nat -> RatD := fun i => numD (wd l i)
theorem OutR.rats {w : World} {lo : Nat} {v : Value} {l : List ByteArray} {p : Nat -> Nat -> Prop} {xs : List Value} (h : OutR w lo v l.length (wd l) p xs) : ∃ a g cap, v = .slice a l.length cap /\ l.length <= cap /\ Rats w 0 a g 0 l.length (numF l) := by
 have hc := @World.ownsRow.cells _ _ _ _ _ _ _ h.own; have hat := h.at_; obtain ⟨_, ⟨e, e0⟩ | ⟨g, cap, cur, e, hg, hb, hn, _⟩⟩ := h.own
 . exact ⟨none, 0, 0, by rw [e, e0], by omega, fun i hi => absurd hi (by omega)⟩
 . subst e
   refine ⟨_, g, cap, rfl, hn, fun i hi => ⟨rfl, ?_⟩⟩; obtain ⟨u1, u2, h1, h2, h3, h4⟩ := hat i hi; obtain ⟨a1, a2, k1, k2, e, L⟩ := RatW.can0 h4 (by omega); simp only [Value.agg.injEq, Array.mk.injEq, List.cons.injEq, and_true] at e; obtain ⟨e1, rfl, rfl⟩ := e; have c1 := hc (g := g) rfl _ _ h1; have c2 := hc (g := g) rfl _ _ h2; have c3 := hc (g := g) rfl _ _ h3; rw [Go.WideShapes.add_plain] at c1 c2 c3; exact ⟨a1, a2, k1, k2, ⟨c1, by rw [Nat.add_assoc]; exact c2, by rw [Nat.add_assoc]; exact c3, L⟩⟩
def MapD.A (m : MapD) : AffD := ⟨(m.R : Int), (m.C : Int), (WL m.C m.rs).length, numF (WL m.C m.rs), (BL m.C m.rs).length, numF (BL m.C m.rs)⟩
def mapA (ms : List MapD) : Nat -> AffD := fun i => (mD ms i).A
theorem OutA.affs {w : World} {lo : Nat} {v : Value} {ms : List MapD} {xs : List Value} {zs : List (List Value)} (h : OutA w lo v ms.length (mD ms) xs zs) (hb : ∀ i, i < ms.length -> (mD ms i).R <= 1000000 /\ (mD ms i).C <= 1000000) (hz : ∀ i, i < ms.length -> (WL (mD ms i).C (mD ms i).rs).length <= 1000000000000 /\ (BL (mD ms i).C (mD ms i).rs).length <= 1000000000000) : ∃ a g cap, v = .slice a ms.length cap /\ ms.length <= cap /\ Affs w 0 a g 0 ms.length (mapA ms) := by
 have hc := @World.ownsRow.cells _ _ _ _ _ _ _ h.own; have hat := h.at_; obtain ⟨_, ⟨e, e0⟩ | ⟨g, cap, cur, e, hg, hb', hn, _⟩⟩ := h.own
 . exact ⟨none, 0, 0, by rw [e, e0], by omega, fun i hi => absurd hi (by omega)⟩
 . subst e
   refine ⟨_, g, cap, rfl, hn, fun i hi => ⟨rfl, ?_⟩⟩; obtain ⟨vW, vB, xW, xB, h1, h2, h3, h4, A, -⟩ := hat i hi; obtain ⟨a1, g1, k1, rfl, n1, L1⟩ := A.W.rats; obtain ⟨a2, g2, k2, rfl, n2, L2⟩ := A.B.rats; have c1 := hc (g := g) rfl _ _ h1; have c2 := hc (g := g) rfl _ _ h2; have c3 := hc (g := g) rfl _ _ h3; have c4 := hc (g := g) rfl _ _ h4; rw [Go.WideShapes.add_plain] at c1 c2 c3 c4; have := hb i hi; have := hz i hi; exact ⟨a1, a2, k1, k2, ⟨c1, by rw [Nat.add_assoc]; exact c2, by rw [Nat.add_assoc]; exact c3, by rw [Nat.add_assoc]; exact c4, ⟨n1, n2, ⟨g1, 0, fun _ => Nat.zero_le _, L1⟩, ⟨g2, 0, fun _ => Nat.zero_le _, L2⟩, by show -9223372036854775808 <= ((mD ms i).R : Int); omega, by show ((mD ms i).R : Int) <= 9223372036854775807; omega, by show -9223372036854775808 <= ((mD ms i).C : Int); omega, by show ((mD ms i).C : Int) <= 9223372036854775807; omega, by show (WL (mD ms i).C (mD ms i).rs).length <= 9223372036854775807; omega, by show (BL (mD ms i).C (mD ms i).rs).length <= 9223372036854775807; omega⟩⟩⟩
def tot (rest : List (Nat × List ByteArray)) : Nat := (rest.map fun r => r.2.length).sum
theorem tot_append (a b : List (Nat × List ByteArray)) : tot (a ++ b) = tot a + tot b := by simp [tot]
theorem tot_cons (a : Nat × List ByteArray) (b : List (Nat × List ByteArray)) : tot (a :: b) = a.2.length + tot b := by simp [tot]
theorem tot_rows {C : Nat} {rs : List (Nat × List ByteArray)} (h : ∀ r ∈ rs, rowOk C r.2) : tot rs = rs.length * (C + 1) := by
 induction rs with
 | nil => simp [tot]
 | cons r rs ih =>
   rw [tot_cons, ih (fun r' hr => h r' (by simp [hr])), (h r (by simp)).1, List.length_cons, Nat.add_mul, Nat.one_mul]; omega
def MapD.w (m : MapD) : Nat := (WL m.C m.rs).length + (BL m.C m.rs).length
theorem MapS.tot_le {m : MapD} {rest rest' : List (Nat × List ByteArray)} (h : MapS rest m.R m.C m.rs rest') : m.w + tot rest' <= tot rest := by
 obtain ⟨n0, x1, x2, e, -⟩ := h.ex; rw [e, tot_cons, tot_append, tot_rows h.rows, MapD.w, WL_len h.rows, BL_len, Nat.mul_add, Nat.mul_one]; omega
theorem xk2.tot_le {ms : List MapD} {rest rest' : List (Nat × List ByteArray)} (h : xk2 ms rest rest') : (ms.map MapD.w).sum + tot rest' <= tot rest := by
 induction ms generalizing rest with
 | nil => subst h; simp
 | cons m ms ih =>
   obtain ⟨r, h1, h2⟩ := h; have := ih h2; have := h1.tot_le; simp only [List.map_cons, List.sum_cons]; omega
theorem xk2.all {ms : List MapD} {rest rest' : List (Nat × List ByteArray)} (h : xk2 ms rest rest') : ∀ m ∈ ms, ∃ r r', MapS r m.R m.C m.rs r' := by
 induction ms generalizing rest with
 | nil => intro m hm; simp at hm
 | cons m ms ih =>
   obtain ⟨r, h1, h2⟩ := h; intro m' hm
   rcases List.mem_cons.1 hm with rfl | hm
   . exact ⟨_, _, h1⟩
   . exact ih h2 m' hm
theorem lnsF_tot (t : Nat) (L : List ByteArray) : tot (lnsF t L) <= (L.map fun l => l.size + 1).sum := by
 induction L generalizing t with
 | nil => simp [lnsF, tot]
 | cons x xs ih =>
   have h1 := ih (t + 1); have h2 := words_len x; rw [lnsF]; simp only [List.map_cons, List.sum_cons]
   split
   . omega
   . rw [tot_cons]
     show (xj7 x).length + _ <= _
     omega
theorem cutL_sum (c : UInt8) : ∀ l : List UInt8, ((cutL c l).map fun p => p.length + 1).sum = l.length + 1
 | [] => by simp [cutL]
 | x :: xs => by
   have h := cutL_sum c xs; unfold cutL
   split
   . simp only [List.map_cons, List.sum_cons, List.length_nil, List.length_cons, h]; omega
   . cases e : cutL c xs with
     | nil => exact absurd e (cutL_ne c xs)
     | cons p ps =>
       rw [e] at h; simp only [List.map_cons, List.sum_cons, List.length_cons] at h ⊢; omega
theorem pcs_sum (c : UInt8) (s : ByteArray) : ((pcs c s).map fun l => l.size + 1).sum = s.size + 1 := by
 have h := cutL_sum c s.data.toList; unfold pcs; rw [List.map_map]; rw [<- Lib.size_eq] at h; rw [<- h]
 congr 1
theorem canR_lim {N k : Nat} (h : N < 2 ^ (32 * k)) : (canR N).1 <= k := by
  obtain ⟨p, hp⟩ : ∃ p, LimbsOf N p := ⟨_, canR_ok N⟩
  obtain ⟨e1, -, -⟩ := canR_of hp
  rw [e1]
  rcases Nat.eq_zero_or_pos p.1 with h0 | h0
  · omega
  · have h1 := lv_ge p.2 p.1 h0 (hp.2.1 h0)
    rw [hp.2.2] at h1
    have h2 := Nat.lt_of_le_of_lt h1 h
    have h3 := (Nat.pow_lt_pow_iff_right (show 1 < 2 by omega)).1 h2
    omega
theorem pow_400 : 10 ^ 400 < 2 ^ (32 * 42) := by decide +kernel
theorem le_sum_of {x : Nat} : ∀ {l : List Nat}, x ∈ l -> x <= l.sum
 | [], h => by simp at h
 | y :: ys, h => by
   rw [List.sum_cons]
   rcases List.mem_cons.1 h with rfl | h
   . omega
   . have := le_sum_of h; omega
theorem numD_lim {x : ByteArray} (h : xw0 x) : (numD x).n <= 42 /\ (numD x).m <= 42 := by
 obtain ⟨K, E, hK, hE, pw⟩ : ∃ K E, K = 42 ∧ E = 400 ∧ 10 ^ E < 2 ^ (32 * K) := ⟨42, 400, rfl, rfl, pow_400⟩
 unfold xw0 at h
 have key : (xq2 x).2.1 < 2 ^ (32 * K) /\ (xq2 x).2.2.1 < 2 ^ (32 * K) := by
  unfold xq2 at h ⊢; simp only at h ⊢
  split at h
  . cases h
  . rename_i h1
    split at h
    . cases h
    . rename_i h2
      split at h
      . cases h
      . rename_i h3
        simp only [if_neg h1, if_neg h2, if_neg h3]; simp only [Bool.not_eq_true', Bool.and_eq_false_iff, not_or, Bool.not_eq_false] at h1; simp only [not_or, Nat.not_lt] at h2; have b1 := dv_lim (x := pTop (runs x)) (k := (pTop (runs x)).size) (fun j hj => yq0 h1.1 j hj); have b2 := dv_lim (x := pBot (runs x)) (k := (pBot (runs x)).size) (fun j hj => yq0 h1.2 j hj); have p1 : 10 ^ (pTop (runs x)).size <= 10 ^ E := Nat.pow_le_pow_right (by omega) (by omega); have p2 : 10 ^ (pBot (runs x)).size <= 10 ^ E := Nat.pow_le_pow_right (by omega) (by omega); have := pw; have d1 := Nat.div_le_self (dv (pTop (runs x)) (pTop (runs x)).size) (Nat.gcd (dv (pTop (runs x)) (pTop (runs x)).size) (dv (pBot (runs x)) (pBot (runs x)).size)); have d2 := Nat.div_le_self (dv (pBot (runs x)) (pBot (runs x)).size) (Nat.gcd (dv (pTop (runs x)) (pTop (runs x)).size) (dv (pBot (runs x)) (pBot (runs x)).size)); exact ⟨Nat.lt_of_le_of_lt d1 (Nat.lt_trans (Nat.lt_of_lt_of_le b1 p1) this), Nat.lt_of_le_of_lt d2 (Nat.lt_trans (Nat.lt_of_lt_of_le b2 p2) this)⟩
 rw [← hK]; exact ⟨canR_lim key.1, canR_lim key.2⟩
theorem szR_num {l : List ByteArray} {n : Nat} (h : ∀ i, i < n -> xw0 (wd l i)) : szR (numF l) n <= 84 * n := by
 induction n with
 | zero => simp [szR]
 | succ n ih =>
   have h1 := ih (fun i hi => h i (by omega)); have h2 := numD_lim (h n (by omega)); rw [szR_succ]; have e : numF l n = numD (wd l n) := rfl; rw [e]; omega
theorem WL_ok {C : Nat} {rs : List (Nat × List ByteArray)} (h : ∀ r ∈ rs, rowOk C r.2) : ∀ x ∈ WL C rs, xw0 x := fun x hx => by
 unfold WL at hx; obtain ⟨r, hr, hx⟩ := List.mem_flatMap.1 hx; obtain ⟨i, hi, e⟩ := List.getElem_of_mem hx; have hl := h r hr; rw [List.length_take] at hi; have := hl.2.2 i (by omega); unfold wd at this; rw [List.getD_eq_getElem?_getD, List.getElem?_eq_getElem (by omega)] at this; rw [<- e, List.getElem_take]; exact this
theorem BL_ok {C : Nat} {rs : List (Nat × List ByteArray)} (h : ∀ r ∈ rs, rowOk C r.2) : ∀ x ∈ BL C rs, xw0 x := fun x hx => by
 unfold BL at hx; obtain ⟨r, hr, rfl⟩ := List.mem_map.1 hx; exact (h r hr).2.2 C (by omega)
theorem wd_mem {l : List ByteArray} {i : Nat} (h : i < l.length) : wd l i ∈ l := by
 unfold wd; rw [List.getD_eq_getElem?_getD, List.getElem?_eq_getElem h]; exact List.getElem_mem h
theorem MapS.size {m : MapD} {r r' : List (Nat × List ByteArray)} (h : MapS r m.R m.C m.rs r') : m.A.size <= 85 * m.w := by
 have h1 := szR_num (l := WL m.C m.rs) (n := (WL m.C m.rs).length) (fun i hi => WL_ok h.rows _ (wd_mem hi)); have h2 := szR_num (l := BL m.C m.rs) (n := (BL m.C m.rs).length) (fun i hi => BL_ok h.rows _ (wd_mem hi))
 show (WL m.C m.rs).length + szR (numF (WL m.C m.rs)) (WL m.C m.rs).length + ((BL m.C m.rs).length + szR (numF (BL m.C m.rs)) (BL m.C m.rs).length) <= 85 * m.w
 unfold MapD.w; omega
theorem szA_maps {ms : List MapD} (h : ∀ m ∈ ms, m.A.size <= 85 * m.w) : szA (mapA ms) ms.length <= 85 * (ms.map MapD.w).sum := by
 have key : ∀ k, k <= ms.length -> szA (mapA ms) k <= 85 * ((ms.take k).map MapD.w).sum := fun k => by
  induction k with
  | zero => intro _; simp [szA]
  | succ k ih =>
    intro hk; have h1 := ih (by omega); have e : mD ms k = ms[k] := by unfold mD; rw [List.getD_eq_getElem?_getD, List.getElem?_eq_getElem (by omega)]; rfl
    have h2 := h ms[k] (List.getElem_mem _); have e2 : szA (mapA ms) (k + 1) = szA (mapA ms) k + (mapA ms k).size := rfl; have e3 : (mapA ms k).size = ms[k].A.size := by show (mD ms k).A.size = _; rw [e]
    rw [List.take_add_one, List.getElem?_eq_getElem (by omega)]; simp only [Option.toList, List.map_append, List.sum_append, List.map_cons, List.map_nil, List.sum_cons, List.sum_nil]; omega
 have := key ms.length (Nat.le_refl _); rw [List.take_length] at this; exact this
theorem NetS.lims {s : ByteArray} {ms : List MapD} (hs : s.size <= 100000) (h : NetS (lnsF 0 (pcs 10 s)) ms) : szA (mapA ms) ms.length <= 8500085 /\ ms.length <= 999999 /\ ∀ i, i < ms.length -> ((mD ms i).R <= 1000000 /\ (mD ms i).C <= 1000000) /\ (WL (mD ms i).C (mD ms i).rs).length <= 100001 /\ (BL (mD ms i).C (mD ms i).rs).length <= 100001 := by
 obtain ⟨n0, x1, r, e, i1, hl, hm⟩ := h; have h1 := lnsF_tot 0 (pcs 10 s); rw [pcs_sum] at h1; have h2 := hm.tot_le; rw [e, tot_cons] at h1; have h3 := szA_maps (fun m hm' => by obtain ⟨r, r', h⟩ := hm.all m hm'; exact h.size); have h4 := xw7 i1; refine ⟨by omega, by omega, fun i hi => ?_⟩
 have hmem : mD ms i ∈ ms := by
  unfold mD; rw [List.getD_eq_getElem?_getD, List.getElem?_eq_getElem hi]; exact List.getElem_mem hi
 obtain ⟨q, q', hq⟩ := hm.all _ hmem; obtain ⟨_, y1, y2, -, j1, j2, k1, k2⟩ := hq.ex; have l1 := xw7 j1; have l2 := xw7 j2; have hw : (mD ms i).w <= (ms.map MapD.w).sum := le_sum_of (List.mem_map.2 ⟨_, hmem, rfl⟩); unfold MapD.w at hw; refine ⟨⟨by omega, by omega⟩, ?_, ?_⟩ <;> (unfold MapD.w at *; omega)
theorem yq4 {fn : Func} {p q : Tmp} (h : fn.results = #[.cell p 24, .cell q 3]) (tmps : Array Value) (w : World) (c d : Nat) (x y : Value)
 (hp : tmps.getD p undef = .pointer (some ⟨c, 0, none⟩)) (hq : tmps.getD q undef = .pointer (some ⟨d, 0, none⟩)) (B : Box1 w c x) (D : Box1 w d y) : (results fn tmps).run Tryz.prog w = .ok (.tuple #[.agg #[x], y]) w := by
 have hp' : tmps[p]?.getD undef = .pointer (some ⟨c, 0, none⟩) := by simpa using hp
 have hq' : tmps[q]?.getD undef = .pointer (some ⟨d, 0, none⟩) := by simpa using hq
 have hl := run_loadVar_mid (P := Tryz.prog) w c 0 24 [x] _ (fun j v hv => by
  rcases j with _ | j
  . simp at hv; subst hv; exact B.c0
  . simp at hv) Tryz.underlying24 rfl size_net
 have d0 := D.c0; have hl2 : (loadVar 3 ⟨d, 0, none⟩).run Tryz.prog w = .ok y w   := by simp [go_sem, d0]
 simp [results, h, hp', hq', asAddr, hl, hl2]
theorem But.c {c : Nat} {w w' : World} (B : But c w w') : Chg (fun q => q = c) w w' := ⟨B.os, B.tape, B.output, B.size, fun q hq hn => B.block q hq (by simpa using hn)⟩
theorem yq9 {w w1 w' : World} {B : Nat} {R : Nat -> Prop} (s : w.Since B w1) (hB : B <= w.heap.size) (h : Chg R w1 w') (hn : ∀ q, q < B -> ¬ R q) : w.Since B w' :=
 ⟨h.os.trans s.os, h.tape.trans s.tape, h.output.trans s.output, Nat.le_trans s.size h.size, fun q hq => (h.block q (by have := s.size; omega) (hn q hq)).trans (s.block q hq)⟩
def RnE (w w' : World) (s : ByteArray) (e : Ending) : Prop :=
 (100000 < s.size /\ e = .returned (.tuple #[.agg #[.slice none 0 0], .int .i64 1])) ∨
 (s.size <= 100000 /\ (∀ ms, ¬ NetS (lnsF 0 (pcs 10 s)) ms) /\ e = .returned (.tuple #[.agg #[.slice none 0 0], .int .i64 2])) ∨
 (s.size <= 100000 /\ ∃ ms, NetS (lnsF 0 (pcs 10 s)) ms /\ ¬ NetP ms.length (mapA ms) /\ e = .returned (.tuple #[.agg #[.slice none 0 0], .int .i64 3])) ∨
 (s.size <= 100000 /\ ∃ ms v xs zs, NetS (lnsF 0 (pcs 10 s)) ms /\ NetP ms.length (mapA ms) /\ e = .returned (.tuple #[.agg #[v], .int .i64 0]) /\ OutA w' w.heap.size v ms.length (mD ms) xs zs /\ ∃ hi, Apt w.heap.size hi zs.flatten)
theorem xw8 (s : ByteArray) (w : World) (hs : s.size <= 9223372036854775807) :
 Calls Tryz.prog 7 #[.string s] w fun e w' => w.Since w.heap.size w' /\ RnE w w' s e := by
 have hmf : ∀ (fn : Fn) (first cap : Array Value) (w : World), (Instr.makeFunc fn first cap).run Tryz.prog w = .ok (.func fn first cap) w := fun _ _ _ _ => rfl
 have sA := sal w (.cells #[.slice none 0 0] 24); have sB : (w.alloc (.cells #[.slice none 0 0] 24)).Since (w.alloc (.cells #[.slice none 0 0] 24)).heap.size ((w.alloc (.cells #[.slice none 0 0] 24)).alloc (.cells #[.int .i64 0] 3)) := (World.Since.refl _ _).alloc (Nat.le_refl _) _; have bA := (Box1.new w (.slice none 0 0) 24).keep sB; have bB := Box1.new (w.alloc (.cells #[.slice none 0 0] 24)) (.int .i64 0) 3; have ZB : ((w.alloc (.cells #[.slice none 0 0] 24)).alloc (.cells #[.int .i64 0] 3)).heap.size = w.heap.size + 2 := by simp
 have ZA : (w.alloc (.cells #[.slice none 0 0] 24)).heap.size = w.heap.size + 1 := by simp
 rw [ZA] at bB; have SB : w.Since w.heap.size ((w.alloc (.cells #[.slice none 0 0] 24)).alloc (.cells #[.int .i64 0] 3)) := sA.trans (sM sB sA.size); clear sA sB; have a0 := bA.c0; have fa := bA.f 0; have b0 := bB.c0; have fb := bB.f 0
 by_cases hlong : 100000 < s.size
 . have hzl : (100000 : Int) < (s.size : Int) := by omega
   go_enter_defers Tryz.func7, Tryz.ntmps7
   go_wp2_with fail; have e1 := Box1.new w (.slice none 0 0) 24; have sC : (w.alloc (.cells #[.slice none 0 0] 24)).Since (w.alloc (.cells #[.slice none 0 0] 24)).heap.size ((w.alloc (.cells #[.slice none 0 0] 24)).alloc (.cells #[.int .i64 1] 3)) := (World.Since.refl _ _).alloc (Nat.le_refl _) _; have e2 := Box1.new (w.alloc (.cells #[.slice none 0 0] 24)) (.int .i64 1) 3; rw [ZA] at e2; refine ⟨_, yq4 rfl _ _ _ _ _ _ rfl rfl (e1.keep sC) e2, ((World.Since.refl _ _).alloc (Nat.le_refl _) _).alloc (by simp) _, Or.inl ⟨hlong, rfl⟩⟩
 have hzl : ¬ (100000 : Int) < (s.size : Int) := by omega
 have hle : s.size <= 100000 := by omega
 go_enter_defers Tryz.func7, Tryz.ntmps7
 go_wp2_with fail; generalize (w.alloc (.cells #[.slice none 0 0] 24)).alloc (.cells #[.int .i64 0] 3) = wB at *; clear a0 fa b0 fb; refine (readerOf_q s wB hle).mono ?_; rintro e w1 ⟨c, bl, rfl, R1, hc, s1⟩; have S1 := SB.trans (sM s1 SB.size); have bA1 := bA.keep s1; have bB1 := bB.keep s1; go_wp2_with fail; refine (takeNet_q c bl bl 0 (pcs 10 s) [] w1 R1).mono ?_; rintro e w2 ⟨B2, ⟨hno, n, rfl⟩ | ⟨ms, v, xs, zs, hnet, rfl, O2, hi9, ap2⟩⟩
 . unfold xx7
   go_wp2_with fail; have bA2 := bA1.but B2 (by omega); have bB2 := bB1.but B2 (by omega); refine leaves_cons (f := 23) (args := #[.pointer (some ⟨w.heap.size, 0, none⟩), .pointer (some ⟨w.heap.size + 1, 0, none⟩)]) (by simp) (by simp [go_sem]) ?_; refine (caught_panics w.heap.size (w.heap.size + 1) _ _ n w2 bA2 bB2 (by omega)).mono ?_; rintro e u' w3 ⟨rfl, rfl, b3, d3, C3⟩; have S2 := yq9 S1 (Nat.le_refl _) B2.c (fun q hq e => by have := SB.size; omega); have S3 := yq9 S2 (Nat.le_refl _) C3 (fun q hq e => by omega); exact ⟨_, yq4 rfl _ _ _ _ _ _ rfl rfl b3 d3, S3, Or.inr (Or.inl ⟨hle, hno, rfl⟩)⟩
 obtain ⟨L1, L2, L3⟩ := NetS.lims hle hnet; have S2 := yq9 S1 (Nat.le_refl _) B2.c (fun q hq e => by have := SB.size; omega); have bA2 := bA1.but B2 (by omega); have bB2 := bB1.but B2 (by omega); obtain ⟨a, g, cap, rfl, -, -⟩ := O2.affs (fun i hi => (L3 i hi).1) (fun i hi => by have := (L3 i hi).2; omega); have f0 := bA2.f 0; have a0 := bA2.c0; have hz1 : w.heap.size < w1.heap.size := by have := s1.size; omega
 have BS : But w.heap.size w2 (w2.setCell ⟨w.heap.size, 0, none⟩ (.slice a ms.length cap)) := (But.refl _ w2).set 0 _; have bA3 : Box1 (w2.setCell ⟨w.heap.size, 0, none⟩ (.slice a ms.length cap)) w.heap.size (.slice a ms.length cap) := ⟨World.cell?_setCell_same _ _ _ a0, fun q => by simpa using bA2.f q⟩; have bB3 := bB2.but BS (by omega); have O3 := O2.but BS hz1; have S3 := yq9 S2 (Nat.le_refl _) BS.c (fun q hq e => by omega); obtain ⟨a', g, cap', e', -, AF⟩ := O3.affs (fun i hi => (L3 i hi).1) (fun i hi => by have := (L3 i hi).2; omega); obtain ⟨rfl, rfl⟩ : a' = a /\ cap' = cap := by simp at e'; exact ⟨e'.1.symm, e'.2.symm⟩
 clear e'; have HN := hide hnet; have HAP : Hid (Apt w.heap.size hi9 zs.flatten) := hide (ap2.wide (by have := SB.size; have := s1.size; omega) (Nat.le_refl _)); clear hnet ap2; have a3 := bA3.c0; go_wp2_with fail; generalize w2.setCell ⟨w.heap.size, 0, none⟩ (.slice a' ms.length cap') = w3 at *; refine (implNetOk_any a' 0 g 0 ms.length cap' (mapA ms) w3 (Nat.zero_le _) trivial (by omega) (by omega) AF).mono ?_; rintro e w4 ⟨r, rfl, i4, s4⟩; have bA4 := bA3.keep s4; have bB4 := bB3.keep s4; have O4 := O3.keep s4; have S4 := S3.trans (sM s4 S3.size); have I4 := hide i4; clear i4 f0 a0 a3; have f0 := bA4.f 0; have a0 := bA4.c0; have e0 := bB4.f 0; have d0 := bB4.c0; cases r
 . have BT : But w.heap.size w4 (w4.setCell ⟨w.heap.size, 0, none⟩ (.slice none 0 0)) := (But.refl _ w4).set 0 _
   have bA5 : Box1 (w4.setCell ⟨w.heap.size, 0, none⟩ (.slice none 0 0)) w.heap.size (.slice none 0 0) := ⟨World.cell?_setCell_same _ _ _ a0, fun q => by simpa using bA4.f q⟩; have bB5 := bB4.but BT (by omega); have e1 := bB5.f 0; have d1 := bB5.c0; have BU : But (w.heap.size + 1) (w4.setCell ⟨w.heap.size, 0, none⟩ (.slice none 0 0)) ((w4.setCell ⟨w.heap.size, 0, none⟩ (.slice none 0 0)).setCell ⟨w.heap.size + 1, 0, none⟩ (.int .i64 3)) := (But.refl _ _).set 0 _; have bA6 := bA5.but BU (by omega); have bB6 : Box1 ((w4.setCell ⟨w.heap.size, 0, none⟩ (.slice none 0 0)).setCell ⟨w.heap.size + 1, 0, none⟩ (.int .i64 3)) (w.heap.size + 1) (.int .i64 3) := ⟨World.cell?_setCell_same _ _ _ d1, fun q => by simpa using bB5.f q⟩; have S6 := yq9 (yq9 S4 (Nat.le_refl _) BT.c (fun q hq e => by omega)) (Nat.le_refl _) BU.c (fun q hq e => by omega); go_wp2_with fail; refine leaves_cons (f := 23) (args := #[.pointer (some ⟨w.heap.size, 0, none⟩), .pointer (some ⟨w.heap.size + 1, 0, none⟩)]) (by simp) (by simp [go_sem]) ?_; refine (caught_idle w.heap.size (w.heap.size + 1) _).mono ?_; rintro e u' w'' ⟨rfl, rfl, rfl⟩; exact ⟨_, yq4 rfl _ _ _ _ _ _ rfl rfl bA6 bB6, S6, Or.inr (Or.inr (Or.inl ⟨hle, ms, HN.out, (fun h => by have := I4.out.2 h; simp at this), rfl⟩))⟩
 . have BT : But w.heap.size w4 (w4.setCell ⟨w.heap.size, 0, none⟩ (.slice a' ms.length cap')) := (But.refl _ w4).set 0 _
   have bA5 : Box1 (w4.setCell ⟨w.heap.size, 0, none⟩ (.slice a' ms.length cap')) w.heap.size (.slice a' ms.length cap') := ⟨World.cell?_setCell_same _ _ _ a0, fun q => by simpa using bA4.f q⟩; have bB5 := bB4.but BT (by omega); have e1 := bB5.f 0; have d1 := bB5.c0; have BU : But (w.heap.size + 1) (w4.setCell ⟨w.heap.size, 0, none⟩ (.slice a' ms.length cap')) ((w4.setCell ⟨w.heap.size, 0, none⟩ (.slice a' ms.length cap')).setCell ⟨w.heap.size + 1, 0, none⟩ (.int .i64 0)) := (But.refl _ _).set 0 _; have bA6 := bA5.but BU (by omega); have bB6 : Box1 ((w4.setCell ⟨w.heap.size, 0, none⟩ (.slice a' ms.length cap')).setCell ⟨w.heap.size + 1, 0, none⟩ (.int .i64 0)) (w.heap.size + 1) (.int .i64 0) := ⟨World.cell?_setCell_same _ _ _ d1, fun q => by simpa using bB5.f q⟩; have S6 := yq9 (yq9 S4 (Nat.le_refl _) BT.c (fun q hq e => by omega)) (Nat.le_refl _) BU.c (fun q hq e => by omega); have O6 := (O4.but BT hz1).but BU (by have := s1.size; omega); go_wp2_with fail; refine leaves_cons (f := 23) (args := #[.pointer (some ⟨w.heap.size, 0, none⟩), .pointer (some ⟨w.heap.size + 1, 0, none⟩)]) (by simp) (by simp [go_sem]) ?_; refine (caught_idle w.heap.size (w.heap.size + 1) _).mono ?_; rintro e u' w'' ⟨rfl, rfl, rfl⟩; exact ⟨_, yq4 rfl _ _ _ _ _ _ rfl rfl bA6 bB6, S6, Or.inr (Or.inr (Or.inr ⟨hle, ms, _, xs, zs, HN.out, I4.out.1 (by simp), rfl, O6.lower (by omega), hi9, HAP.out⟩))⟩
section
variable {w w' : World} {p : Nat -> Prop} {c i K K' b off : Nat} {v0 v1 : Value} {aW aB : Option Addr} {gW nW cW gB nB cB : Nat} {pW pB : Nat -> Nat -> Prop} {kW kB : Nat -> Nat} {f : Bool} {g h : Nat} {a1 : Option Addr} {n1 k1 : Nat} {a2 : Option Addr} {n2 k2 : Nat} {X Y : Nat -> Nat}
end
def RetB (w : World) (P : Prop) (e : Ending) (w' : World) : Prop := ∃ r : Bool, e = .returned (.bool r) /\ (r = true ↔ P) /\ w.Since w.heap.size w'
theorem RetB.yes {w w' : World} {P : Prop} (h : P) (s : w.Since w.heap.size w') : RetB w P (.returned (.bool true)) w' := ⟨true, rfl, by simp [h], s⟩
theorem RetB.no {w w' : World} {P : Prop} (h : ¬ P) (s : w.Since w.heap.size w') : RetB w P (.returned (.bool false)) w' := ⟨false, rfl, by simp [h], s⟩
theorem l2IsInt_q (x : ByteArray) (w : World) (hx : x.size <= 100000) :
 Calls Tryz.prog 51 #[.string x] w fun e w' => RetB w (yz1 x) e w' := by
 go_enter Tryz.func51, Tryz.ntmps51; go_wp2_with fail; refine (l1Digits_any x w (by omega)).mono ?_; rintro e w1 ⟨rfl, sm⟩; have s1 : w.Since w.heap.size w1 := sm.since _; cases hd : digB x
 . have HD := hide hd
   clear hd; go_wp2; go_ret; exact ⟨_, rfl, by unfold yz1; rw [HD.out]; simp, s1⟩
 . have HD := hide hd
   clear hd; go_wp2; go_ret; exact ⟨_, rfl, by unfold yz1; rw [HD.out]; simp; omega, s1⟩
theorem dv_congr {x y : ByteArray} {k : Nat} (h : ∀ j, j < k -> bt x j = bt y j) : dv x k = dv y k := by
 induction k with
 | zero => rfl
 | succ k ih => rw [dv, dv, ih (fun j hj => h j (by omega)), h k (by omega)]
theorem l2Int_q : ∀ (n : Nat) (x : ByteArray) (w : World), x.size = n -> n <= 6 -> (∀ j, j < n -> 48 <= bt x j /\ bt x j <= 57) ->
 Calls Tryz.prog 21 #[.string x] w fun e w' => e = .returned (.int .i64 ((dv x n : Nat) : Int)) /\ w.Since w.heap.size w' := by
 intro n
 induction n with
 | zero =>
   intro x w hx _ _; have hz : (x.size : Int) = 0 := by omega
   go_enter Tryz.func21, Tryz.ntmps21; go_wp2; go_ret; exact ⟨by simp [dv], World.Since.refl _ _⟩
 | succ n ih =>
   intro x w hx hn hd; have dr := sdr w; have hxs := yj8 x (i := 0) (j := n) (Nat.zero_le _) (by omega); have J := ih (x.extract 0 n) w.drew (by omega) (by omega) (fun j hj => by rw [bt_ext x (by omega), Nat.zero_add]; exact hd j (by omega)); have HE : dv (x.extract 0 n) n = dv x n := dv_congr (fun j hj => by rw [bt_ext x (by omega), Nat.zero_add]); rw [HE] at J; have hln : n < x.size := by omega
   have hb := bt_in hln; have hxd := hd n (by omega); obtain ⟨y, hy⟩ : ∃ y, bt x n = y + 48 := ⟨bt x n - 48, by omega⟩; have HS : Hid (dv x (n + 1) = dv x n * 10 + y) := hide (by rw [dv, hy, Nat.add_sub_cancel]); rw [hy] at hb hxd
   have hdl : dv x n <= 1000000 := by
    have h1 := dv_lim (x := x) (k := n) (fun j hj => hd j (by omega)); have h2 : 10 ^ n <= 10 ^ 6 := Nat.pow_le_pow_right (by omega) (by omega); omega
   obtain ⟨V, hV⟩ : ∃ V, dv x n = V := ⟨_, rfl⟩; rw [hV] at hdl HS J; have hw2 : ((y + 48 : Nat) : Int) - 48 = (y : Int) := by omega
   have hw3 : (y : Int) + 48 - 48 = (y : Int) := by omega
   have hw1 : IntKind.u8.wrap (y : Int) = (y : Int) := by have := u8_sub (y + 48) (by omega) (by omega); rw [hw2] at this; rw [this]; omega
   have hw4 : IntKind.i64.wrap ((V : Int) * 10) = (V : Int) * 10 := by rw [IntKind.wrap_i64]; omega
   have hw5 : IntKind.i64.wrap (y : Int) = (y : Int) := by rw [IntKind.wrap_i64]; omega
   have hw6 : IntKind.i64.wrap ((V : Int) * 10 + (y : Int)) = (V : Int) * 10 + (y : Int) := by rw [IntKind.wrap_i64]; omega
   have hz : ¬ (x.size : Int) = 0 := by omega
   have hz1 : IntKind.i64.wrap ((x.size : Int) - 1) = (n : Int) := by rw [IntKind.wrap_i64]; omega
   have hle : n <= x.size := by omega
   have hle' : (n : Int) <= (x.size : Int) := by omega
   have hnn : ¬ ((x.size : Int) < (n : Int)) := by omega
   have hn0 : ¬ ((n : Int) < 0) := by omega
   have HX := hide hx; clear hy hV HE ih hx; go_enter Tryz.func21, Tryz.ntmps21; go_wp2_with fail
   go_region_held_law (fun _ => True) (go_keep)
    (first
      | (go_at_call 21
         with_reducible refine J.mono ?_
         rintro e w2 ⟨rfl, s2⟩; have v2 := dr.trans (sM s2 dr.size)))
   all_goals
    go_wp2; go_ret; exact ⟨by rw [HS.out]; simp, v2⟩
theorem l2Int_d (x : ByteArray) (w : World) (h : yz1 x) :
 Calls Tryz.prog 21 #[.string x] w fun e w' => e = .returned (.int .i64 ((dv x x.size : Nat) : Int)) /\ w.Since w.heap.size w' :=
 l2Int_q x.size x w rfl h.2 (fun j hj => yq0 h.1 j hj)
theorem l2IsNum_q (x : ByteArray) (w : World) (hx : x.size <= 100000) :
 Calls Tryz.prog 52 #[.string x] w fun e w' => RetB w (xw0 x) e w' := by
 have J := specRatParse_any x w (by omega); have HN : xw0 x ↔ (xq2 x).2.2.2 = 0 := Iff.rfl; obtain ⟨c, hc⟩ : ∃ c, (xq2 x).2.2.2 = c := ⟨_, rfl⟩; rw [hc] at J HN; clear hc; go_enter Tryz.func52, Tryz.ntmps52; go_wp2_with fail; refine J.mono ?_; rintro e w1 ⟨v, rfl, ⟨v1, v2, g1, g2, rfl, N1, N2, -⟩, s1⟩; obtain ⟨a1, q1, c1, Y1, rfl, -⟩ := N1; obtain ⟨a2, q2, c2, Y2, rfl, -⟩ := N2; have sB := sal w1 (.cells #[.bool (xq2 x).1, .slice a1 q1 c1, .slice a2 q2 c2] 61); have SB := s1.trans (sM sB s1.size); go_wp2; go_ret; exact ⟨_, rfl, by rw [HN]; simp, SB⟩
theorem l2Num_q (x : ByteArray) (w : World) (hx : x.size <= 100000) :
 Calls Tryz.prog 32 #[.string x] w fun e w' => ∃ v, e = .returned v /\ WordR w' (fun g => w.heap.size <= g) v x /\ w.Since w.heap.size w' := by
 have sA := sal w (.cells #[.bool false, .slice none 0 0, .slice none 0 0] 61); have rA := Box3.new w (.bool false) (.slice none 0 0) (.slice none 0 0) 61; have zA : Hid ((w.alloc (.cells #[.bool false, .slice none 0 0, .slice none 0 0] 61)).heap.size = w.heap.size + 1) := hide (by simp); go_enter Tryz.func32, Tryz.ntmps32; go_wp2_with fail; generalize w.alloc (.cells #[.bool false, .slice none 0 0, .slice none 0 0] 61) = wA at *; refine (specRatParse_any x wA (by omega)).mono ?_; rintro e w1 ⟨v, rfl, RV, s1⟩; have W1 := RV.w; obtain ⟨v1, v2, g1, g2, rfl, N1, N2, -, -, -⟩ := RV; obtain ⟨a1, q1, c1, Y1, rfl, -⟩ := N1; obtain ⟨a2, q2, c2, Y2, rfl, -⟩ := N2; have W1 : WordR w1 (fun q => wA.heap.size <= q) (.agg #[.bool (xq2 x).1, .slice a1 q1 c1, .slice a2 q2 c2]) x := W1; obtain ⟨nb, hnb⟩ : ∃ b, (xq2 x).1 = b := ⟨_, rfl⟩; rw [hnb] at W1 ⊢; have S1 := sA.trans (sM s1 sA.size); have sB := sal w1 (.cells #[.bool nb, .slice a1 q1 c1, .slice a2 q2 c2] 61); have SB := S1.trans (sM sB S1.size); have W2 : WordR (w1.alloc (.cells #[.bool nb, .slice a1 q1 c1, .slice a2 q2 c2] 61)) (fun q => wA.heap.size <= q) (.agg #[.bool nb, .slice a1 q1 c1, .slice a2 q2 c2]) x := RatW.keep W1 sB; have nB := Box3.new w1 (.bool nb) (.slice a1 q1 c1) (.slice a2 q2 c2) 61; have r := (rA.keep s1).keep sB; have r0 := r.c0; have r1 := r.c1; have r2 := r.c2; have f0 := r.f 0; have f1 := r.f 1; have f2 := r.f 2; have n0 := nB.c0; have n1 := nB.c1; have n2 := nB.c2; clear hnb; go_wp2; have rC := ((r.set0 (.bool nb)).set1 (.slice a1 q1 c1)).set2 (.slice a2 q2 c2); refine bodyPost_ret (rb3 rfl _ _ _ _ _ _ rfl rC) rfl ?_; have M : xq0 (w1.alloc (.cells #[.bool nb, .slice a1 q1 c1, .slice a2 q2 c2] 61)) _ w.heap.size := (((xq0.refl _ _).setCell 0 (.bool nb)).setCell 1 (.slice a1 q1 c1)).setCell 2 (.slice a2 q2 c2); have zA' := zA.out; exact ⟨_, rfl, RatW.imp (RatW.blocks W2 (Nat.le_of_eq M.size.symm) (fun g hg hp => M.other g (by omega))) (fun g _ h => by omega), SB.trans (M.since (by omega))⟩
def shapeOk (ws : List ByteArray) (nm : ByteArray) (ints least : Nat) (most : Int) : Prop :=
 ws.head? = some nm /\ 1 + ints + least <= ws.length /\ (0 <= most -> (ws.length : Int) <= 1 + ints + most) /\ ∀ i, 1 <= i -> i < ws.length -> (i <= ints -> yz1 (wd ws i)) /\ (ints < i -> xw0 (wd ws i))
theorem wd_get {ws : List ByteArray} {i : Nat} (h : i < ws.length) : ws[i]? = some (wd ws i) := by
 unfold wd; rw [List.getD_eq_getElem?_getD, List.getElem?_eq_getElem h]; rfl
theorem l2Shape_q (nm : ByteArray) (ints least : Nat) (most : Int) (a : Option Addr) (wb off cap : Nat) (ws : List ByteArray) (w : World) (hc : ∀ (j : Nat) (x : ByteArray), ws[j]? = some x -> a = some ⟨wb, off, none⟩ /\ w.cell? ⟨wb, off + j, none⟩ = some (.string x)) (hz : ∀ x ∈ ws, x.size <= 100000) (h0 : 0 < ws.length) (hl : ws.length <= 100001)
 (hi : ints <= 10) (hle : least <= 10) (hm : -1 <= most) (hm' : most <= 10) :
 Calls Tryz.prog 19 #[.slice a ws.length cap, .string nm, .int .i64 (ints : Int), .int .i64 (least : Int), .int .i64 most] w fun e w' => RetB w (shapeOk ws nm ints least most) e w' := by
 have hx0 := wd_get h0; obtain ⟨rfl, c0⟩ := hc 0 _ hx0; have HC : Hid (∀ i, i < ws.length -> w.cell? ⟨wb, off + i, none⟩ = some (.string (wd ws i))) := hide (fun i hi => (hc i _ (wd_get hi)).2); have HZ : Hid (∀ i, i < ws.length -> (wd ws i).size <= 100000) := hide (fun i hi => hz _ (wd_mem hi)); have HH : Hid (ws.head? = some (wd ws 0)) := hide (by rw [<- hx0]; cases ws <;> rfl); have HS : Hid (∀ P : Prop, P = shapeOk ws nm ints least most -> P = (ws.head? = some nm /\ 1 + ints + least <= ws.length /\ (0 <= most -> (ws.length : Int) <= 1 + ints + most) /\ ∀ i, 1 <= i -> i < ws.length -> (i <= ints -> yz1 (wd ws i)) /\ (ints < i -> xw0 (wd ws i)))) := hide (fun P h => h); obtain ⟨x0, hx⟩ : ∃ x, wd ws 0 = x := ⟨_, rfl⟩; obtain ⟨L, hL⟩ : ∃ L, ws.length = L := ⟨_, rfl⟩; obtain ⟨SH, hSH⟩ : ∃ P, P = shapeOk ws nm ints least most := ⟨_, rfl⟩; have HS := hide (HS.out _ hSH); rw [<- hSH]; rw [hx] at c0 HH; rw [hL] at h0 hl HC HZ HS ⊢; clear hx0 hc hz hSH hx; have HL := hide hL; clear hL; rw [Nat.add_zero] at c0; have hL0 : (0 : Int) < (L : Int) := by omega
 by_cases hn : x0.toList = nm.toList
 rotate_left
 . have hbe : (x0.toList == nm.toList) = false := by simpa using hn
   have HN := hide (fun e : x0 = nm => hn (str_eq.2 e)); clear hn; go_enter Tryz.func19, Tryz.ntmps19; go_wp2; go_ret
   exact RetB.no (by
    rw [HS.out, HH.out]; exact fun h => HN.out (by simpa using h.1)) (World.Since.refl _ _)
 have hbe : (x0.toList == nm.toList) = true := by simpa using hn
 have HN := hide (str_eq.1 hn); clear hn
 by_cases h1 : L < 1 + ints + least
 . have h1' : (L : Int) < 1 + (ints : Int) + (least : Int) := by omega
   go_enter Tryz.func19, Tryz.ntmps19; go_wp2; go_ret
   exact RetB.no (by
    rw [HS.out]; exact fun h => by have := h.2.1; omega) (World.Since.refl _ _)
 have h1' : ¬ (L : Int) < 1 + (ints : Int) + (least : Int) := by omega
 have hmm : most = -1 ∨ (0 <= most /\ 1 + (ints : Int) + most < (L : Int)) ∨ (0 <= most /\ ¬ 1 + (ints : Int) + most < (L : Int)) := by omega
 rcases hmm with hm0 | ⟨hm0, hm1⟩ | ⟨hm0, hm1⟩
 rotate_left
 . go_enter Tryz.func19, Tryz.ntmps19
   go_wp2; go_ret
   exact RetB.no (by
    rw [HS.out]; exact fun h => by have := h.2.2.1 hm0; omega) (World.Since.refl _ _)
 rotate_left
 focus
  subst hm0; have HM : Hid ((0 : Int) <= -1 -> (L : Int) <= 1 + (ints : Int) + -1) := hide (fun h => absurd h (by decide))
 rotate_left
 focus
  have HM : Hid (0 <= most -> (L : Int) <= 1 + (ints : Int) + most) := hide (fun h => by omega)
 all_goals
  go_enter Tryz.func19, Tryz.ntmps19; go_wp2_with fail
  go_loopw [11] (fun i wr => ∃ (k : Nat), 1 <= k /\ k <= L /\ i = .int .i64 (k : Int) /\ w.Since w.heap.size wr /\ Hid (∀ i, 1 <= i -> i < k -> (i <= ints -> yz1 (wd ws i)) /\ (ints < i -> xw0 (wd ws i)))) (fun i _ => L - (intOf i).toNat)
  case atStart => exact ⟨1, Nat.le_refl _, by omega, rfl, World.Since.refl _ _, hide (fun i h1 h2 => absurd h1 (by omega))⟩
  case round =>
   obtain ⟨k, hk1, hkL, rfl, S, HK⟩ := hrel
   by_cases hlt : k < L
   . have hzk : (k : Int) < (L : Int) := by omega
     have ck : wr.cell? ⟨wb, off + k, none⟩ = some (.string (wd ws k)) := (S.cell (a := ⟨wb, off + k, none⟩) (World.block_lt_of_cell? _ _ (HC.out k hlt))).trans (HC.out k hlt); have hsz := HZ.out k hlt; obtain ⟨x, hx⟩ : ∃ x, wd ws k = x := ⟨_, rfl⟩; rw [hx] at ck hsz; have HX := hide hx; clear hx
     by_cases hki : k <= ints
     . have hk2 : (k : Int) <= (ints : Int) := by omega
       have hk3 : ¬ (ints : Int) < (k : Int) := by omega
       go_wp2_with fail; refine (l2IsInt_q x wr hsz).mono ?_; rintro e w2 ⟨r, rfl, ir, s2⟩; have S2 := S.trans (sM s2 S.size); have IR := hide ir; clear ir; cases r
       . go_wp2
         go_ret
         exact RetB.no (by
          rw [HS.out]
          exact fun h => by
           have h := h.2.2.2 k hk1 hlt; have := h.1 hki; rw [HX.out] at this; have := IR.out.2 this
           simp at this) S2
       . have HK2 : Hid (∀ i, 1 <= i -> i < k + 1 -> (i <= ints -> yz1 (wd ws i)) /\ (ints < i -> xw0 (wd ws i))) := hide (fun i h1 h2 => by
          by_cases e : i = k
          . subst e
            exact ⟨fun _ => by rw [HX.out]; exact IR.out.1 (by simp), fun h => absurd h (by omega)⟩
          . exact HK.out i h1 (by omega))
         go_wp2; go_roundw
         case rel => exact ⟨k + 1, by omega, by omega, by go_num, S2, HK2⟩
         case measure => simp [intOf]; omega
     . have hk2 : ¬ (k : Int) <= (ints : Int) := by omega
       have hk3 : (ints : Int) < (k : Int) := by omega
       go_wp2_with fail; refine (l2IsNum_q x wr hsz).mono ?_; rintro e w2 ⟨r, rfl, ir, s2⟩; have S2 := S.trans (sM s2 S.size); have IR := hide ir; clear ir; cases r
       . go_wp2
         go_ret
         exact RetB.no (by
          rw [HS.out]
          exact fun h => by
           have h := h.2.2.2 k hk1 hlt; have := h.2 (by omega); rw [HX.out] at this; have := IR.out.2 this
           simp at this) S2
       . have HK2 : Hid (∀ i, 1 <= i -> i < k + 1 -> (i <= ints -> yz1 (wd ws i)) /\ (ints < i -> xw0 (wd ws i))) := hide (fun i h1 h2 => by
          by_cases e : i = k
          . subst e
            exact ⟨fun h => absurd h (by omega), fun _ => by rw [HX.out]; exact IR.out.1 (by simp)⟩
          . exact HK.out i h1 (by omega))
         go_wp2; go_roundw
         case rel => exact ⟨k + 1, by omega, by omega, by go_num, S2, HK2⟩
         case measure => simp [intOf]; omega
   . have e : k = L := by omega
     subst e; have hzk : ¬ ((k : Int) < (k : Int)) := by omega
     go_wp2; go_ret
     exact RetB.yes (by
      rw [HS.out]; exact ⟨by rw [HH.out, HN.out], by omega, HM.out, HK.out⟩) S
theorem infoLine : ∃ i, Tryz.prog.info? 47 = some i /\ i.zero = some (.agg #[.int .i64 0, .slice none 0 0]) /\ i.size = 2 /\ i.bytes = 32 := by
 have h : (Tryz.prog.info? 47).map (fun i => (i.zero, i.size, i.bytes)) = some (some (.agg #[.int .i64 0, .slice none 0 0]), 2, 32) := by kernel_rfl
 obtain ⟨i, hi, h⟩ := Option.map_eq_some_iff.1 h; simp only [Prod.mk.injEq] at h; exact ⟨i, hi, h.1, h.2.1, h.2.2⟩
structure LinO (w : World) (lo : Nat) (v : Value) (ls : List (Nat × List ByteArray)) (xs : List Value) : Prop where
 own : w.ownsRow lo 47 2 v ls.length xs
 at_ : ∀ (j n : Nat) (ws : List ByteArray), ls[j]? = some (n, ws) -> ∃ g cap, xs[j * 2]? = some (.int .i64 (n : Int)) /\ xs[j * 2 + 1]? = some (.slice (some ⟨g, 0, none⟩) ws.length cap) /\ (∀ (i : Nat) (x : ByteArray), ws[i]? = some x -> w.cell? ⟨g, i, none⟩ = some (.string x)) /\ g < w.heap.size /\ v.ownBlock ≠ some g /\ ws.length <= cap
section
variable {w w' w1 : World} {lo : Nat} {v v' : Value} {ls : List (Nat × List ByteArray)} {xs : List Value}
theorem LinO.keep (h : LinO w lo v ls xs) (s : w.Since w.heap.size w') : LinO w' lo v ls xs := by
 refine ⟨yj0 h.own s, fun j n ws hj => ?_⟩; obtain ⟨g, cap, h1, h2, h3, h4, h5⟩ := h.at_ j n ws hj; exact ⟨g, cap, h1, h2, fun i x hx => (s.cell (a := ⟨g, i, none⟩) h4).trans (h3 i x hx), Nat.lt_of_lt_of_le h4 s.size, h5⟩
theorem LinO.snoc (h : LinO w lo v ls xs) (s1 : w.Since w.heap.size w1) (hs : w.heap.size < w1.heap.size) (g : w1.grownBy w' v.ownBlock) {n b cap : Nat} {ws : List ByteArray} (own : w'.ownsRow lo 47 2 v' (ls.length + 1) (xs ++ [.int .i64 (n : Int), .slice (some ⟨b, 0, none⟩) ws.length cap]))
 (hat : v'.ownBlock = v.ownBlock ∨ v'.ownBlock = some w1.heap.size) (hw : ∀ (i : Nat) (x : ByteArray), ws[i]? = some x -> w.cell? ⟨b, i, none⟩ = some (.string x)) (hb : b < w.heap.size) (hv : v.ownBlock ≠ some b) (hcap : ws.length <= cap) : LinO w' lo v' (ls ++ [(n, ws)]) (xs ++ [.int .i64 (n : Int), .slice (some ⟨b, 0, none⟩) ws.length cap]) := by
 have hl : xs.length = ls.length * 2 := h.own.1; have z := g.size
 have mv : ∀ {b : Nat} {ws : List ByteArray}, (∀ (i : Nat) (x : ByteArray), ws[i]? = some x -> w.cell? ⟨b, i, none⟩ = some (.string x)) -> b < w.heap.size -> v.ownBlock ≠ some b -> (∀ (i : Nat) (x : ByteArray), ws[i]? = some x -> w'.cell? ⟨b, i, none⟩ = some (.string x)) /\ b < w'.heap.size /\ v'.ownBlock ≠ some b := fun {b ws} hw hb hv => by
  have hk := (g.block b (by omega) (fun e => hv e.symm)).trans (s1.block b hb); refine ⟨fun i x hx => (World.cell?_of_block (a := ⟨b, i, none⟩) hk).trans (hw i x hx), by omega, fun e => ?_⟩
  rcases hat with h | h
  . exact hv (h.symm.trans e)
  . rw [e] at h; simp at h; omega
 refine ⟨by rw [List.length_append]; exact own, fun j m ws' hj => ?_⟩
 by_cases e : j = ls.length
 . subst e
   rw [List.getElem?_append_right (Nat.le_refl _), Nat.sub_self] at hj; simp only [List.getElem?_cons_zero, Option.some.injEq, Prod.mk.injEq] at hj; obtain ⟨rfl, rfl⟩ := hj; obtain ⟨a1, a2, a3⟩ := mv hw hb hv; refine ⟨b, cap, ?_, ?_, a1, a2, a3, hcap⟩
   . rw [List.getElem?_append_right (by omega), hl]; simp
   . rw [List.getElem?_append_right (by omega), hl]; simp
 . have hlt : j < ls.length := by
    have := (List.getElem?_eq_some_iff.1 hj).1; rw [List.length_append] at this
    simp at this
    omega
   rw [List.getElem?_append_left hlt] at hj; obtain ⟨g', cap', h1, h2, h3, h4, h5, h6⟩ := h.at_ j m ws' hj; obtain ⟨a1, a2, a3⟩ := mv h3 h4 h5; exact ⟨g', cap', by rw [List.getElem?_append_left (by omega)]; exact h1, by rw [List.getElem?_append_left (by omega)]; exact h2, a1, a2, a3, h6⟩
end
def LinL (w : World) (g : Nat) (ls : List (Nat × List ByteArray)) : Prop :=
 ∀ (j n : Nat) (ws : List ByteArray), ls[j]? = some (n, ws) -> w.cell? ⟨g, j * 2, none⟩ = some (.int .i64 (n : Int)) /\ ∃ q cap, w.cell? ⟨g, j * 2 + 1, none⟩ = some (.slice (some ⟨q, 0, none⟩) ws.length cap) /\ ws.length <= cap /\ ∀ (i : Nat) (x : ByteArray), ws[i]? = some x -> w.cell? ⟨q, i, none⟩ = some (.string x)
theorem LinL.keep {w w' : World} {g : Nat} {ls : List (Nat × List ByteArray)} (h : LinL w g ls) (s : w.Since w.heap.size w') : LinL w' g ls := fun j n ws hj => by
 obtain ⟨h1, q, cap, h2, h4, h3⟩ := h j n ws hj; exact ⟨(s.cell (a := ⟨g, j * 2, none⟩) (World.block_lt_of_cell? _ _ h1)).trans h1, q, cap, (s.cell (a := ⟨g, j * 2 + 1, none⟩) (World.block_lt_of_cell? _ _ h2)).trans h2, h4, fun i x hx => (s.cell (a := ⟨q, i, none⟩) (World.block_lt_of_cell? _ _ (h3 i x hx))).trans (h3 i x hx)⟩
theorem LinO.l {w : World} {lo g cap : Nat} {ls : List (Nat × List ByteArray)} {xs : List Value} (h : LinO w lo (.slice (some ⟨g, 0, none⟩) ls.length cap) ls xs) : LinL w g ls := fun j n ws hj => by
 have hc := @World.ownsRow.cells _ _ _ _ _ _ _ h.own; obtain ⟨q, c, h1, h2, h3, -, -, h4⟩ := h.at_ j n ws hj; have c1 := hc (g := g) rfl _ _ h1; have c2 := hc (g := g) rfl _ _ h2; rw [Go.WideShapes.add_plain, Nat.zero_add] at c1 c2; exact ⟨c1, q, c, c2, h4, h3⟩
theorem newL (w : World) (x y : Value) (t : TypeId) : ∀ j u, ([x, y] : List Value)[j]? = some u -> (w.alloc (.cells #[x, y] t)).cell? ((⟨w.heap.size, 0, none⟩ : Addr).add j) = some u := fun j u hu => by
 rw [Go.WideShapes.add_plain, Nat.zero_add]
 rcases j with _ | _ | j
 . simp at hu; subst hu; simp [go_sem]
 . simp at hu; subst hu; simp [go_sem]
 . simp at hu
theorem oneL (z : Int) (a : Option Addr) (n c : Nat) : ∀ u ∈ ([.int .i64 z, .slice a n c] : List Value), u.oneCell' = true := by
 intro u hu
 simp at hu
 rcases hu with rfl | rfl <;> rfl
theorem lnsF_take {P : List ByteArray} {k : Nat} {x : ByteArray} (h : P[k]? = some x) : lnsF 0 (P.take (k + 1)) = lnsF 0 (P.take k) ++ (if xj7 x = [] then [] else [(k + 1, xj7 x)]) := by
 have hk := (List.getElem?_eq_some_iff.1 h).1; rw [List.take_add_one, h, lnsF_append, List.length_take, Nat.min_eq_left (by omega), Nat.zero_add]; simp only [Option.toList, lnsF]
def LinesE (w w' : World) (P : List ByteArray) (e : Ending) : Prop :=
 ∃ g cap, e = .returned (.tuple #[.slice (some ⟨g, 0, none⟩) (lnsF 0 P).length cap, .int .i64 (P.length : Int)]) /\ LinL w' g (lnsF 0 P) /\ w.Since w.heap.size w' /\ (lnsF 0 P).length <= cap
theorem l2Lines_q (s : ByteArray) (w : World) (hs : s.size <= 100000) :
 Calls Tryz.prog 18 #[.string s] w fun e w' => LinesE w w' (pcs 10 s) e := by
 obtain ⟨i0, hi, hz0, hz1, hz2⟩ := infoLine; have sA := sal w (.cells #[] 47); have oA : (w.alloc (.cells #[] 47)).ownsRow w.heap.size 47 2 (.slice (some ⟨w.heap.size, 0, none⟩) 0 0) 0 [] := World.ownsRow_made w #[] 0 (Nat.le_refl _) (Nat.zero_le _) rfl; have ZA := hide (show (w.alloc (.cells #[] 47)).heap.size = w.heap.size + 1 by simp); have HPL := pcs_len 10 s; obtain ⟨P, hP⟩ : ∃ P, pcs 10 s = P := ⟨_, rfl⟩; have HZ : Hid (∀ x ∈ P, x.size <= s.size) := hide (fun x hx => pcs_le (by rw [hP]; exact hx)); rw [hP] at HPL ⊢; have HP := hide hP; clear hP; go_enter Tryz.func18, Tryz.ntmps18; go_wp2_with fail; generalize w.alloc (.cells #[] 47) = wA at *; have JC : Calls Tryz.prog 49 #[.string s, .int .u8 10, .int .u8 10] wA fun e w' => ∃ v, e = .returned v /\ w'.ownsRow wA.heap.size 9 1 v (pcs 10 s).length ((pcs 10 s).map Value.string) /\ wA.Since wA.heap.size w' := l1Cut_c 10 s wA (by omega)
 refine JC.mono ?_; rintro e w1 ⟨v1, rfl, OP, s1⟩; have OP : w1.ownsRow wA.heap.size 9 1 v1 P.length (P.map Value.string) := by rw [<- HP.out]; exact OP
 have hpp : 0 < P.length := by rw [<- HP.out]; exact pcs_pos 10 s
 obtain ⟨gP, cP, rfl, hg1, -⟩ := OP.form hpp; obtain ⟨cP', bP, lP, -⟩ := StrO.cells OP; have CP := hide cP'; have HgP : Hid (w.heap.size < gP) := hide (by have := ZA.out; omega); clear JC cP' OP; have S1 := sA.trans (sM s1 sA.size); have z1 := s1.size; have o1 : LinO w1 w.heap.size (.slice (some ⟨w.heap.size, 0, none⟩) 0 0) [] [] := ⟨yj0 oA s1, fun j n ws h => by simp at h⟩; go_wp2_with fail
 go_loopw [4, 6] (fun u i wr => ∃ k : Nat, k <= P.length /\ i = .int .i64 (k : Int) /\ w.Since w.heap.size wr /\ Hid (∀ (j : Nat) (x : ByteArray), P[j]? = some x -> wr.cell? ⟨gP, j, none⟩ = some (.string x)) /\ gP < wr.heap.size /\ ∃ (g cap m : Nat) (ls : List (Nat × List ByteArray)) (xs : List Value), u = .slice (some ⟨g, 0, none⟩) m cap /\ g ≠ gP /\ m <= k /\ Hid (ls.length = m) /\ Hid (ls = lnsF 0 (P.take k)) /\ LinO wr w.heap.size (.slice (some ⟨g, 0, none⟩) m cap) ls xs) (fun _ i _ => P.length - (intOf i).toNat)
 case atStart => exact ⟨0, Nat.zero_le _, rfl, S1, CP, lP, w.heap.size, 0, 0, [], [], rfl, by have := HgP.out; omega, Nat.le_refl _, hide rfl, hide (by simp [lnsF]), o1⟩
 case round =>
  obtain ⟨k, hk, rfl, s2, cp, lp, g, cap, m, ls, xs, rfl, hne, hmk, HM, HL, O⟩ := hrel
  by_cases hlt : k < P.length
  . have hlt' : (k : Int) < (P.length : Int) := by omega
    obtain ⟨x, hx⟩ : ∃ x, P[k]? = some x := ⟨_, List.getElem?_eq_getElem hlt⟩; have g0 := cp.out k x hx; have hxz : x.size <= s.size := HZ.out x (List.mem_of_getElem? hx); have tf := lnsF_take hx; have hwl := words_len x; have JW := l2Words_q x wr (by omega); have lg := O.own.lt g rfl; clear hx
    by_cases hx0 : xj7 x = []
    . rw [if_pos hx0, List.append_nil] at tf
      have TF := hide tf; rw [hx0] at JW; have JW : Calls Tryz.prog 50 #[.string x, .int .u8 32, .int .u8 32] wr fun e w' => ∃ g cap, e = .returned (.slice (some ⟨g, 0, none⟩) 0 cap) /\ wr.Since wr.heap.size w' := JW.mono (fun e w' h => by obtain ⟨g, cap, e, -, s⟩ := h; exact ⟨g, cap, e, s⟩)
      clear tf hx0; go_wp2_with fail; refine JW.mono ?_; rintro e w3 ⟨g3, c3, rfl, s3⟩; have S3 := s2.trans (sM s3 s2.size); have O3 := O.keep s3; have z3 := s3.size; have C3 : Hid (∀ (j : Nat) (x : ByteArray), P[j]? = some x -> w3.cell? ⟨gP, j, none⟩ = some (.string x)) := hide (fun j x h => (s3.cell (a := ⟨gP, j, none⟩) lp).trans (cp.out j x h)); have HL3 : Hid (ls = lnsF 0 (P.take (k + 1))) := hide (by rw [TF.out]; exact HL.out); clear JW; go_wp2; go_roundw
      case rel => exact ⟨k + 1, by omega, by go_num, S3, C3, by omega, g, cap, m, ls, xs, rfl, hne, by omega, HM, HL3, O3⟩
      case measure => simp [intOf]; omega
    . rw [if_neg hx0] at tf
      have TF := hide tf; have hw0 : 0 < (xj7 x).length := List.length_pos_iff.2 hx0; obtain ⟨W, hW⟩ : ∃ W, xj7 x = W := ⟨_, rfl⟩; rw [hW] at JW hwl hw0 TF; have hw1 : (0 : Int) < (W.length : Int) := by omega
      clear tf hx0 hW; go_wp2_with fail; refine JW.mono ?_; rintro e w3 ⟨g3, c3, rfl, o3, s3⟩; have S3 := s2.trans (sM s3 s2.size); have O3 := O.keep s3; have z3 := s3.size; have z2 := s2.size; obtain ⟨cw, bw, lw, lcap⟩ := o3.cells; have hk1 : IntKind.i64.wrap ((k : Int) + 1) = ((k + 1 : Nat) : Int) := by rw [IntKind.wrap_i64]; omega
      have CW := hide cw; clear JW cw o3
      go_wp2_with (at_builtin; refine wpList_append_own_at _ rfl _ _ 41 rfl w.heap.size 47 i0 _ 2 32 Tryz.underlying41 hi hz0 hz1 hz2 rfl (by decide) _ m xs rfl (by have := O3.own; rw [HM.out] at this; exact this.alloc _) ⟨w3.heap.size, 0, none⟩ 1 1 [.int .i64 ((k : Int) + 1), .slice (some ⟨g3, 0, none⟩) W.length c3] rfl rfl (newL _ _ _ _) (oneL _ _ _ _) (by unfold maxLen; omega) (by omega) (by simp; omega) ?_)
      intro v' w5 hown' hgrow hnn hat; replace hgrow : (w3.alloc (.cells #[.int .i64 ((k : Int) + 1), .slice (some ⟨g3, 0, none⟩) W.length c3] 47)).grownBy w5 (Value.slice (some ⟨g, 0, none⟩) m cap).ownBlock := hgrow; obtain ⟨g', capn, rfl, hg1, hg2⟩ := hown'.form (by omega); have sW := sal w3 (.cells #[.int .i64 ((k : Int) + 1), .slice (some ⟨g3, 0, none⟩) W.length c3] 47); have zW : (w3.alloc (.cells #[.int .i64 ((k : Int) + 1), .slice (some ⟨g3, 0, none⟩) W.length c3] 47)).heap.size = w3.heap.size + 1 := by simp
      have z5 := hgrow.size; have S5 := (S3.trans (sM sW S3.size)).grown hgrow (by omega) (fun q hq => (O.own.lt q hq).1); have kb : w5.heap[gP]? = wr.heap[gP]? := ((hgrow.block gP (by omega) (by simp [Value.ownBlock]; omega)).trans (sW.block gP (by omega))).trans (s3.block gP lp); have C5 : Hid (∀ (j : Nat) (x : ByteArray), P[j]? = some x -> w5.cell? ⟨gP, j, none⟩ = some (.string x)) := hide (fun j x h => (World.cell?_of_block (a := ⟨gP, j, none⟩) kb).trans (cp.out j x h))
      have hne5 : g' ≠ gP := by
       rcases hat with h | h
       . simp [Value.ownBlock] at h; omega
       . simp [Value.ownBlock] at h; omega
      have O5 := O3.snoc (n := k + 1) (ws := W) sW (by omega) hgrow (by rw [HM.out]; exact hown') (by rw [zW]; exact hat) CW.out lw (by simp [Value.ownBlock]; omega) lcap; have HM5 : Hid ((ls ++ [(k + 1, W)]).length = m + 1) := hide (by simp; exact HM.out); have HL5 : Hid (ls ++ [(k + 1, W)] = lnsF 0 (P.take (k + 1))) := hide (by rw [TF.out, HL.out]); clear hnn hat hown' hgrow kb g0 O3 O; go_wp2; go_roundw
      case rel => exact ⟨k + 1, by omega, by go_num, S5, C5, by omega, g', capn, m + 1, _, _, rfl, hne5, by omega, HM5, HL5, O5⟩
      case measure => simp [intOf]; omega
  . have e : k = P.length := by omega
    subst e; have hz1' : ¬ ((P.length : Int) < (P.length : Int)) := by omega
    have O5 := hide O; rw [List.take_length] at HL; clear O; go_wp2; go_ret2; refine ⟨g, cap, ?_, ?_, s2, ?_⟩
    . rw [<- HL.out, HM.out]; rfl
    . have := O5.out
      rw [<- HM.out] at this; rw [<- HL.out]; exact this.l
    . have h9 := O5.out.own
      obtain ⟨-, ⟨e9, -⟩ | ⟨g9, cap9, cur, e9, -, -, hn, -⟩⟩ := h9
      . cases e9
      . simp only [Value.slice.injEq] at e9
        rw [<- HL.out, HM.out]; rw [HM.out] at hn; omega
theorem l3Row_q (C : Nat) (a : Option Addr) (wb off cap : Nat) (ws : List ByteArray) (w : World) (hc : ∀ (j : Nat) (x : ByteArray), ws[j]? = some x -> a = some ⟨wb, off, none⟩ /\ w.cell? ⟨wb, off + j, none⟩ = some (.string x)) (hz : ∀ x ∈ ws, x.size <= 100000) (hl : ws.length <= 100001) :
 Calls Tryz.prog 53 #[.slice a ws.length cap, .int .i64 ((C : Int) + 1)] w fun e w' => RetB w (rowOk C ws) e w' := by
 have HC : Hid (∀ i, i < ws.length -> a = some ⟨wb, off, none⟩ /\ w.cell? ⟨wb, off + i, none⟩ = some (.string (wd ws i))) := hide (fun i hi => hc i _ (wd_get hi)); have HZ : Hid (∀ i, i < ws.length -> (wd ws i).size <= 100000) := hide (fun i hi => hz _ (wd_mem hi)); obtain ⟨SH, hSH⟩ : ∃ P, P = rowOk C ws := ⟨_, rfl⟩; have HS : Hid (SH = (ws.length = C + 1 /\ C + 1 <= ws.length /\ ∀ i, i < C + 1 -> xw0 (wd ws i))) := hide hSH; obtain ⟨L, hL⟩ : ∃ L, ws.length = L := ⟨_, rfl⟩; rw [<- hSH]; rw [hL] at hl HC HZ HS ⊢; clear hc hz hSH hL
 by_cases hn : L = C + 1
 rotate_left
 . have hbe : ((L : Int) == (C : Int) + 1) = false := by simp; omega
   have hbe' : ¬ ((L : Int) = (C : Int) + 1) := by omega
   go_enter Tryz.func53, Tryz.ntmps53; go_wp2; go_ret
   exact RetB.no (by
    rw [HS.out]; exact fun h => hn h.1) (World.Since.refl _ _)
 obtain ⟨N, hN⟩ : ∃ N : Int, (C : Int) + 1 = N := ⟨_, rfl⟩; have hNL : N = (L : Int) := by omega
 subst hNL; rw [hN]; have HN := hide hn; clear hn hN; go_enter Tryz.func53, Tryz.ntmps53; go_wp2_with fail
 go_loopw [5] (fun i wr => ∃ (k : Nat), k <= L /\ i = .int .i64 (k : Int) /\ w.Since w.heap.size wr /\ Hid (∀ i, i < k -> xw0 (wd ws i))) (fun i _ => L - (intOf i).toNat)
 case atStart => exact ⟨0, Nat.zero_le _, rfl, World.Since.refl _ _, hide (fun i h => absurd h (by omega))⟩
 case round =>
  obtain ⟨k, hkL, rfl, S, HK⟩ := hrel
  by_cases hlt : k < L
  . have hzk : (k : Int) < (L : Int) := by omega
    obtain ⟨rfl, ck0⟩ := HC.out k hlt; have ck : wr.cell? ⟨wb, off + k, none⟩ = some (.string (wd ws k)) := (S.cell (a := ⟨wb, off + k, none⟩) (World.block_lt_of_cell? _ _ ck0)).trans ck0; have hsz := HZ.out k hlt; obtain ⟨x, hx⟩ : ∃ x, wd ws k = x := ⟨_, rfl⟩; rw [hx] at ck hsz; have HX := hide hx; clear hx ck0; go_wp2_with fail; refine (l2IsNum_q x wr hsz).mono ?_; rintro e w2 ⟨r, rfl, ir, s2⟩; have S2 := S.trans (sM s2 S.size); have IR := hide ir; clear ir; cases r
    . go_wp2
      go_ret
      exact RetB.no (by
       rw [HS.out]
       exact fun h => by
        have := h.2.2 k (by have := HN.out; omega); rw [HX.out] at this; have := IR.out.2 this
        simp at this) S2
    . have HK2 : Hid (∀ i, i < k + 1 -> xw0 (wd ws i)) := hide (fun i h2 => by
       by_cases e : i = k
       . subst e
         rw [HX.out]; exact IR.out.1 (by simp)
       . exact HK.out i (by omega))
      go_wp2; go_roundw
      case rel => exact ⟨k + 1, by omega, by go_num, S2, HK2⟩
      case measure => simp [intOf]; omega
  . have e : k = L := by omega
    subst e; have hzk : ¬ ((k : Int) < (k : Int)) := by omega
    go_wp2; go_ret
    exact RetB.yes (by
     rw [HS.out]; have := HN.out; exact ⟨this, by omega, fun i hi => HK.out i (by omega)⟩) S
def NumsO (w w' : World) (ws : List ByteArray) (e : Ending) : Prop :=
 ∃ (g cap : Nat) (xs : List Value), e = .returned (.slice (some ⟨g, 0, none⟩) ws.length cap) /\ OutR w' w.heap.size (.slice (some ⟨g, 0, none⟩) ws.length cap) ws.length (wd ws) (fun _ q => w.heap.size <= q) xs /\ w.Since w.heap.size w'
theorem l2Nums_q (a : Option Addr) (wb off cap : Nat) (ws : List ByteArray) (w : World) (hc : ∀ (j : Nat) (x : ByteArray), ws[j]? = some x -> a = some ⟨wb, off, none⟩ /\ w.cell? ⟨wb, off + j, none⟩ = some (.string x)) (hz : ∀ x ∈ ws, x.size <= 100000) (hl : ws.length <= 100001) :
 Calls Tryz.prog 54 #[.slice a ws.length cap] w fun e w' => NumsO w w' ws e := by
 obtain ⟨i0, hi, hz0, hz1, hz2⟩ := yw0; have HC : Hid (∀ i, i < ws.length -> a = some ⟨wb, off, none⟩ /\ w.cell? ⟨wb, off + i, none⟩ = some (.string (wd ws i))) := hide (fun i hi => hc i _ (wd_get hi)); have HZ : Hid (∀ i, i < ws.length -> (wd ws i).size <= 100000) := hide (fun i hi => hz _ (wd_mem hi)); have sA := sal w (.cells #[] 61); have oA : (w.alloc (.cells #[] 61)).ownsRow w.heap.size 61 3 (.slice (some ⟨w.heap.size, 0, none⟩) 0 0) 0 [] := World.ownsRow_made w #[] 0 (Nat.le_refl _) (Nat.zero_le _) rfl; clear hc hz; go_enter Tryz.func54, Tryz.ntmps54; go_wp2_with fail
 go_loopw [3, 4] (fun u i wr => ∃ (k g cap : Nat) (xs : List Value), k <= ws.length /\ i = .int .i64 (k : Int) /\ u = .slice (some ⟨g, 0, none⟩) k cap /\ w.Since w.heap.size wr /\ Hid (OutR wr w.heap.size (.slice (some ⟨g, 0, none⟩) k cap) k (wd ws) (fun _ q => w.heap.size <= q) xs)) (fun _ i _ => ws.length - (intOf i).toNat)
 case atStart => exact ⟨0, w.heap.size, 0, [], Nat.zero_le _, rfl, rfl, sA, hide ⟨oA, fun i hi => absurd hi (by omega)⟩⟩
 case round =>
  obtain ⟨k, g, cp, xs, hk, rfl, rfl, S, O⟩ := hrel
  by_cases hlt : k < ws.length
  . have hzk : (k : Int) < (ws.length : Int) := by omega
    obtain ⟨rfl, ck0⟩ := HC.out k hlt; have ck : wr.cell? ⟨wb, off + k, none⟩ = some (.string (wd ws k)) := (S.cell (a := ⟨wb, off + k, none⟩) (World.block_lt_of_cell? _ _ ck0)).trans ck0; have hsz := HZ.out k hlt; have JN := l2Num_q (wd ws k) wr hsz; obtain ⟨x, hx⟩ : ∃ x, wd ws k = x := ⟨_, rfl⟩; rw [hx] at ck hsz JN; have HX := hide hx; clear hx ck0; go_wp2_with fail; refine JN.mono ?_; rintro e w1 ⟨v, rfl, RV, s1⟩; have W1 := RV; obtain ⟨v1, v2, g1, g2, rfl, N1, N2, -, -, -⟩ := RV; obtain ⟨a1, q1, c1, Y1, rfl, -⟩ := N1; obtain ⟨a2, q2, c2, Y2, rfl, -⟩ := N2; have W1 : WordR w1 (fun q => wr.heap.size <= q) (.agg #[.bool (xq2 (wd ws k)).1, .slice a1 q1 c1, .slice a2 q2 c2]) (wd ws k) := by rw [HX.out]; exact W1
    have z1 := s1.size; have O1 := O.out.keep s1; have lg := O.out.own.lt g rfl; obtain ⟨nb, hnb⟩ : ∃ b, (xq2 x).1 = b := ⟨_, rfl⟩; have HNB : Hid ((xq2 (wd ws k)).1 = nb) := hide (by rw [HX.out]; exact hnb); rw [hnb]; clear hnb; have hB := S.size
    go_wp2_with (at_builtin; refine wpList_append_own_at _ rfl _ _ 30 rfl w.heap.size 61 i0 _ 3 56 Tryz.underlying30 hi hz0 hz1 hz2 rfl (by decide) _ _ _ rfl (O1.own.alloc _) ⟨w1.heap.size, 0, none⟩ 1 1 [.bool nb, .slice a1 q1 c1, .slice a2 q2 c2] rfl rfl (newR _ _ _ _ _) (oneR _ _ _ _ _ _ _) (by unfold maxLen; omega) (by omega) (by simp; omega) ?_)
    intro v' w2 hown' hgrow hnn hat; replace hgrow : (w1.alloc (.cells #[.bool nb, .slice a1 q1 c1, .slice a2 q2 c2] 61)).grownBy w2 (Value.slice (some ⟨g, 0, none⟩) k cp).ownBlock := hgrow; obtain ⟨g', capn, rfl, hg1, hg2⟩ := hown'.form (by omega); have sW := sal w1 (.cells #[.bool nb, .slice a1 q1 c1, .slice a2 q2 c2] 61); have zW : (w1.alloc (.cells #[.bool nb, .slice a1 q1 c1, .slice a2 q2 c2] 61)).heap.size = w1.heap.size + 1 := by simp
    have z2 := hgrow.size; have S2 := ((S.trans (sM s1 S.size)).trans (sM sW (by omega))).grown hgrow (by omega) (fun q hq => (O1.own.lt q hq).1); have O2 := O1.snoc sW (by omega) hgrow (by rw [HNB.out]; exact hown') (by rw [zW]; exact hat) (RatW.imp W1 (fun q hq hp => ⟨by omega, fun e => by simp [Value.ownBlock] at e; omega⟩)); have HO2 := hide O2; clear hnn hat hown' hgrow O2 O1 W1 JN; go_wp2; go_roundw
    case rel => exact ⟨k + 1, g', capn, _, by omega, by go_num, rfl, S2, HO2⟩
    case measure => simp [intOf]; omega
  . have e : k = ws.length := by omega
    subst e; have hzk : ¬ ((ws.length : Int) < (ws.length : Int)) := by omega
    go_wp2; go_ret; exact ⟨g, cp, xs, rfl, O.out, S⟩
def inW (s : ByteArray) : List ByteArray := xj7 (rp s)
def inOk (s : ByteArray) : Prop := s.size <= 20000 /\ ∀ x ∈ inW s, xw0 x
theorem inW_lim {s : ByteArray} (h : s.size <= 20000) : (inW s).length <= 20001 /\ ∀ x ∈ inW s, x.size <= 20000 := by
 refine ⟨?_, fun x hx => ?_⟩
 . have := words_len (rp s)
   rw [rp_size] at this; unfold inW; omega
 . unfold inW xj7 at hx
   have := pcs_le ((List.mem_filter.1 hx).1); rw [rp_size] at this; omega
def InE (w w' : World) (s : ByteArray) (e : Ending) : Prop :=
 (¬ inOk s /\ ∃ a, e = .returned (.tuple #[.slice a 0 0, .bool false])) ∨
 (inOk s /\ ∃ (a : Option Addr) (cap : Nat) (xs : List Value), e = .returned (.tuple #[.slice a (inW s).length cap, .bool true]) /\ OutR w' w.heap.size (.slice a (inW s).length cap) (inW s).length (wd (inW s)) (fun _ q => w.heap.size <= q) xs)
theorem l5ReadInput_q (s : ByteArray) (w : World) (hs : s.size <= 9223372036854775807) :
 Calls Tryz.prog 42 #[.string s] w fun e w' => InE w w' s e /\ w.Since w.heap.size w' := by
 by_cases hlong : 20000 < s.size
 . have hzl : (20000 : Int) < (s.size : Int) := by omega
   have sA := sal w (.cells #[] 61); go_enter Tryz.func42, Tryz.ntmps42; go_wp2; go_ret2; exact ⟨Or.inl ⟨fun h => by have := h.1; omega, _, rfl⟩, sA⟩
 have hzl : ¬ (20000 : Int) < (s.size : Int) := by omega
 have hle : s.size <= 20000 := by omega
 have JL := l2Words_2 s w (by omega); obtain ⟨l1, l2⟩ := inW_lim hle; rw [show xj7 (rp s) = inW s from rfl] at JL; have HOK : Hid (inOk s ↔ ∀ x ∈ inW s, xw0 x) := hide ⟨fun h => h.2, fun h => ⟨hle, h⟩⟩; unfold InE; obtain ⟨OK, hOK⟩ : ∃ P : Prop, P = inOk s := ⟨_, rfl⟩; rw [<- hOK] at HOK ⊢; clear hOK; obtain ⟨ws, hws⟩ : ∃ ws, inW s = ws := ⟨_, rfl⟩; rw [hws] at JL l1 l2 HOK ⊢; clear hws; have HL2 := hide l2; clear l2; obtain ⟨N, hN⟩ : ∃ N, ws.length = N := ⟨_, rfl⟩; have HN := hide hN; have JL : Calls Tryz.prog 50 #[.string s, .int .u8 32, .int .u8 10] w fun e w' => ∃ g cap, e = .returned (.slice (some ⟨g, 0, none⟩) N cap) /\ StrO w' w.heap.size g cap ws /\ w.Since w.heap.size w' := by rw [<- hN]; exact JL
 rw [hN] at l1 ⊢; clear hN; go_enter Tryz.func42, Tryz.ntmps42; go_wp2_with fail; refine JL.mono ?_; rintro e w1 ⟨g, cap, rfl, SO, s1⟩; have HC := hide SO.cells.1; clear SO JL; go_wp2_with fail
 go_loopw [5] (fun i wr => ∃ (k : Nat), k <= N /\ i = .int .i64 (k : Int) /\ w.Since w.heap.size wr /\ w1.Since w1.heap.size wr /\ Hid (∀ j, j < k -> xw0 (wd ws j))) (fun i _ => N - (intOf i).toNat)
 case atStart => exact ⟨0, Nat.zero_le _, rfl, s1, World.Since.refl _ _, hide (fun j hj => absurd hj (by omega))⟩
 case round =>
  obtain ⟨k, hk, rfl, S, s2, HM⟩ := hrel
  by_cases hlt : k < N
  . have hzk : (k : Int) < (N : Int) := by omega
    have hk0 : (0 : Int) <= (k : Int) := by omega
    have hkl : k < ws.length := by rw [HN.out]; exact hlt
    have c1 := (s2.cell (a := ⟨g, k, none⟩) (World.block_lt_of_cell? _ _ (HC.out k _ (wd_get hkl)))).trans (HC.out k _ (wd_get hkl)); have J := l2IsNum_q (wd ws k) wr (by have := HL2.out _ (wd_mem hkl); omega); have HMEM := hide (wd_mem hkl); obtain ⟨x, hx⟩ : ∃ x, wd ws k = x := ⟨_, rfl⟩; rw [hx] at c1 J HMEM; have HX := hide hx; clear hx hkl; go_wp2_with fail; refine J.mono ?_; rintro e w3 ⟨r, rfl, ir, s3⟩; have IR := hide ir; have S3 := S.trans (sM s3 S.size); have t3 := s2.trans (sM s3 s2.size); clear ir J c1; cases r
    . have HNO : Hid (¬ OK) := hide (fun h => by
       have := IR.out.2 (HOK.out.1 h x HMEM.out)
       simp at this)
      have sE := sal w3 (.cells #[] 61); have S9 := S3.trans (sM sE S3.size); clear IR sE; go_wp2; go_ret2; exact ⟨Or.inl ⟨HNO.out, _, rfl⟩, S9⟩
    . have HM2 : Hid (∀ j, j < k + 1 -> xw0 (wd ws j)) := hide (fun j hj => by
       by_cases e : j = k
       . subst e; rw [HX.out]; exact IR.out.1 (by simp)
       . exact HM.out j (by omega))
      clear IR; go_wp2; go_roundw
      case rel => exact ⟨k + 1, by omega, by go_num, S3, t3, HM2⟩
      case measure => simp [intOf]; omega
  . have e : k = N := by omega
    subst e; have hzk : ¬ ((k : Int) < (k : Int)) := by omega
    have HYES : Hid OK := hide (HOK.out.2 (fun x hx => by
     obtain ⟨j, hj, ej⟩ := List.getElem_of_mem hx; have := HM.out j (by rw [<- HN.out]; exact hj); unfold wd at this; rw [List.getD_eq_getElem?_getD, List.getElem?_eq_getElem hj] at this; rw [<- ej]; exact this))
    have J := l2Nums_q (some ⟨g, 0, none⟩) g 0 cap ws wr (fun j x hx => ⟨rfl, by
     rw [Nat.zero_add]; exact (s2.cell (a := ⟨g, j, none⟩) (World.block_lt_of_cell? _ _ (HC.out j x hx))).trans (HC.out j x hx)⟩) (fun x hx => by have := HL2.out x hx; omega) (by rw [HN.out]; omega)
    unfold NumsO at J; rw [HN.out] at J; go_wp2_with fail; refine J.mono ?_; rintro e w3 ⟨g3, c3, xs, rfl, O, s3⟩; have S3 := S.trans (sM s3 S.size); have HO := hide ((O.lower S.size).imp' (p' := fun _ q => w.heap.size <= q) (fun _ q _ _ hp => Nat.le_trans S.size hp)); clear O J; go_wp2; go_ret2; exact ⟨Or.inr ⟨HYES.out, _, c3, xs, rfl, HO.out⟩, S3⟩
theorem top_bot (u : ByteArray) : (pTop u).size + (pBot u).size <= u.size + 1 := by
 unfold pTop pBot
 split
 . show u.size + 1 <= u.size + 1
   omega
 . rw [ByteArray.size_extract, ByteArray.size_extract]
   omega
theorem pow_32 (k : Nat) : 10 ^ k <= 2 ^ (32 * k) := by
 rw [Nat.pow_mul]; exact Nat.pow_le_pow_left (by decide) k
theorem num_size {x : ByteArray} (h : xw0 x) : (numD x).n + (numD x).m <= x.size + 1 := by
 unfold xw0 at h
 have key : (xq2 x).2.1 < 2 ^ (32 * (pTop (runs x)).size) /\ (xq2 x).2.2.1 < 2 ^ (32 * (pBot (runs x)).size) := by
  have p1 := pow_32 (pTop (runs x)).size; have p2 := pow_32 (pBot (runs x)).size; obtain ⟨P1, e1⟩ : ∃ p, 2 ^ (32 * (pTop (runs x)).size) = p := ⟨_, rfl⟩; obtain ⟨P2, e2⟩ : ∃ p, 2 ^ (32 * (pBot (runs x)).size) = p := ⟨_, rfl⟩; rw [e1] at p1 ⊢; rw [e2] at p2 ⊢; clear e1 e2; unfold xq2 at h ⊢; simp only at h ⊢
  split at h
  . cases h
  . rename_i h1
    split at h
    . cases h
    . rename_i h2
      split at h
      . cases h
      . rename_i h3
        simp only [if_neg h1, if_neg h2, if_neg h3]; simp only [Bool.not_eq_true', Bool.and_eq_false_iff, not_or, Bool.not_eq_false] at h1; have b1 := dv_lim (x := pTop (runs x)) (k := (pTop (runs x)).size) (fun j hj => yq0 h1.1 j hj); have b2 := dv_lim (x := pBot (runs x)) (k := (pBot (runs x)).size) (fun j hj => yq0 h1.2 j hj); have d1 := Nat.div_le_self (dv (pTop (runs x)) (pTop (runs x)).size) (Nat.gcd (dv (pTop (runs x)) (pTop (runs x)).size) (dv (pBot (runs x)) (pBot (runs x)).size)); have d2 := Nat.div_le_self (dv (pBot (runs x)) (pBot (runs x)).size) (Nat.gcd (dv (pTop (runs x)) (pTop (runs x)).size) (dv (pBot (runs x)) (pBot (runs x)).size)); exact ⟨Nat.lt_of_le_of_lt d1 (Nat.lt_of_lt_of_le b1 p1), Nat.lt_of_le_of_lt d2 (Nat.lt_of_lt_of_le b2 p2)⟩
 have l1 : (numD x).n <= (pTop (runs x)).size := canR_lim key.1; have l2 : (numD x).m <= (pBot (runs x)).size := canR_lim key.2; have := top_bot (runs x); have := runs_size x; omega
def wsz (l : List ByteArray) : Nat := (l.map fun x => x.size + 1).sum
theorem wsz_nil : wsz [] = 0 := rfl
theorem wsz_cons (x : ByteArray) (l : List ByteArray) : wsz (x :: l) = x.size + 1 + wsz l := by simp [wsz]
theorem wsz_append (a b : List ByteArray) : wsz (a ++ b) = wsz a + wsz b := by simp [wsz]
theorem wsz_len (l : List ByteArray) : l.length <= wsz l := by
 induction l with
 | nil => simp [wsz]
 | cons x l ih => rw [wsz_cons, List.length_cons]; omega
theorem wsz_filter (f : ByteArray -> Bool) (l : List ByteArray) : wsz (l.filter f) <= wsz l := by
 induction l with
 | nil => simp [wsz]
 | cons x l ih =>
   rw [List.filter_cons, wsz_cons]
   split
   . rw [wsz_cons]; omega
   . omega
theorem words_wsz (l : ByteArray) : wsz (xj7 l) <= l.size + 1 := by
 have h := wsz_filter (fun p => decide (0 < p.size)) (pcs 32 l); have e := pcs_sum 32 l; unfold xj7; exact Nat.le_trans h (Nat.le_of_eq e)
def totz (rest : List (Nat × List ByteArray)) : Nat := (rest.map fun r => wsz r.2).sum
theorem totz_append (a b : List (Nat × List ByteArray)) : totz (a ++ b) = totz a + totz b := by simp [totz]
theorem totz_cons (a : Nat × List ByteArray) (b : List (Nat × List ByteArray)) : totz (a :: b) = wsz a.2 + totz b := by simp [totz]
theorem lnsF_totz (t : Nat) (L : List ByteArray) : totz (lnsF t L) <= (L.map fun l => l.size + 1).sum := by
 induction L generalizing t with
 | nil => simp [lnsF, totz]
 | cons x xs ih =>
   have h1 := ih (t + 1); have h2 := words_wsz x; rw [lnsF]; simp only [List.map_cons, List.sum_cons]
   split
   . omega
   . rw [totz_cons]
     show wsz (xj7 x) + _ <= _
     omega
theorem szR_wsz {l : List ByteArray} (h : ∀ x ∈ l, xw0 x) : szR (numF l) l.length <= wsz l := by
 have key : ∀ n, n <= l.length -> szR (numF l) n <= wsz (l.take n) := fun n => by
  induction n with
  | zero => intro _; simp [szR]
  | succ n ih =>
    intro hn; have h1 := ih (by omega); have e : wd l n = l[n] := by unfold wd; rw [List.getD_eq_getElem?_getD, List.getElem?_eq_getElem (by omega)]; rfl
    have h2 := num_size (h _ (wd_mem (l := l) (i := n) (by omega))); have e2 : l.take (n + 1) = l.take n ++ [wd l n] := by rw [List.take_add_one, List.getElem?_eq_getElem (by omega), e]; rfl
    have e3 : szR (numF l) (n + 1) = szR (numF l) n + ((numD (wd l n)).n + (numD (wd l n)).m) := rfl; rw [e2, wsz_append, wsz_cons, wsz_nil, e3]; omega
 have := key l.length (Nat.le_refl _); rw [List.take_length] at this; exact this
def MapD.z (m : MapD) : Nat := wsz (WL m.C m.rs) + wsz (BL m.C m.rs)
theorem rows_totz {C : Nat} {rs : List (Nat × List ByteArray)} (h : ∀ r ∈ rs, rowOk C r.2) : wsz (WL C rs) + wsz (BL C rs) = totz rs := by
 induction rs with
 | nil => simp [WL, BL, wsz, totz]
 | cons r rs ih =>
   have h1 := ih (fun r' hr => h r' (by simp [hr])); have hl := (h r (by simp)).1; have e1 : WL C (r :: rs) = r.2.take C ++ WL C rs := by simp [WL]
   have e2 : BL C (r :: rs) = wd r.2 C :: BL C rs := by simp [BL]
   have e3 : r.2 = r.2.take C ++ [wd r.2 C] := by
    have h9 : r.2.take (C + 1) = r.2 := List.take_of_length_le (by omega); have h8 : wd r.2 C = r.2[C] := by unfold wd; rw [List.getD_eq_getElem?_getD, List.getElem?_eq_getElem (by omega)]; rfl
    rw [List.take_add_one, List.getElem?_eq_getElem (by omega)] at h9; rw [h8]; exact h9.symm
   have e4 : wsz r.2 = wsz (r.2.take C) + (wsz [wd r.2 C]) := by rw [<- wsz_append, <- e3]
   rw [e1, e2, wsz_append, wsz_cons, totz_cons, e4, wsz_cons, wsz_nil]; omega
theorem MapS.totz_le {m : MapD} {rest rest' : List (Nat × List ByteArray)} (h : MapS rest m.R m.C m.rs rest') : m.z + totz rest' <= totz rest := by
 obtain ⟨n0, x1, x2, e, -⟩ := h.ex; have := rows_totz h.rows; rw [e, totz_cons, totz_append]; unfold MapD.z; omega
theorem xk2.totz_le {ms : List MapD} {rest rest' : List (Nat × List ByteArray)} (h : xk2 ms rest rest') : (ms.map MapD.z).sum + totz rest' <= totz rest := by
 induction ms generalizing rest with
 | nil => subst h; simp
 | cons m ms ih =>
   obtain ⟨r, h1, h2⟩ := h; have := ih h2; have := h1.totz_le; simp only [List.map_cons, List.sum_cons]; omega
theorem MapS.sizez {m : MapD} {r r' : List (Nat × List ByteArray)} (h : MapS r m.R m.C m.rs r') : m.A.size <= 2 * m.z := by
 have h1 := szR_wsz (WL_ok h.rows); have h2 := szR_wsz (BL_ok h.rows); have h3 := wsz_len (WL m.C m.rs); have h4 := wsz_len (BL m.C m.rs)
 show (WL m.C m.rs).length + szR (numF (WL m.C m.rs)) (WL m.C m.rs).length + ((BL m.C m.rs).length + szR (numF (BL m.C m.rs)) (BL m.C m.rs).length) <= 2 * m.z
 unfold MapD.z; omega
theorem szA_mapsz {ms : List MapD} (h : ∀ m ∈ ms, m.A.size <= 2 * m.z) : szA (mapA ms) ms.length <= 2 * (ms.map MapD.z).sum := by
 have key : ∀ k, k <= ms.length -> szA (mapA ms) k <= 2 * ((ms.take k).map MapD.z).sum := fun k => by
  induction k with
  | zero => intro _; simp [szA]
  | succ k ih =>
    intro hk; have h1 := ih (by omega); have e : mD ms k = ms[k] := by unfold mD; rw [List.getD_eq_getElem?_getD, List.getElem?_eq_getElem (by omega)]; rfl
    have h2 := h ms[k] (List.getElem_mem _); have e2 : szA (mapA ms) (k + 1) = szA (mapA ms) k + (mapA ms k).size := rfl; have e3 : (mapA ms k).size = ms[k].A.size := by show (mD ms k).A.size = _; rw [e]
    rw [List.take_add_one, List.getElem?_eq_getElem (by omega)]; simp only [Option.toList, List.map_append, List.sum_append, List.map_cons, List.map_nil, List.sum_cons, List.sum_nil]; omega
 have := key ms.length (Nat.le_refl _); rw [List.take_length] at this; exact this
theorem NetS.limz {s : ByteArray} {ms : List MapD} (h : NetS (lnsF 0 (pcs 10 s)) ms) : szA (mapA ms) ms.length <= 2 * (s.size + 1) := by
 obtain ⟨n0, x1, r, e, i1, hl, hm⟩ := h; have h1 := lnsF_totz 0 (pcs 10 s); rw [pcs_sum] at h1; have h2 := hm.totz_le; rw [e, totz_cons] at h1; have h3 := szA_mapsz (fun m hm' => by obtain ⟨r, r', h⟩ := hm.all m hm'; exact h.sizez); omega
theorem inW_size {s : ByteArray} (h : inOk s) : (inW s).length + szR (numF (inW s)) (inW s).length <= 2 * (s.size + 1) := by
 have h1 := szR_wsz h.2; have h2 := wsz_len (inW s); have h3 := words_wsz (rp s); rw [rp_size] at h3; have h4 : wsz (inW s) <= s.size + 1 := h3; omega
theorem in_rats {w : World} {lo : Nat} {s : ByteArray} {a : Option Addr} {cap : Nat} {p : Nat -> Nat -> Prop} {xs : List Value} (h : OutR w lo (.slice a (inW s).length cap) (inW s).length (wd (inW s)) p xs) : ∃ g, (inW s).length <= cap /\ Rats w 0 a g 0 (inW s).length (numF (inW s)) := by
 obtain ⟨a', g, cap', e, hc, R⟩ := h.rats; simp only [Value.slice.injEq, true_and] at e; obtain ⟨rfl, rfl⟩ := e; exact ⟨g, hc, R⟩
theorem inputOf_q (s : ByteArray) (w : World) (hs : s.size <= 9223372036854775807) (HR : s.size <= 20000 -> ∀ w : World, Calls Tryz.prog 82 #[.string s, .string ⟨#[10]⟩, .string ⟨#[32]⟩] w fun e w' => e = .returned (.string (rp s)) /\ w.Since w.heap.size w') :
 Calls Tryz.prog 45 #[.string s] w fun e w' => InE w w' s e /\ w.Since w.heap.size w' := by
 by_cases hlong : 20000 < s.size
 . have hzl : (20000 : Int) < (s.size : Int) := by omega
   clear HR; go_enter Tryz.func45, Tryz.ntmps45; go_wp2; go_ret2; exact ⟨Or.inl ⟨fun h => by have := h.1; omega, _, rfl⟩, World.Since.refl _ _⟩
 have hzl : ¬ (20000 : Int) < (s.size : Int) := by omega
 have hle : s.size <= 20000 := by omega
 have HR := hide (HR hle); obtain ⟨i0, hi, hz0, hz1, hz2⟩ := yw0; have sA := sal w (.cells #[] 61); have oA : (w.alloc (.cells #[] 61)).ownsRow w.heap.size 61 3 (.slice (some ⟨w.heap.size, 0, none⟩) 0 0) 0 [] := World.ownsRow_made w #[] 0 (Nat.le_refl _) (Nat.zero_le _) rfl; obtain ⟨l1, l2⟩ := inW_lim hle; have HOK : Hid (inOk s ↔ ∀ x ∈ inW s, xw0 x) := hide ⟨fun h => h.2, fun h => ⟨hle, h⟩⟩; unfold InE; obtain ⟨OK, hOK⟩ : ∃ P : Prop, P = inOk s := ⟨_, rfl⟩; rw [<- hOK] at HOK ⊢; clear hOK; have HRP := hide (rp_size s); obtain ⟨ws, hws⟩ : ∃ ws, inW s = ws := ⟨_, rfl⟩; have HWS := hide hws; rw [hws] at l1 l2 HOK ⊢; clear hws; have HL2 := hide l2; clear l2; obtain ⟨N, hN⟩ : ∃ N, ws.length = N := ⟨_, rfl⟩; have HN := hide hN; rw [hN] at l1 ⊢; clear hN; have ZA := hide (show (w.alloc (.cells #[] 61)).heap.size = w.heap.size + 1 by simp); go_enter Tryz.func45, Tryz.ntmps45; go_wp2_with fail; generalize w.alloc (.cells #[] 61) = wA at *; refine (HR.out wA).mono ?_; rintro e w0 ⟨rfl, s0⟩
 have JL : Calls Tryz.prog 81 #[.string (rp s)] w0 fun e w' => ∃ g cap, e = .returned (.slice (some ⟨g, 0, none⟩) N cap) /\ StrO w' w0.heap.size g cap ws /\ w0.Since w0.heap.size w' := by
  have h9 := wordsOf_q (rp s) w0 (by rw [HRP.out]; omega); rw [show xj7 (rp s) = inW s from rfl, HWS.out, HN.out] at h9; exact h9
 have S0 := sA.trans (sM s0 sA.size); have oA0 := yj0 oA s0; clear oA; go_wp2_with fail; refine JL.mono ?_; rintro e w1 ⟨g0, cap0, rfl, SO, s1⟩; have S1 := S0.trans (sM s1 S0.size); have O1 := yj0 oA0 s1; have HC := hide SO.cells.1; have HG0 : Hid (w.heap.size ≠ g0) := hide (by have := SO.cells.2.1; have := ZA.out; have := s0.size; omega); clear SO JL oA0; go_wp2_with fail
 go_loopw [4, 17] (fun u i wr => ∃ (k g cap : Nat) (xs : List Value), k <= N /\ i = .int .i64 (k : Int) /\ u = .slice (some ⟨g, 0, none⟩) k cap /\ w.Since w.heap.size wr /\ Hid (OutR wr w.heap.size (.slice (some ⟨g, 0, none⟩) k cap) k (wd ws) (fun _ q => w.heap.size <= q) xs) /\ Hid (∀ (j : Nat) (x : ByteArray), ws[j]? = some x -> wr.cell? ⟨g0, j, none⟩ = some (.string x)) /\ g ≠ g0 /\ Hid (∀ j, j < k -> xw0 (wd ws j))) (fun _ i _ => N - (intOf i).toNat)
 case atStart => exact ⟨0, w.heap.size, 0, [], Nat.zero_le _, rfl, rfl, S1, hide ⟨O1, fun i hi => absurd hi (by omega)⟩, HC, HG0.out, hide (fun j hj => absurd hj (by omega))⟩
 case round =>
  clear O1 S1; obtain ⟨k, g, cp, xs, hk, rfl, rfl, S, O, HCR, hne, HM⟩ := hrel
  by_cases hlt : k < N
  . have hzk : (k : Int) < (N : Int) := by omega
    have hk0 : (0 : Int) <= (k : Int) := by omega
    have hkl : k < ws.length := by rw [HN.out]; exact hlt
    have c1 := HCR.out k _ (wd_get hkl); have hsz := HL2.out _ (wd_mem hkl); have HMEM := hide (wd_mem hkl); have lg0 : g0 < wr.heap.size := World.block_lt_of_cell? _ _ c1; obtain ⟨x, hx⟩ : ∃ x, wd ws k = x := ⟨_, rfl⟩; rw [hx] at c1 hsz HMEM; have HX := hide hx; have J := implRatParse_any x wr (by omega) (Nat.zero_le _) trivial; obtain ⟨cd, hcd⟩ : ∃ n, (xq2 x).2.2.2 = n := ⟨_, rfl⟩; rw [hcd] at J; have HCD := hide hcd; clear hx hkl hcd; go_wp2_with fail; refine J.mono ?_; rintro e w2 ⟨v, rfl, RV, s2⟩; have W1 := RV.w; obtain ⟨v1, v2, g1, g2, rfl, N1, N2, -, -, -⟩ := RV; obtain ⟨a1, q1, c1', Y1, rfl, -⟩ := N1; obtain ⟨a2, q2, c2', Y2, rfl, -⟩ := N2; have W1 : WordR w2 (fun q => wr.heap.size <= q) (.agg #[.bool (xq2 x).1, .slice a1 q1 c1', .slice a2 q2 c2']) x := W1; obtain ⟨nb, hnb⟩ : ∃ b, (xq2 x).1 = b := ⟨_, rfl⟩; have HNB : Hid ((xq2 (wd ws k)).1 = nb) := hide (by rw [HX.out]; exact hnb); have sB := sal w2 (.cells #[.bool nb, .slice a1 q1 c1', .slice a2 q2 c2'] 61); have nB := Box3.new w2 (.bool nb) (.slice a1 q1 c1') (.slice a2 q2 c2') 61; rw [hnb] at W1 ⊢; have u1 : wr.Since wr.heap.size (w2.alloc (.cells #[.bool nb, .slice a1 q1 c1', .slice a2 q2 c2'] 61)) := s2.trans (sM sB s2.size); have SB := S.trans (sM u1 S.size); have W1 : WordR (w2.alloc (.cells #[.bool nb, .slice a1 q1 c1', .slice a2 q2 c2'] 61)) (fun q => wr.heap.size <= q) (.agg #[.bool (xq2 (wd ws k)).1, .slice a1 q1 c1', .slice a2 q2 c2']) (wd ws k) := by rw [HNB.out, HX.out]; exact RatW.keep W1 sB
    have W1 := hide W1; have n0 := nB.c0; have n1 := nB.c1; have n2 := nB.c2; have zB : (w2.alloc (.cells #[.bool nb, .slice a1 q1 c1', .slice a2 q2 c2'] 61)).heap.size = w2.heap.size + 1 := by simp
    clear hnb J c1
    by_cases hc0 : cd = 0
    rotate_left
    . have hcb : (cd != 0) = true := by simpa using hc0
      have HNO : Hid (¬ OK) := hide (fun h => hc0 (by rw [<- HCD.out]; exact HOK.out.1 h x HMEM.out)); clear hc0 n0 n1 n2; go_wp2; go_ret2; exact ⟨Or.inl ⟨HNO.out, _, rfl⟩, SB⟩
    subst hc0; have O1 := O.out.keep u1; have lg := O.out.own.lt g rfl; have z1 := u1.size; have hB := S.size
    go_wp2_with (at_builtin; refine wpList_append_own_at _ rfl _ _ 30 rfl w.heap.size 61 i0 _ 3 56 Tryz.underlying30 hi hz0 hz1 hz2 rfl (by decide) _ _ _ rfl (O1.own.alloc _) ⟨w2.heap.size + 1, 0, none⟩ 1 1 [.bool nb, .slice a1 q1 c1', .slice a2 q2 c2'] rfl rfl (by have h9 := newR (w2.alloc (.cells #[.bool nb, .slice a1 q1 c1', .slice a2 q2 c2'] 61)) (.bool nb) (.slice a1 q1 c1') (.slice a2 q2 c2') 61; rw [zB] at h9; exact h9) (oneR _ _ _ _ _ _ _) (by unfold maxLen; omega) (by omega) (by simp; omega) ?_)
    intro v' w3 hown' hgrow hnn hat; generalize hwB : w2.alloc (.cells #[.bool nb, .slice a1 q1 c1', .slice a2 q2 c2'] 61) = wB at *; replace hgrow : (wB.alloc (.cells #[.bool nb, .slice a1 q1 c1', .slice a2 q2 c2'] 61)).grownBy w3 (Value.slice (some ⟨g, 0, none⟩) k cp).ownBlock := hgrow; obtain ⟨g', capn, rfl, hg1, hg2⟩ := hown'.form (by omega); have sW := sal wB (.cells #[.bool nb, .slice a1 q1 c1', .slice a2 q2 c2'] 61); have zW : (wB.alloc (.cells #[.bool nb, .slice a1 q1 c1', .slice a2 q2 c2'] 61)).heap.size = wB.heap.size + 1 := by simp
    have z2 := hgrow.size; have S3 := (SB.trans (sM sW (by omega))).grown hgrow (by omega) (fun q hq => (O1.own.lt q hq).1); have O2 := O1.snoc sW (by omega) hgrow (by rw [HNB.out]; exact hown') (by rw [zW, zB]; exact hat) (RatW.imp W1.out (fun q hq hp => ⟨by omega, fun e => by simp [Value.ownBlock] at e; omega⟩)); have HO2 := hide O2; have kb : w3.heap[g0]? = wr.heap[g0]? := ((hgrow.block g0 (by omega) (by simp [Value.ownBlock]; omega)).trans (sW.block g0 (by omega))).trans (u1.block g0 lg0); have C3 : Hid (∀ (j : Nat) (x : ByteArray), ws[j]? = some x -> w3.cell? ⟨g0, j, none⟩ = some (.string x)) := hide (fun j x h => (World.cell?_of_block (a := ⟨g0, j, none⟩) kb).trans (HCR.out j x h))
    have hne3 : g' ≠ g0 := by
     rcases hat with h | h
     . simp [Value.ownBlock] at h; omega
     . simp [Value.ownBlock] at h; omega
    have HM3 : Hid (∀ j, j < k + 1 -> xw0 (wd ws j)) := hide (fun j hj => by
     by_cases e : j = k
     . subst e; rw [HX.out]; exact HCD.out
     . exact HM.out j (by omega))
    clear hnn hat hown' hgrow O2 O1 W1 n0 n1 n2 kb hwB; go_wp2; go_roundw
    case rel => exact ⟨k + 1, g', capn, _, by omega, by go_num, rfl, S3, HO2, C3, hne3, HM3⟩
    case measure => simp [intOf]; omega
  . have e : k = N := by omega
    subst e; have hzk : ¬ ((k : Int) < (k : Int)) := by omega
    have HYES : Hid OK := hide (HOK.out.2 (fun x hx => by
     obtain ⟨j, hj, ej⟩ := List.getElem_of_mem hx; have := HM.out j (by rw [<- HN.out]; exact hj); unfold wd at this; rw [List.getD_eq_getElem?_getD, List.getElem?_eq_getElem hj] at this; rw [<- ej]; exact this))
    go_wp2; go_ret2; refine ⟨Or.inr ⟨HYES.out, some ⟨g, 0, none⟩, cp, ?_, xs, O.out⟩, S⟩
    rfl
end Go.Proofs.YtnogbaapcjjngaaGreatDoor
