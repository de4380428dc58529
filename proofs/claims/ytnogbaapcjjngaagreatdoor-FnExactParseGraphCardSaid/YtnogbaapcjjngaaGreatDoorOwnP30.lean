import Derived.Test.YtnogbaapcjjngaaGreatDoorOwnP29
import Derived.Test.YtnogbaapcjjngaaGreatDoorOwnP27
namespace Go.Proofs.YtnogbaapcjjngaaGreatDoor
open Go.RowKit

set_option maxHeartbeats 3200000 in
set_option maxRecDepth 100000 in
/-- ParseGraph's closure where the frame panics. -/
theorem caughtG_panics (d e f : Nat) (x0 x1 x2 x3 x4 x5 : Value) (y z : Int) (n : Int) (w : World) (B : Box6 w d x0 x1 x2 x3 x4 x5) (E : Box1 w e (.int .i64 y)) (F : Box1 w f (.int .i64 z)) (hde : d ≠ e) (hdf : d ≠ f) (hef : e ≠ f) :
    CallsD Tryz.prog 34 #[.pointer (some ⟨d, 0, none⟩), .pointer (some ⟨e, 0, none⟩), .pointer (some ⟨f, 0, none⟩)] (.panicking [{ v := .iface 86 (.agg #[.int .i64 n]), recovered := false }]) w fun r u' w' =>
      r = .returned (.tuple #[]) ∧ u' = .panicking [{ v := .iface 86 (.agg #[.int .i64 n]), recovered := true }] ∧ Box6 w' d (.int .i64 0) (.int .i64 0) (.slice none 0 0) (.slice none 0 0) (.slice none 0 0) (.int .i64 0) ∧ Box1 w' e (.int .i64 2) ∧ Box1 w' f (.int .i64 n) ∧ Chg (fun q => q = d ∨ q = e ∨ q = f) w w' := by
  refine callsD_of_wpS Tryz.func34 rfl fun c₀ cs hu => ?_
  apply wpS_seq
  apply wpS_region
  simp [wpOpsS, go_sem, recoverD, hu, Tryz.ntmps34, Exit.thenS]
  refine wpS_of_wp ?_
  go_wp2_with fail
  refine (wrongLineOf_q n w).mono ?_
  rintro r w1 ⟨rfl, s1⟩
  have B1 := B.keep s1
  have E1 := E.keep s1
  have F1 := F.keep s1
  have b0 := B1.c0
  have fb0 := B1.f 0
  have b1 := B1.c1
  have fb1 := B1.f 1
  have b2 := B1.c2
  have fb2 := B1.f 2
  have b3 := B1.c3
  have fb3 := B1.f 3
  have b4 := B1.c4
  have fb4 := B1.f 4
  have b5 := B1.c5
  have fb5 := B1.f 5
  have BS : But d w1 ((((((w1.setCell ⟨d, 0, none⟩ (.int .i64 0)).setCell ⟨d, 1, none⟩ (.int .i64 0)).setCell ⟨d, 2, none⟩ (.slice none 0 0)).setCell ⟨d, 3, none⟩ (.slice none 0 0)).setCell ⟨d, 4, none⟩ (.slice none 0 0)).setCell ⟨d, 5, none⟩ (.int .i64 0)) := (((((((But.refl d w1).set 0 (.int .i64 0)).set 1 (.int .i64 0)).set 2 (.slice none 0 0)).set 3 (.slice none 0 0)).set 4 (.slice none 0 0)).set 5 (.int .i64 0))
  have B2 := ((((((B1.set0 (.int .i64 0)).set1 (.int .i64 0)).set2 (.slice none 0 0)).set3 (.slice none 0 0)).set4 (.slice none 0 0)).set5 (.int .i64 0))
  have E2 := E1.but BS (fun h => hde h.symm)
  have F2 := F1.but BS (fun h => hdf h.symm)
  have e0 := E2.c0
  have fe := E2.f 0
  have HC := hide (And.intro BS (And.intro B2 (And.intro E2 F2)))
  obtain ⟨wD, hwD⟩ : ∃ x, x = ((((((w1.setCell ⟨d, 0, none⟩ (.int .i64 0)).setCell ⟨d, 1, none⟩ (.int .i64 0)).setCell ⟨d, 2, none⟩ (.slice none 0 0)).setCell ⟨d, 3, none⟩ (.slice none 0 0)).setCell ⟨d, 4, none⟩ (.slice none 0 0)).setCell ⟨d, 5, none⟩ (.int .i64 0)) := ⟨_, rfl⟩
  rw [← hwD] at BS B2 E2 F2 e0 fe HC
  have BS2 : But e wD (wD.setCell ⟨e, 0, none⟩ (.int .i64 2)) := (But.refl e wD).set 0 _
  have E3 : Box1 (wD.setCell ⟨e, 0, none⟩ (.int .i64 2)) e (.int .i64 2) := ⟨World.cell?_setCell_same _ _ _ e0, fun q => by simpa using E2.f q⟩
  have F3 := F2.but BS2 (fun h => hef h.symm)
  have B3 := B2.but BS2 hde
  have f0 := F3.c0
  have ff := F3.f 0
  have BS3 : But f (wD.setCell ⟨e, 0, none⟩ (.int .i64 2)) ((wD.setCell ⟨e, 0, none⟩ (.int .i64 2)).setCell ⟨f, 0, none⟩ (.int .i64 n)) := (But.refl f _).set 0 _
  have F4 : Box1 ((wD.setCell ⟨e, 0, none⟩ (.int .i64 2)).setCell ⟨f, 0, none⟩ (.int .i64 n)) f (.int .i64 n) := ⟨World.cell?_setCell_same _ _ _ f0, fun q => by simpa using F3.f q⟩
  have B4 := B3.but BS3 hdf
  have E4 := E3.but BS3 hef
  have CH : Chg (fun q => q = d ∨ q = e ∨ q = f) w ((wD.setCell ⟨e, 0, none⟩ (.int .i64 2)).setCell ⟨f, 0, none⟩ (.int .i64 n)) := chg_but (chg_but (chg_but (chg_since ⟨rfl, rfl, rfl, Nat.le_refl _, fun _ _ _ => rfl⟩ s1) BS (Or.inl rfl)) BS2 (Or.inr (Or.inl rfl))) BS3 (Or.inr (Or.inr rfl))
  subst hwD
  go_wp2
  simp [bodyPostS, results, Tryz.results34]
  exact ⟨B4, E4, F4, CH⟩

set_option maxHeartbeats 1600000 in
set_option maxRecDepth 100000 in
/-- .. where it returns. -/
theorem caughtG_idle (d e f : Nat) (w : World) :
    CallsD Tryz.prog 34 #[.pointer (some ⟨d, 0, none⟩), .pointer (some ⟨e, 0, none⟩), .pointer (some ⟨f, 0, none⟩)] .returning w fun r u' w' => r = .returned (.tuple #[]) ∧ u' = .returning ∧ w' = w := by
  refine callsD_of_wpS Tryz.func34 rfl fun c₀ cs hu => ?_
  apply wpS_seq
  apply wpS_region
  simp [wpOpsS, go_sem, recoverD, hu, Tryz.ntmps34, Exit.thenS]
  refine wpS_of_wp ?_
  go_wp2
  cases c₀
  simp_all [bodyPostS, results, Tryz.results34]

theorem results_graph {fn : Func} {p q s : Tmp} (h : fn.results = #[.cell p 33, .cell q 3, .cell s 3]) (tmps : Array Value) (w : World) (c d f : Nat) (x0 x1 x2 x3 x4 x5 y z : Value)
    (hp : tmps.getD p undef = .pointer (some ⟨c, 0, none⟩)) (hq : tmps.getD q undef = .pointer (some ⟨d, 0, none⟩)) (hs : tmps.getD s undef = .pointer (some ⟨f, 0, none⟩)) (B : Box6 w c x0 x1 x2 x3 x4 x5) (D : Box1 w d y) (F : Box1 w f z) : (results fn tmps).run Tryz.prog w = .ok (.tuple #[.agg #[x0, x1, x2, x3, x4, x5], y, z]) w := by
  have hp' : tmps[p]?.getD undef = .pointer (some ⟨c, 0, none⟩) := by simpa using hp
  have hq' : tmps[q]?.getD undef = .pointer (some ⟨d, 0, none⟩) := by simpa using hq
  have hs' : tmps[s]?.getD undef = .pointer (some ⟨f, 0, none⟩) := by simpa using hs
  have hl := run_loadVar_mid (P := Tryz.prog) w c 0 33 [x0, x1, x2, x3, x4, x5] _ (fun j q hv => by
    rcases j with _ | _ | _ | _ | _ | _ | j
    · simp at hv; subst hv; exact B.c0
    · simp at hv; subst hv; exact B.c1
    · simp at hv; subst hv; exact B.c2
    · simp at hv; subst hv; exact B.c3
    · simp at hv; subst hv; exact B.c4
    · simp at hv; subst hv; exact B.c5
    · simp at hv) Tryz.underlying33 rfl size_graph
  have d0 := D.c0
  have f0 := F.c0
  have hl2 : (loadVar 3 ⟨d, 0, none⟩).run Tryz.prog w = .ok y w := by simp [go_sem, d0]
  have hl3 : (loadVar 3 ⟨f, 0, none⟩).run Tryz.prog w = .ok z w := by simp [go_sem, f0]
  simp [results, h, hp', hq', hs', asAddr, hl, hl2, hl3]

def zG : Value := .agg #[.int .i64 0, .int .i64 0, .slice none 0 0, .slice none 0 0, .slice none 0 0, .int .i64 0]

/-- What of a graph that was read lies in memory. -/
structure GraR (w : World) (lo0 : Nat) (bs ns : List (Nat × List ByteArray)) (aL aH aN : Option Addr) (cL cH cN : Nat) (xL xH xN : List Value) (zs : List (List Value)) (lo hi d : Nat) : Prop where
  l0 : lo0 ≤ lo
  l1 : lo ≤ hi
  S : SideQ w lo hi d (.slice aL bs.length cL) (.slice aH bs.length cH) (sL bs) (sH bs) xL xH
  N : OutN w hi (.slice aN ns.length cN) ns.length (lw ns) xN zs
  A : ∃ hi', Apt hi hi' zs.flatten

/-- How ParseGraph ends. -/
def PgE (w w' : World) (s : ByteArray) (ls : List (Nat × List ByteArray)) (T : Nat) (e : Ending) : Prop :=
  (20000 < s.size ∧ e = .returned (.tuple #[zG, .int .i64 1, .int .i64 0])) ∨
  (s.size ≤ 20000 ∧ ∃ p : Nat, BadAt ls p ∧ e = .returned (.tuple #[zG, .int .i64 2, .int .i64 (p : Int)])) ∨
  (s.size ≤ 20000 ∧ EndBad ls ∧ e = .returned (.tuple #[zG, .int .i64 2, .int .i64 ((T : Int) + 1)])) ∨
  (s.size ≤ 20000 ∧ ∃ x1 x2 xo bs ns aL cL aH cH aN cN xL xH xN zs lo hi d, GoodS ls x1 x2 xo bs ns ∧ e = .returned (.tuple #[.agg #[.int .i64 (dv x1 x1.size : Nat), .int .i64 (dv x2 x2.size : Nat), .slice aL bs.length cL, .slice aH bs.length cH, .slice aN ns.length cN, .int .i64 (dv xo xo.size : Nat)], .int .i64 0, .int .i64 0]) ∧ GraR w' w.heap.size bs ns aL aH aN cL cH cN xL xH xN zs lo hi d)

set_option maxHeartbeats 12800000 in
set_option maxRecDepth 100000 in
theorem implParseGraph_any (s : ByteArray) (w : World) (hs : s.size ≤ 9223372036854775807) :
    Calls Tryz.prog 12 #[.string s] w fun e w' => w.Since w.heap.size w' ∧ PgE w w' s (lnsF 0 (pcs 10 s)) (pcs 10 s).length e := by
  have hmf : ∀ (fn : Fn) (first cap : Array Value) (w : World), (Instr.makeFunc fn first cap).run Tryz.prog w = .ok (.func fn first cap) w := fun _ _ _ _ => rfl
  have SB : w.Since w.heap.size (((w.alloc (.cells #[.int .i64 0, .int .i64 0, .slice none 0 0, .slice none 0 0, .slice none 0 0, .int .i64 0] 33)).alloc (.cells #[.int .i64 0] 3)).alloc (.cells #[.int .i64 0] 3)) := (((World.Since.refl _ _).alloc (Nat.le_refl _) _).alloc (by simp) _).alloc (by simp; omega) _
  have s2 : (w.alloc (.cells #[.int .i64 0, .int .i64 0, .slice none 0 0, .slice none 0 0, .slice none 0 0, .int .i64 0] 33)).Since (w.alloc (.cells #[.int .i64 0, .int .i64 0, .slice none 0 0, .slice none 0 0, .slice none 0 0, .int .i64 0] 33)).heap.size ((w.alloc (.cells #[.int .i64 0, .int .i64 0, .slice none 0 0, .slice none 0 0, .slice none 0 0, .int .i64 0] 33)).alloc (.cells #[.int .i64 0] 3)) := (World.Since.refl _ _).alloc (Nat.le_refl _) _
  have s3 : ((w.alloc (.cells #[.int .i64 0, .int .i64 0, .slice none 0 0, .slice none 0 0, .slice none 0 0, .int .i64 0] 33)).alloc (.cells #[.int .i64 0] 3)).Since ((w.alloc (.cells #[.int .i64 0, .int .i64 0, .slice none 0 0, .slice none 0 0, .slice none 0 0, .int .i64 0] 33)).alloc (.cells #[.int .i64 0] 3)).heap.size (((w.alloc (.cells #[.int .i64 0, .int .i64 0, .slice none 0 0, .slice none 0 0, .slice none 0 0, .int .i64 0] 33)).alloc (.cells #[.int .i64 0] 3)).alloc (.cells #[.int .i64 0] 3)) := (World.Since.refl _ _).alloc (Nat.le_refl _) _
  have bA := ((Box6.new w (.int .i64 0) (.int .i64 0) (.slice none 0 0) (.slice none 0 0) (.slice none 0 0) (.int .i64 0) 33).keep s2).keep s3
  have bB := (Box1.new (w.alloc (.cells #[.int .i64 0, .int .i64 0, .slice none 0 0, .slice none 0 0, .slice none 0 0, .int .i64 0] 33)) (.int .i64 0) 3).keep s3
  have bC := Box1.new ((w.alloc (.cells #[.int .i64 0, .int .i64 0, .slice none 0 0, .slice none 0 0, .slice none 0 0, .int .i64 0] 33)).alloc (.cells #[.int .i64 0] 3)) (.int .i64 0) 3
  rw [show (w.alloc (.cells #[.int .i64 0, .int .i64 0, .slice none 0 0, .slice none 0 0, .slice none 0 0, .int .i64 0] 33)).heap.size = w.heap.size + 1 by simp] at bB
  rw [show ((w.alloc (.cells #[.int .i64 0, .int .i64 0, .slice none 0 0, .slice none 0 0, .slice none 0 0, .int .i64 0] 33)).alloc (.cells #[.int .i64 0] 3)).heap.size = w.heap.size + 1 + 1 by simp] at bC
  have ZB : (((w.alloc (.cells #[.int .i64 0, .int .i64 0, .slice none 0 0, .slice none 0 0, .slice none 0 0, .int .i64 0] 33)).alloc (.cells #[.int .i64 0] 3)).alloc (.cells #[.int .i64 0] 3)).heap.size = w.heap.size + 1 + 1 + 1 := by simp
  clear s2 s3
  have HLS := hide (show True from trivial)
  by_cases hlong : 20000 < s.size
  · have hzl : (20000 : Int) < (s.size : Int) := by omega
    have a0 := bA.c0
    have fa0 := bA.f 0
    have a1 := bA.c1
    have fa1 := bA.f 1
    have a2 := bA.c2
    have fa2 := bA.f 2
    have a3 := bA.c3
    have fa3 := bA.f 3
    have a4 := bA.c4
    have fa4 := bA.f 4
    have a5 := bA.c5
    have fa5 := bA.f 5
    have p0 := bB.c0
    have pf := bB.f 0
    have q0 := bC.c0
    have qf := bC.f 0
    go_enter_defers Tryz.func12, Tryz.ntmps12
    go_wp2_with fail
    have r2 : (w.alloc (.cells #[.int .i64 0, .int .i64 0, .slice none 0 0, .slice none 0 0, .slice none 0 0, .int .i64 0] 33)).Since (w.alloc (.cells #[.int .i64 0, .int .i64 0, .slice none 0 0, .slice none 0 0, .slice none 0 0, .int .i64 0] 33)).heap.size ((w.alloc (.cells #[.int .i64 0, .int .i64 0, .slice none 0 0, .slice none 0 0, .slice none 0 0, .int .i64 0] 33)).alloc (.cells #[.int .i64 1] 3)) := (World.Since.refl _ _).alloc (Nat.le_refl _) _
    have r3 : ((w.alloc (.cells #[.int .i64 0, .int .i64 0, .slice none 0 0, .slice none 0 0, .slice none 0 0, .int .i64 0] 33)).alloc (.cells #[.int .i64 1] 3)).Since ((w.alloc (.cells #[.int .i64 0, .int .i64 0, .slice none 0 0, .slice none 0 0, .slice none 0 0, .int .i64 0] 33)).alloc (.cells #[.int .i64 1] 3)).heap.size (((w.alloc (.cells #[.int .i64 0, .int .i64 0, .slice none 0 0, .slice none 0 0, .slice none 0 0, .int .i64 0] 33)).alloc (.cells #[.int .i64 1] 3)).alloc (.cells #[.int .i64 0] 3)) := (World.Since.refl _ _).alloc (Nat.le_refl _) _
    have dA := ((Box6.new w (.int .i64 0) (.int .i64 0) (.slice none 0 0) (.slice none 0 0) (.slice none 0 0) (.int .i64 0) 33).keep r2).keep r3
    have dB := (Box1.new (w.alloc (.cells #[.int .i64 0, .int .i64 0, .slice none 0 0, .slice none 0 0, .slice none 0 0, .int .i64 0] 33)) (.int .i64 1) 3).keep r3
    have dC := Box1.new ((w.alloc (.cells #[.int .i64 0, .int .i64 0, .slice none 0 0, .slice none 0 0, .slice none 0 0, .int .i64 0] 33)).alloc (.cells #[.int .i64 1] 3)) (.int .i64 0) 3
    rw [show (w.alloc (.cells #[.int .i64 0, .int .i64 0, .slice none 0 0, .slice none 0 0, .slice none 0 0, .int .i64 0] 33)).heap.size = w.heap.size + 1 by simp] at dB
    rw [show ((w.alloc (.cells #[.int .i64 0, .int .i64 0, .slice none 0 0, .slice none 0 0, .slice none 0 0, .int .i64 0] 33)).alloc (.cells #[.int .i64 1] 3)).heap.size = w.heap.size + 1 + 1 by simp] at dC
    exact ⟨_, results_graph rfl _ _ _ _ _ _ _ _ _ _ _ _ _ rfl rfl rfl dA dB dC, (((World.Since.refl _ _).alloc (Nat.le_refl _) _).alloc (by simp) _).alloc (by simp; omega) _, Or.inl ⟨hlong, rfl⟩⟩
  have hzl : ¬ (20000 : Int) < (s.size : Int) := by omega
  have hle : s.size ≤ 20000 := by omega
  obtain ⟨LS, hLS⟩ : ∃ LS, LS = lnsF 0 (pcs 10 s) := ⟨_, rfl⟩
  have HLS := hide hLS
  rw [← hLS]
  clear hLS
  obtain ⟨T, hT⟩ : ∃ T, (pcs 10 s).length = T := ⟨_, rfl⟩
  rw [hT]
  have HT := hide hT
  clear hT
  go_enter_defers Tryz.func12, Tryz.ntmps12
  go_wp2_with fail
  generalize ((w.alloc (.cells #[.int .i64 0, .int .i64 0, .slice none 0 0, .slice none 0 0, .slice none 0 0, .int .i64 0] 33)).alloc (.cells #[.int .i64 0] 3)).alloc (.cells #[.int .i64 0] 3) = wB at *
  refine (readerOf_q s wB (by omega)).mono ?_
  rintro e w1 ⟨c, bl, rfl, R1, hc, s1⟩
  have S1 : w.Since w.heap.size w1 := SB.trans (sinceMono s1 SB.size)
  have bA1 := bA.keep s1
  have bB1 := bB.keep s1
  have bC1 := bC.keep s1
  have z1 := s1.size
  have JG := takeGraph_q c bl bl 0 (pcs 10 s) [] w1 R1
  rw [List.drop_zero, ← HLS.out, HT.out] at JG
  go_wp2_with fail
  refine JG.mono ?_
  rintro e w2 ⟨B2, ⟨p, hbad, rfl⟩ | ⟨hend, rfl⟩ | ⟨x1, x2, xo, bs, ns, aL, cL, aH, cH, aN, cN, xL, xH, xN, zs, lo, hi, d, hg, rfl, hl0, hl1, SQ, ON, AP⟩⟩
  · unfold Wrong
    have HB := hide hbad
    clear hbad JG
    go_wp2_with fail
    have bA2 := bA1.but B2 (by omega)
    have bB2 := bB1.but B2 (by omega)
    have bC2 := bC1.but B2 (by omega)
    refine leaves_cons (f := 34) (args := #[.pointer (some ⟨w.heap.size, 0, none⟩), .pointer (some ⟨w.heap.size + 1, 0, none⟩), .pointer (some ⟨w.heap.size + 1 + 1, 0, none⟩)]) (by simp) (by simp [go_sem]) ?_
    refine (caughtG_panics w.heap.size (w.heap.size + 1) (w.heap.size + 1 + 1) _ _ _ _ _ _ _ _ (p : Int) w2 bA2 bB2 bC2 (by omega) (by omega) (by omega)).mono ?_
    rintro e u' w3 ⟨rfl, rfl, a3, b3, d3, C3⟩
    have S2 := since_chg S1 (Nat.le_refl _) B2.c (fun q hq e => by have := SB.size; omega)
    have S3 := since_chg S2 (Nat.le_refl _) C3 (fun q hq e => by omega)
    exact ⟨_, results_graph rfl _ _ _ _ _ _ _ _ _ _ _ _ _ rfl rfl rfl a3 b3 d3, S3, Or.inr (Or.inl ⟨hle, p, HB.out, rfl⟩)⟩
  · unfold Wrong
    have HB := hide hend
    clear hend JG
    go_wp2_with fail
    have bA2 := bA1.but B2 (by omega)
    have bB2 := bB1.but B2 (by omega)
    have bC2 := bC1.but B2 (by omega)
    refine leaves_cons (f := 34) (args := #[.pointer (some ⟨w.heap.size, 0, none⟩), .pointer (some ⟨w.heap.size + 1, 0, none⟩), .pointer (some ⟨w.heap.size + 1 + 1, 0, none⟩)]) (by simp) (by simp [go_sem]) ?_
    refine (caughtG_panics w.heap.size (w.heap.size + 1) (w.heap.size + 1 + 1) _ _ _ _ _ _ _ _ ((T : Int) + 1) w2 bA2 bB2 bC2 (by omega) (by omega) (by omega)).mono ?_
    rintro e u' w3 ⟨rfl, rfl, a3, b3, d3, C3⟩
    have S2 := since_chg S1 (Nat.le_refl _) B2.c (fun q hq e => by have := SB.size; omega)
    have S3 := since_chg S2 (Nat.le_refl _) C3 (fun q hq e => by omega)
    exact ⟨_, results_graph rfl _ _ _ _ _ _ _ _ _ _ _ _ _ rfl rfl rfl a3 b3 d3, S3, Or.inr (Or.inr (Or.inl ⟨hle, HB.out, rfl⟩))⟩
  have S2 := since_chg S1 (Nat.le_refl _) B2.c (fun q hq e => by have := SB.size; omega)
  have bA2 := bA1.but B2 (by omega)
  have bB2 := bB1.but B2 (by omega)
  have bC2 := bC1.but B2 (by omega)
  have a0 := bA2.c0
  have fa0 := bA2.f 0
  have a1 := bA2.c1
  have fa1 := bA2.f 1
  have a2 := bA2.c2
  have fa2 := bA2.f 2
  have a3 := bA2.c3
  have fa3 := bA2.f 3
  have a4 := bA2.c4
  have fa4 := bA2.f 4
  have a5 := bA2.c5
  have fa5 := bA2.f 5
  have HG := hide hg
  have HSQ := hide SQ
  have HON := hide ON
  have HAP := hide AP
  obtain ⟨V1, hV1⟩ : ∃ V, dv x1 x1.size = V := ⟨_, rfl⟩
  obtain ⟨V2, hV2⟩ : ∃ V, dv x2 x2.size = V := ⟨_, rfl⟩
  obtain ⟨VO, hVO⟩ : ∃ V, dv xo xo.size = V := ⟨_, rfl⟩
  rw [hV1, hV2, hVO]
  have HV := hide (And.intro hV1 (And.intro hV2 hVO))
  clear hg SQ ON AP JG hV1 hV2 hVO
  have BA : But w.heap.size w2 ((((((w2.setCell ⟨w.heap.size, 0, none⟩ (.int .i64 (V1 : Int))).setCell ⟨w.heap.size, 1, none⟩ (.int .i64 (V2 : Int))).setCell ⟨w.heap.size, 2, none⟩ (.slice aL bs.length cL)).setCell ⟨w.heap.size, 3, none⟩ (.slice aH bs.length cH)).setCell ⟨w.heap.size, 4, none⟩ (.slice aN ns.length cN)).setCell ⟨w.heap.size, 5, none⟩ (.int .i64 (VO : Int))) := (((((((But.refl _ w2).set 0 (.int .i64 (V1 : Int))).set 1 (.int .i64 (V2 : Int))).set 2 (.slice aL bs.length cL)).set 3 (.slice aH bs.length cH)).set 4 (.slice aN ns.length cN)).set 5 (.int .i64 (VO : Int)))
  have bA3 := ((((((bA2.set0 (.int .i64 (V1 : Int))).set1 (.int .i64 (V2 : Int))).set2 (.slice aL bs.length cL)).set3 (.slice aH bs.length cH)).set4 (.slice aN ns.length cN)).set5 (.int .i64 (VO : Int)))
  have bB3 := bB2.but BA (by omega)
  have bC3 := bC2.but BA (by omega)
  have b0 := bB3.c0
  have fb := bB3.f 0
  have BB : But (w.heap.size + 1) ((((((w2.setCell ⟨w.heap.size, 0, none⟩ (.int .i64 (V1 : Int))).setCell ⟨w.heap.size, 1, none⟩ (.int .i64 (V2 : Int))).setCell ⟨w.heap.size, 2, none⟩ (.slice aL bs.length cL)).setCell ⟨w.heap.size, 3, none⟩ (.slice aH bs.length cH)).setCell ⟨w.heap.size, 4, none⟩ (.slice aN ns.length cN)).setCell ⟨w.heap.size, 5, none⟩ (.int .i64 (VO : Int))) (((((((w2.setCell ⟨w.heap.size, 0, none⟩ (.int .i64 (V1 : Int))).setCell ⟨w.heap.size, 1, none⟩ (.int .i64 (V2 : Int))).setCell ⟨w.heap.size, 2, none⟩ (.slice aL bs.length cL)).setCell ⟨w.heap.size, 3, none⟩ (.slice aH bs.length cH)).setCell ⟨w.heap.size, 4, none⟩ (.slice aN ns.length cN)).setCell ⟨w.heap.size, 5, none⟩ (.int .i64 (VO : Int))).setCell ⟨w.heap.size + 1, 0, none⟩ (.int .i64 0)) := (But.refl _ _).set 0 _
  have bB4 : Box1 (((((((w2.setCell ⟨w.heap.size, 0, none⟩ (.int .i64 (V1 : Int))).setCell ⟨w.heap.size, 1, none⟩ (.int .i64 (V2 : Int))).setCell ⟨w.heap.size, 2, none⟩ (.slice aL bs.length cL)).setCell ⟨w.heap.size, 3, none⟩ (.slice aH bs.length cH)).setCell ⟨w.heap.size, 4, none⟩ (.slice aN ns.length cN)).setCell ⟨w.heap.size, 5, none⟩ (.int .i64 (VO : Int))).setCell ⟨w.heap.size + 1, 0, none⟩ (.int .i64 0)) (w.heap.size + 1) (.int .i64 0) := ⟨World.cell?_setCell_same _ _ _ b0, fun q => by simpa using bB3.f q⟩
  have bA4 := bA3.but BB (by omega)
  have bC4 := bC3.but BB (by omega)
  have c0 := bC4.c0
  have fc := bC4.f 0
  have BC : But (w.heap.size + 1 + 1) (((((((w2.setCell ⟨w.heap.size, 0, none⟩ (.int .i64 (V1 : Int))).setCell ⟨w.heap.size, 1, none⟩ (.int .i64 (V2 : Int))).setCell ⟨w.heap.size, 2, none⟩ (.slice aL bs.length cL)).setCell ⟨w.heap.size, 3, none⟩ (.slice aH bs.length cH)).setCell ⟨w.heap.size, 4, none⟩ (.slice aN ns.length cN)).setCell ⟨w.heap.size, 5, none⟩ (.int .i64 (VO : Int))).setCell ⟨w.heap.size + 1, 0, none⟩ (.int .i64 0)) ((((((((w2.setCell ⟨w.heap.size, 0, none⟩ (.int .i64 (V1 : Int))).setCell ⟨w.heap.size, 1, none⟩ (.int .i64 (V2 : Int))).setCell ⟨w.heap.size, 2, none⟩ (.slice aL bs.length cL)).setCell ⟨w.heap.size, 3, none⟩ (.slice aH bs.length cH)).setCell ⟨w.heap.size, 4, none⟩ (.slice aN ns.length cN)).setCell ⟨w.heap.size, 5, none⟩ (.int .i64 (VO : Int))).setCell ⟨w.heap.size + 1, 0, none⟩ (.int .i64 0)).setCell ⟨w.heap.size + 1 + 1, 0, none⟩ (.int .i64 0)) := (But.refl _ _).set 0 _
  have bC5 : Box1 ((((((((w2.setCell ⟨w.heap.size, 0, none⟩ (.int .i64 (V1 : Int))).setCell ⟨w.heap.size, 1, none⟩ (.int .i64 (V2 : Int))).setCell ⟨w.heap.size, 2, none⟩ (.slice aL bs.length cL)).setCell ⟨w.heap.size, 3, none⟩ (.slice aH bs.length cH)).setCell ⟨w.heap.size, 4, none⟩ (.slice aN ns.length cN)).setCell ⟨w.heap.size, 5, none⟩ (.int .i64 (VO : Int))).setCell ⟨w.heap.size + 1, 0, none⟩ (.int .i64 0)).setCell ⟨w.heap.size + 1 + 1, 0, none⟩ (.int .i64 0)) (w.heap.size + 1 + 1) (.int .i64 0) := ⟨World.cell?_setCell_same _ _ _ c0, fun q => by simpa using bC4.f q⟩
  have bA5 := bA4.but BC (by omega)
  have bB5 := bB4.but BC (by omega)
  have S5 := since_chg (since_chg (since_chg S2 (Nat.le_refl _) BA.c (fun q hq e => by omega)) (Nat.le_refl _) BB.c (fun q hq e => by omega)) (Nat.le_refl _) BC.c (fun q hq e => by omega)
  have hw1 : w.heap.size + 1 + 1 < w1.heap.size := by omega
  have GR : Hid (GraR ((((((((w2.setCell ⟨w.heap.size, 0, none⟩ (.int .i64 (V1 : Int))).setCell ⟨w.heap.size, 1, none⟩ (.int .i64 (V2 : Int))).setCell ⟨w.heap.size, 2, none⟩ (.slice aL bs.length cL)).setCell ⟨w.heap.size, 3, none⟩ (.slice aH bs.length cH)).setCell ⟨w.heap.size, 4, none⟩ (.slice aN ns.length cN)).setCell ⟨w.heap.size, 5, none⟩ (.int .i64 (VO : Int))).setCell ⟨w.heap.size + 1, 0, none⟩ (.int .i64 0)).setCell ⟨w.heap.size + 1 + 1, 0, none⟩ (.int .i64 0)) w.heap.size bs ns aL aH aN cL cH cN xL xH xN zs lo hi d) := hide ⟨by omega, hl1, ((HSQ.out.chg BA.c (fun q e => by omega)).chg BB.c (fun q e => by omega)).chg BC.c (fun q e => by omega), ((HON.out.chg BA.c (fun q e => by omega)).chg BB.c (fun q e => by omega)).chg BC.c (fun q e => by omega), HAP.out⟩
  clear HSQ HON HAP BA BB BC bA3 bB3 bC3 bA4 bB4 bC4
  go_wp2_with fail
  refine leaves_cons (f := 34) (args := #[.pointer (some ⟨w.heap.size, 0, none⟩), .pointer (some ⟨w.heap.size + 1, 0, none⟩), .pointer (some ⟨w.heap.size + 1 + 1, 0, none⟩)]) (by simp) (by simp [go_sem]) ?_
  refine (caughtG_idle w.heap.size (w.heap.size + 1) (w.heap.size + 1 + 1) _).mono ?_
  rintro e u' w'' ⟨rfl, rfl, rfl⟩
  refine ⟨_, results_graph rfl _ _ _ _ _ _ _ _ _ _ _ _ _ rfl rfl rfl bA5 bB5 bC5, S5, Or.inr (Or.inr (Or.inr ⟨hle, x1, x2, xo, bs, ns, aL, cL, aH, cH, aN, cN, xL, xH, xN, zs, lo, hi, d, HG.out, ?_, GR.out⟩))⟩
  obtain ⟨h1, h2, h3⟩ := HV.out
  rw [h1, h2, h3]

end Go.Proofs.YtnogbaapcjjngaaGreatDoor

namespace Go.Proofs.YtnogbaapcjjngaaGreatDoor
open Go.RowKit

theorem last_split {α : Type} {l : List α} {x : α} (h : l.getLast? = some x) : ∃ r, l = r ++ [x] := by
  rcases List.eq_nil_or_concat l with rfl | ⟨r, y, rfl⟩
  · simp at h
  · rw [List.concat_eq_append] at h
    simp at h
    subst h
    exact ⟨r, List.concat_eq_append ..⟩

/-- Lines that may all stand where they stand, the last an output line, are a graph's. -/
theorem may_good {ls : List (Nat × List ByteArray)} (hM : AllMay ls) {y : Nat × List ByteArray} (hy : ls.getLast? = some y) (ho : y.2.head? = some outputW) : ∃ x1 x2 xo bs ns, GoodS ls x1 x2 xo bs ns := by
  cases ls with
  | nil => simp at hy
  | cons h t =>
    obtain ⟨x1, x2, eh, i1, i2⟩ := shape_graph.1 (may_head.1 (hM [] h t rfl))
    obtain ⟨n0, wg⟩ := h
    simp only at eh
    subst eh
    have hbox : ∀ a b c, t = a ++ b :: c → a.length < dv x1 x1.size → shapeOk b.2 boxW 0 2 2 := fun a b c e ha => by
      have := hM ((n0, [graphW, x1, x2]) :: a) b c (by rw [e]; rfl)
      exact (may_box ha).1 this
    have hlen : dv x1 x1.size < t.length := by
      rcases Nat.lt_or_ge (dv x1 x1.size) t.length with h9 | h9
      · exact h9
      · exfalso
        rcases List.eq_nil_or_concat t with rfl | ⟨r, z, rfl⟩
        · simp at hy; subst hy; simp [graphW, outputW] at ho
        · rw [List.concat_eq_append, last_snoc] at hy
          simp only [Option.some.injEq] at hy
          subst hy
          obtain ⟨y1, y2, e, -⟩ := shape_box.1 (hbox r z [] (by simp) (by simp at h9; omega))
          rw [e] at ho
          simp [boxW, outputW] at ho
    obtain ⟨bs, hbs⟩ : ∃ b, t.take (dv x1 x1.size) = b := ⟨_, rfl⟩
    obtain ⟨rs, hrs⟩ : ∃ b, t.drop (dv x1 x1.size) = b := ⟨_, rfl⟩
    have et : t = bs ++ rs := by rw [← hbs, ← hrs, List.take_append_drop]
    have lb : bs.length = dv x1 x1.size := by rw [← hbs, List.length_take]; omega
    have hrn : rs ≠ [] := fun e => by
      have := congrArg List.length et
      rw [List.length_append, e, lb] at this
      simp at this
      omega
    have hrl : rs.getLast? = some y := by
      rcases List.eq_nil_or_concat rs with e | ⟨r, z, rfl⟩
      · exact absurd e hrn
      · rw [et, List.concat_eq_append, ← List.append_assoc, last_snoc] at hy
        rw [List.concat_eq_append]
        simpa using hy
    obtain ⟨ns, ens⟩ := last_split hrl
    have hB : BoxS bs := fun b hb => by
      obtain ⟨a, c, e⟩ := List.append_of_mem hb
      refine shape_box.1 (hbox a b (c ++ rs) (by rw [et, e]; simp) ?_)
      have := congrArg List.length e
      rw [List.length_append, lb] at this
      simp at this
      omega
    have hN : NodS ns := fun x hx => by
      obtain ⟨a, c, e⟩ := List.append_of_mem hx
      obtain ⟨z, c', ec⟩ : ∃ z c', c ++ [y] = z :: c' := by
        cases c with
        | nil => exact ⟨y, [], rfl⟩
        | cons z c => exact ⟨z, c ++ [y], rfl⟩
      have h1 := hM ((n0, [graphW, x1, x2]) :: (bs ++ a)) x (c ++ [y]) (by rw [et, ens, e]; simp)
      have h2 := hM ((n0, [graphW, x1, x2]) :: ((bs ++ a) ++ [x])) z c' (by rw [et, ens, e, ← ec]; simp)
      rcases may_cons.1 h1 with ⟨h3, -⟩ | ⟨-, -, h3 | h3⟩
      · exfalso
        have h3 : (bs ++ a).length < dv x1 x1.size := h3
        rw [List.length_append, lb] at h3; omega
      · exact h3
      · exfalso
        obtain ⟨xo, e9, -⟩ := shape_out.1 h3
        exact may_end (by rw [List.length_append, List.length_append, lb]; omega) (by rw [e9]; rfl) h2
    have h1 := hM ((n0, [graphW, x1, x2]) :: (bs ++ ns)) y [] (by rw [et, ens]; simp)
    rcases may_cons.1 h1 with ⟨h3, -⟩ | ⟨-, -, h3 | h3⟩
    · exfalso
      have h3 : (bs ++ ns).length < dv x1 x1.size := h3
      rw [List.length_append, lb] at h3; omega
    · exact absurd ho h3.nout
    · obtain ⟨xo, e9, io⟩ := shape_out.1 h3
      obtain ⟨no, wo⟩ := y
      simp only at e9
      subst e9
      exact ⟨x1, x2, xo, bs, ns, ⟨n0, no, by rw [et, ens]; simp⟩, i1, i2, io, lb, hB, hN⟩

theorem GoodS.only {ls : List (Nat × List ByteArray)} {x1 x2 xo y1 y2 yo : ByteArray} {bs ns bs' ns' : List (Nat × List ByteArray)} (h : GoodS ls x1 x2 xo bs ns) (k : GoodS ls y1 y2 yo bs' ns') : x1 = y1 ∧ x2 = y2 ∧ xo = yo ∧ bs = bs' ∧ ns = ns' := by
  obtain ⟨n0, no, e⟩ := h.ex
  obtain ⟨m0, mo, e'⟩ := k.ex
  rw [e] at e'
  simp only [List.cons.injEq, Prod.mk.injEq, and_true, true_and] at e'
  obtain ⟨⟨-, rfl, rfl⟩, e'⟩ := e'
  obtain ⟨e1, e2⟩ := List.append_inj' e' rfl
  simp only [List.cons.injEq, Prod.mk.injEq, and_true, true_and] at e2
  obtain ⟨e3, e4⟩ := List.append_inj e1 (by rw [h.len, k.len])
  exact ⟨rfl, rfl, e2.2, e3, e4⟩

/-- Nodes that are read, grown by append. -/
structure OutM (w : World) (lo : Nat) (D : Nat → Prop) (v : Value) (k : Nat) (N : Nat → List ByteArray) (xs : List Value) (zs : List (List Value)) : Prop where
  zl : zs.length = k
  own : w.ownsRow lo 64 6 v k xs
  at_ : ∀ i, i < k → ∃ a cap xV, xs[i * 6]? = some (.int .i64 (nD (N i)).op) ∧ xs[i * 6 + 1]? = some (.int .i64 (nD (N i)).a) ∧ xs[i * 6 + 2]? = some (.int .i64 (nD (N i)).b) ∧ xs[i * 6 + 3]? = some (.int .i64 (nD (N i)).k) ∧ xs[i * 6 + 4]? = some (.int .i64 (nD (N i)).s) ∧ xs[i * 6 + 5]? = some (.slice a (vw (N i)).length cap) ∧
    OutR w 0 (.slice a (vw (N i)).length cap) (vw (N i)).length (wd (vw (N i))) (fun _ q => (lo ≤ q ∧ ¬ D q) ∧ v.ownBlock ≠ some q) xV ∧ (∀ g, (Value.slice a (vw (N i)).length cap).ownBlock = some g → (lo ≤ g ∧ ¬ D g) ∧ v.ownBlock ≠ some g) ∧ zs[i]? = some (.slice a (vw (N i)).length cap :: xV)

section
variable {w w' w1 : World} {lo k : Nat} {D : Nat → Prop} {v v' : Value} {N : Nat → List ByteArray} {xs : List Value} {zs : List (List Value)}
theorem OutM.chg {R : Nat → Prop} (h : OutM w lo D v k N xs zs) (s : Chg R w w') (hR : ∀ q, R q → D q) (hv : ∀ g, v.ownBlock = some g → ¬ R g) : OutM w' lo D v k N xs zs := by
  refine ⟨h.zl, own_blk' h.own (fun g e => s.block g (h.own.lt g e).2 (hv g e)), fun i hi => ?_⟩
  obtain ⟨a, cap, xV, h1, h2, h3, h4, h5, h6, O, ho, hz⟩ := h.at_ i hi
  exact ⟨a, cap, xV, h1, h2, h3, h4, h5, h6, O.chg s (fun g e e' => (ho g e).1.2 (hR g e')) (fun _ g hp e' => hp.1.2 (hR g e')), ho, hz⟩
theorem OutM.n (h : OutM w lo D v k N xs zs) : OutN w lo v k N xs zs := by
  refine ⟨h.zl, h.own, fun i hi => ?_⟩
  obtain ⟨a, cap, xV, h1, h2, h3, h4, h5, h6, O, ho, hz⟩ := h.at_ i hi
  exact ⟨a, cap, xV, h1, h2, h3, h4, h5, h6, O.imp' (fun _ _ _ _ hp => ⟨hp.1.1, hp.2⟩), fun g e => ⟨(ho g e).1.1, (ho g e).2⟩, hz⟩
theorem OutM.empty {N' : Nat → List ByteArray} (h : OutM w lo D v 0 N xs zs) (hb : ∀ g, v.ownBlock = some g → w'.heap[g]? = w.heap[g]?) : OutM w' lo D v 0 N' xs zs :=
  ⟨h.zl, own_blk' h.own hb, fun i hi => absurd hi (by omega)⟩
theorem OutM.keep (h : OutM w lo D v k N xs zs) (s : w.Since w.heap.size w') : OutM w' lo D v k N xs zs := by
  refine ⟨h.zl, own_keep' h.own s, fun i hi => ?_⟩
  obtain ⟨a, cap, xV, h1, h2, h3, h4, h5, h6, O, ho, hz⟩ := h.at_ i hi
  exact ⟨a, cap, xV, h1, h2, h3, h4, h5, h6, O.keep s, ho, hz⟩
theorem OutM.congr {N' : Nat → List ByteArray} (h : OutM w lo D v k N xs zs) (hN : ∀ i, i < k → N i = N' i) : OutM w lo D v k N' xs zs :=
  ⟨h.zl, h.own, fun i hi => by rw [← hN i hi]; exact h.at_ i hi⟩
theorem OutM.snoc (h : OutM w lo D v k N xs zs) (s1 : w.Since w.heap.size w1) (hs : w.heap.size < w1.heap.size) (g : w1.grownBy w' v.ownBlock) {a : Option Addr} {cap : Nat} {xV : List Value}
    (own : w'.ownsRow lo 64 6 v' (k + 1) (xs ++ [.int .i64 (nD (N k)).op, .int .i64 (nD (N k)).a, .int .i64 (nD (N k)).b, .int .i64 (nD (N k)).k, .int .i64 (nD (N k)).s, .slice a (vw (N k)).length cap]))
    (hat : v'.ownBlock = v.ownBlock ∨ v'.ownBlock = some w1.heap.size) (A : OutR w 0 (.slice a (vw (N k)).length cap) (vw (N k)).length (wd (vw (N k))) (fun _ q => (lo ≤ q ∧ ¬ D q) ∧ v.ownBlock ≠ some q) xV) (ho : ∀ g, (Value.slice a (vw (N k)).length cap).ownBlock = some g → (lo ≤ g ∧ ¬ D g) ∧ v.ownBlock ≠ some g) :
    OutM w' lo D v' (k + 1) N (xs ++ [.int .i64 (nD (N k)).op, .int .i64 (nD (N k)).a, .int .i64 (nD (N k)).b, .int .i64 (nD (N k)).k, .int .i64 (nD (N k)).s, .slice a (vw (N k)).length cap]) (zs ++ [.slice a (vw (N k)).length cap :: xV]) := by
  have hzl := h.zl
  have hl : xs.length = k * 6 := h.own.1
  have nv' : ∀ q, q < w.heap.size → v.ownBlock ≠ some q → v'.ownBlock ≠ some q := fun q hq hn e => by
    rcases hat with h | h
    · exact hn (h.symm.trans e)
    · rw [e] at h; simp at h; omega
  have kb : ∀ q, q < w.heap.size → v.ownBlock ≠ some q → w'.heap[q]? = w.heap[q]? := fun q hq hn => (g.block q (by omega) (fun e => hn e.symm)).trans (s1.block q hq)
  have mv : ∀ {a : Option Addr} {n cap : Nat} {x : Nat → ByteArray} {xV : List Value}, OutR w 0 (.slice a n cap) n x (fun _ q => (lo ≤ q ∧ ¬ D q) ∧ v.ownBlock ≠ some q) xV → (∀ g, (Value.slice a n cap).ownBlock = some g → (lo ≤ g ∧ ¬ D g) ∧ v.ownBlock ≠ some g) → OutR w' 0 (.slice a n cap) n x (fun _ q => (lo ≤ q ∧ ¬ D q) ∧ v'.ownBlock ≠ some q) xV ∧ (∀ g, (Value.slice a n cap).ownBlock = some g → (lo ≤ g ∧ ¬ D g) ∧ v'.ownBlock ≠ some g) := fun {a n cap x xV} O ho => by
    refine ⟨?_, fun q e => ⟨(ho q e).1, nv' q (O.own.lt q e).2 (ho q e).2⟩⟩
    have r2 := O.imp' (p' := fun _ q => (((lo ≤ q ∧ ¬ D q) ∧ v.ownBlock ≠ some q)) ∧ v'.ownBlock ≠ some q) (fun _ q _ hq hp => ⟨hp, nv' q hq hp.2⟩)
    have r3 := r2.blocks (w' := w') (by have := g.size; omega) (fun q e => kb q (O.own.lt q e).2 (ho q e).2) (fun _ q _ hq hp => kb q hq hp.1.2)
    exact r3.imp' (fun _ q _ _ hp => ⟨hp.1.1, hp.2⟩)
  refine ⟨by simp [hzl], own, fun i hi => ?_⟩
  by_cases e : i = k
  · subst e
    obtain ⟨m1, m2⟩ := mv A ho
    refine ⟨a, cap, xV, ?_, ?_, ?_, ?_, ?_, ?_, m1, m2, by rw [List.getElem?_append_right (by omega), hzl]; simp⟩
    all_goals (rw [List.getElem?_append_right (by omega), hl]; simp)
  · obtain ⟨a', cap', xV', h1, h2, h3, h4, h5, h6, O, ho', hz⟩ := h.at_ i (by omega)
    obtain ⟨m1, m2⟩ := mv O ho'
    exact ⟨a', cap', xV', by rw [List.getElem?_append_left (by omega)]; exact h1, by rw [List.getElem?_append_left (by omega)]; exact h2, by rw [List.getElem?_append_left (by omega)]; exact h3, by rw [List.getElem?_append_left (by omega)]; exact h4, by rw [List.getElem?_append_left (by omega)]; exact h5, by rw [List.getElem?_append_left (by omega)]; exact h6, m1, m2, by rw [List.getElem?_append_left (by omega)]; exact hz⟩
end

/-- Two lists of numbers that grow beside each other; D holds of other blocks. -/
structure TwoD (w : World) (lo : Nat) (D : Nat → Prop) (vW vB : Value) (lW lB : List ByteArray) (xW xB : List Value) : Prop where
  W : OutR w lo vW lW.length (wd lW) (fun _ q => lo ≤ q ∧ ¬ D q ∧ vB.ownBlock ≠ some q) xW
  B : OutR w lo vB lB.length (wd lB) (fun _ q => lo ≤ q ∧ ¬ D q ∧ vW.ownBlock ≠ some q) xB
  sep : ∀ g, vW.ownBlock = some g → vB.ownBlock ≠ some g
  dW : ∀ g, vW.ownBlock = some g → ¬ D g
  dB : ∀ g, vB.ownBlock = some g → ¬ D g

section
variable {w w' : World} {lo : Nat} {D : Nat → Prop} {vW vW' vB : Value} {lW lB l : List ByteArray} {xW xB xr : List Value}
theorem TwoD.swap (h : TwoD w lo D vW vB lW lB xW xB) : TwoD w lo D vB vW lB lW xB xW := ⟨h.B, h.W, fun g e e' => h.sep g e' e, h.dB, h.dW⟩
theorem TwoD.keep (h : TwoD w lo D vW vB lW lB xW xB) (s : w.Since w.heap.size w') : TwoD w' lo D vW vB lW lB xW xB := ⟨h.W.keep s, h.B.keep s, h.sep, h.dW, h.dB⟩
theorem TwoD.put (h : TwoD w lo D vW vB lW lB xW xB) {R : Nat → Prop} (s : Chg R w w') (hR : ∀ q, R q → D q) : TwoD w' lo D vW vB lW lB xW xB :=
  ⟨h.W.chg s (fun g e e' => h.dW g e (hR g e')) (fun _ _ hq e => hq.2.1 (hR _ e)), h.B.chg s (fun g e e' => h.dB g e (hR g e')) (fun _ _ hq e => hq.2.1 (hR _ e)), h.sep, h.dW, h.dB⟩
theorem TwoD.imp {D' : Nat → Prop} (h : TwoD w lo D vW vB lW lB xW xB) (hD : ∀ q, q < w.heap.size → D' q → D q) : TwoD w lo D' vW vB lW lB xW xB :=
  ⟨h.W.imp' (fun _ q _ hq hp => ⟨hp.1, fun e => hp.2.1 (hD q hq e), hp.2.2⟩), h.B.imp' (fun _ q _ hq hp => ⟨hp.1, fun e => hp.2.1 (hD q hq e), hp.2.2⟩), h.sep, fun g e e' => h.dW g e (hD g (h.W.own.lt g e).2 e'), fun g e e' => h.dB g e (hD g (h.B.own.lt g e).2 e')⟩
/-- The first of the two grown by numbers that lie from B on. -/
theorem TwoD.add {n B lo' : Nat} {vr : Value} (h : TwoD w lo D vW vB lW lB xW xB) (r : OutR w lo' vr n (wd l) (fun _ q => B ≤ q) xr) (hn : n ≤ l.length) (hl : lo ≤ lo') (hW : ∀ g, vW.ownBlock = some g → g < B) (hB : ∀ g, vB.ownBlock = some g → g < B) (hd : ∀ q, D q → q < B) (hlo : lo ≤ B) (hB' : B ≤ w.heap.size)
    (g : w.grownBy w' vW.ownBlock) (own : w'.ownsRow lo 61 3 vW' (lW.length + n) (xW ++ xr)) (hat : vW'.ownBlock = vW.ownBlock ∨ vW'.ownBlock = some w.heap.size) : TwoD w' lo D vW' vB (lW ++ l.take n) lB (xW ++ xr) xB := by
  have O1 := h.W.append (r.lower hl) g own hat (fun i q _ _ hq => ⟨⟨by omega, fun e => by have := hd q e; omega, fun e => by have := hB q e; omega⟩, fun e => by have := hW q e; omega⟩)
  have O2 : OutR w' lo vW' (lW ++ l.take n).length (wd (lW ++ l.take n)) (fun _ q => lo ≤ q ∧ ¬ D q ∧ vB.ownBlock ≠ some q) (xW ++ xr) := by
    have e1 : (lW ++ l.take n).length = lW.length + n := by rw [List.length_append, List.length_take, Nat.min_eq_left hn]
    rw [e1]
    refine O1.congr (fun i hi => ?_)
    rw [wd_append]
    show (if i < lW.length then wd lW i else wd l (i - lW.length)) = _
    split
    · rfl
    · exact (wd_take (by omega)).symm
  have hb1 : ∀ q, vW'.ownBlock = some q → vB.ownBlock ≠ some q := fun q e e' => by
    rcases hat with k | k
    · exact h.sep q (k.symm.trans e) e'
    · rw [e] at k; simp at k; have := hB q e'; omega
  have O3 : OutR w' lo vB lB.length (wd lB) (fun _ q => lo ≤ q ∧ ¬ D q ∧ vW'.ownBlock ≠ some q) xB := by
    have h1 := h.B.imp' (p' := fun _ q => (lo ≤ q ∧ ¬ D q ∧ vW.ownBlock ≠ some q) ∧ vW'.ownBlock ≠ some q) (fun i q _ hq hp => ⟨hp, fun e => by
      rcases hat with k | k
      · exact hp.2.2 (k.symm.trans e)
      · rw [e] at k; simp at k; omega⟩)
    have h2 := h1.chg (Chg.of_grown g) (fun q e e' => h.sep q e' e) (fun i q hq e' => hq.1.2.2 e')
    exact h2.imp' (fun i q _ _ hq => ⟨hq.1.1, hq.1.2.1, hq.2⟩)
  exact ⟨O2, O3, hb1, fun q e e' => by
    rcases hat with k | k
    · exact h.dW q (k.symm.trans e) e'
    · rw [e] at k; simp at k; have := hd q e'; omega, h.dB⟩
end

/-- What the gathering of a graph holds. -/
structure GaS (w wr : World) (d lo gN : Nat) (In Rd Out : Int) (lL lH : List ByteArray) (ns : List (Nat × List ByteArray)) (gL cL gH cH cN : Nat) (xL xH xN : List Value) (zs : List (List Value)) : Prop where
  S : w.Since w.heap.size wr
  R : Box6 wr w.heap.size (.int .i64 0) (.int .i64 0) (.slice none 0 0) (.slice none 0 0) (.slice none 0 0) (.int .i64 0)
  B : Box6 wr d (.int .i64 In) (.int .i64 Rd) (.slice (some ⟨gL, 0, none⟩) lL.length cL) (.slice (some ⟨gH, 0, none⟩) lH.length cH) (.slice (some ⟨gN, 0, none⟩) ns.length cN) (.int .i64 Out)
  T : TwoD wr lo (fun q => q = d ∨ q = gN) (.slice (some ⟨gL, 0, none⟩) lL.length cL) (.slice (some ⟨gH, 0, none⟩) lH.length cH) lL lH xL xH
  N : OutM wr lo (fun q => q = d) (.slice (some ⟨gN, 0, none⟩) ns.length cN) ns.length (lw ns) xN zs
  dN : gN ≠ d
  dd : lo ≤ d
  lo0 : w.heap.size < lo

section
variable {w wr wj : World} {d lo gN : Nat} {In Rd Out : Int} {lL lH : List ByteArray} {ns : List (Nat × List ByteArray)} {gL cL gH cH cN : Nat} {xL xH xN : List Value} {zs : List (List Value)}
theorem GaS.keep (h : GaS w wr d lo gN In Rd Out lL lH ns gL cL gH cH cN xL xH xN zs) (s : wr.Since wr.heap.size wj) : GaS w wj d lo gN In Rd Out lL lH ns gL cL gH cH cN xL xH xN zs :=
  ⟨h.S.trans (sinceMono s h.S.size), h.R.keep s, h.B.keep s, h.T.keep s, h.N.keep s, h.dN, h.dd, h.lo0⟩
/-- A store into the graph's own box. -/
theorem GaS.put (h : GaS w wr d lo gN In Rd Out lL lH ns gL cL gH cH cN xL xH xN zs) {f : Nat} {x : Value} {In' Rd' Out' : Int}
    (n : Box6 (wr.setCell ⟨d, f, none⟩ x) d (.int .i64 In') (.int .i64 Rd') (.slice (some ⟨gL, 0, none⟩) lL.length cL) (.slice (some ⟨gH, 0, none⟩) lH.length cH) (.slice (some ⟨gN, 0, none⟩) ns.length cN) (.int .i64 Out')) : GaS w (wr.setCell ⟨d, f, none⟩ x) d lo gN In' Rd' Out' lL lH ns gL cL gH cH cN xL xH xN zs := by
  have BS : But d wr (wr.setCell ⟨d, f, none⟩ x) := (But.refl _ wr).set f x
  have l := h.lo0
  have l2 := h.dd
  exact ⟨since_set h.S (by omega), h.R.but BS (by omega), n, h.T.put BS.c (fun q e => Or.inl (by simpa using e)), h.N.chg BS.c (fun q e => by simpa using e) (fun g e => by simp [Value.ownBlock] at e; have := h.dN; simp; omega), h.dN, h.dd, h.lo0⟩

theorem GaS.start (S : w.Since w.heap.size wr) (R : Box6 wr w.heap.size (.int .i64 0) (.int .i64 0) (.slice none 0 0) (.slice none 0 0) (.slice none 0 0) (.int .i64 0)) :
    GaS w ((((wr.alloc (.cells #[] 61)).alloc (.cells #[] 61)).alloc (.cells #[] 64)).alloc (.cells #[.int .i64 0, .int .i64 0, .slice (some ⟨wr.heap.size, 0, none⟩) 0 0, .slice (some ⟨wr.heap.size + 1, 0, none⟩) 0 0, .slice (some ⟨wr.heap.size + 1 + 1, 0, none⟩) 0 0, .int .i64 0] 33))
      (wr.heap.size + 1 + 1 + 1) wr.heap.size (wr.heap.size + 1 + 1) 0 0 0 [] [] [] wr.heap.size 0 (wr.heap.size + 1) 0 0 [] [] [] [] := by
  obtain ⟨wa, ea⟩ : ∃ x, x = wr.alloc (.cells #[] 61) := ⟨_, rfl⟩
  have sa : wr.Since wr.heap.size wa := by rw [ea]; exact (World.Since.refl _ _).alloc (Nat.le_refl _) _
  have za : wa.heap.size = wr.heap.size + 1 := by rw [ea]; simp
  have oa : wa.ownsRow wr.heap.size 61 3 (.slice (some ⟨wr.heap.size, 0, none⟩) 0 0) 0 [] := by rw [ea]; exact World.ownsRow_made wr #[] 0 (Nat.le_refl _) (Nat.zero_le _) rfl
  rw [← ea]
  obtain ⟨wb, eb⟩ : ∃ x, x = wa.alloc (.cells #[] 61) := ⟨_, rfl⟩
  have sb : wa.Since wa.heap.size wb := by rw [eb]; exact (World.Since.refl _ _).alloc (Nat.le_refl _) _
  have zb : wb.heap.size = wr.heap.size + 1 + 1 := by rw [eb, ← za]; simp
  have ob : wb.ownsRow wr.heap.size 61 3 (.slice (some ⟨wr.heap.size + 1, 0, none⟩) 0 0) 0 [] := by rw [eb, ← za]; exact World.ownsRow_made wa #[] 0 (by omega) (Nat.zero_le _) rfl
  rw [← eb]
  obtain ⟨wc, ec⟩ : ∃ x, x = wb.alloc (.cells #[] 64) := ⟨_, rfl⟩
  have sc : wb.Since wb.heap.size wc := by rw [ec]; exact (World.Since.refl _ _).alloc (Nat.le_refl _) _
  have zc : wc.heap.size = wr.heap.size + 1 + 1 + 1 := by rw [ec, ← zb]; simp
  have oc : wc.ownsRow wr.heap.size 64 6 (.slice (some ⟨wr.heap.size + 1 + 1, 0, none⟩) 0 0) 0 [] := by rw [ec, ← zb]; exact World.ownsRow_made wb #[] 0 (by omega) (Nat.zero_le _) rfl
  rw [← ec]
  have bd := Box6.new wc (.int .i64 0) (.int .i64 0) (.slice (some ⟨wr.heap.size, 0, none⟩) 0 0) (.slice (some ⟨wr.heap.size + 1, 0, none⟩) 0 0) (.slice (some ⟨wr.heap.size + 1 + 1, 0, none⟩) 0 0) (.int .i64 0) 33
  obtain ⟨wd', ed⟩ : ∃ x, x = wc.alloc (.cells #[.int .i64 0, .int .i64 0, .slice (some ⟨wr.heap.size, 0, none⟩) 0 0, .slice (some ⟨wr.heap.size + 1, 0, none⟩) 0 0, .slice (some ⟨wr.heap.size + 1 + 1, 0, none⟩) 0 0, .int .i64 0] 33) := ⟨_, rfl⟩
  have sd : wc.Since wc.heap.size wd' := by rw [ed]; exact (World.Since.refl _ _).alloc (Nat.le_refl _) _
  rw [← ed, zc] at bd
  rw [← ed]
  have hR := R.lt
  exact ⟨(((S.trans (sinceMono sa S.size)).trans (sinceMono sb (by omega))).trans (sinceMono sc (by omega))).trans (sinceMono sd (by omega)), (((R.keep sa).keep sb).keep sc).keep sd, bd,
    ⟨⟨own_keep' (own_keep' (own_keep' oa sb) sc) sd, fun i hi => absurd hi (by simp)⟩, ⟨own_keep' (own_keep' ob sc) sd, fun i hi => absurd hi (by simp)⟩, fun g e e' => by simp [Value.ownBlock] at e e'; omega, fun g e e' => by simp [Value.ownBlock] at e; omega, fun g e e' => by simp [Value.ownBlock] at e; omega⟩,
    ⟨rfl, own_keep' oc sd, fun i hi => absurd hi (by simp)⟩, by omega, by omega, hR⟩

/-- A number more at the first list. -/
theorem GaS.addL (h : GaS w wr d lo gN In Rd Out lL lH [] gL cL gH cH cN xL xH xN zs) {w7 w8 : World} {b : Bool} {u1 u2 : Value} {x : ByteArray} {g5 c5 : Nat} (u : wr.Since wr.heap.size w7) (W : WordR w7 (fun q => wr.heap.size ≤ q) (.agg #[.bool b, u1, u2]) x) (hb : (parseO x).1 = b)
    (hg : (w7.alloc (.cells #[.bool b, u1, u2] 61)).grownBy w8 (some gL)) (ho : w8.ownsRow lo 61 3 (.slice (some ⟨g5, 0, none⟩) (lL.length + 1) c5) (lL.length + 1) (xL ++ [.bool b, u1, u2])) (hat : g5 = gL ∨ g5 = w7.heap.size + 1) :
    GaS w (w8.setCell ⟨d, 2, none⟩ (.slice (some ⟨g5, 0, none⟩) (lL.length + 1) c5)) d lo gN In Rd Out (lL ++ [x]) lH [] g5 c5 gH cH cN (xL ++ [.bool b, u1, u2]) xH xN zs := by
  have sW := (World.Since.refl w7.heap.size w7).alloc (Nat.le_refl _) (.cells #[.bool b, u1, u2] 61)
  have zW : (w7.alloc (.cells #[.bool b, u1, u2] 61)).heap.size = w7.heap.size + 1 := by simp
  have k := (h.keep u).keep sW
  have z7 := u.size
  have z8 := hg.size
  have l1 := h.dd
  have l2 := h.lo0
  have ld := h.B.lt
  have lL' := h.T.W.own.lt gL rfl
  have lH' := h.T.B.own.lt gH rfl
  have lN := h.N.own.lt gN rfl
  have dL : ¬ (gL = d ∨ gL = gN) := h.T.dW gL rfl
  have T8 := k.T.add (OutR.one W hb) (Nat.le_refl _) (by omega) (fun q e => by simp [Value.ownBlock] at e; omega) (fun q e => by simp [Value.ownBlock] at e; omega) (fun q e => by omega) (by omega) (by omega) (w' := w8) (vW' := .slice (some ⟨g5, 0, none⟩) (lL.length + 1) c5) hg ho (by
    rcases hat with h9 | h9
    · left; rw [h9]; rfl
    · right; rw [h9, zW]; rfl)
  have B8 := k.B.chg (Chg.of_grown hg) (fun e => dL (Or.inl (by simpa using e)))
  have BS : But d w8 (w8.setCell ⟨d, 2, none⟩ (.slice (some ⟨g5, 0, none⟩) (lL.length + 1) c5)) := (But.refl d w8).set 2 _
  have e1 : (lL ++ [x]).length = lL.length + 1 := by simp
  have N8 : OutM w8 lo (fun q => q = d) (.slice (some ⟨gN, 0, none⟩) 0 cN) 0 (lw []) xN zs := OutM.empty k.N (fun g e => by
    simp [Value.ownBlock] at e
    subst e
    exact hg.block gN (by omega) (fun e => dL (Or.inr (by simpa using e.symm))))
  refine ⟨since_set ((k.S).grown hg (by omega) (fun q hq => by simp at hq; omega)) (by omega), (k.R.chg (Chg.of_grown hg) (fun e => by simp at e; omega)).but BS (by omega), ?_, ?_, ?_, h.dN, h.dd, h.lo0⟩
  · rw [e1]; exact B8.set2 _
  · rw [e1]; exact T8.put BS.c (fun q e => Or.inl (by simpa using e))
  · exact N8.chg BS.c (fun q e => by simpa using e) (fun g e => by simp [Value.ownBlock] at e; have := h.dN; simp; omega)

/-- A number more at the second list. -/
theorem GaS.addH (h : GaS w wr d lo gN In Rd Out lL lH [] gL cL gH cH cN xL xH xN zs) {w7 w8 : World} {b : Bool} {u1 u2 : Value} {x : ByteArray} {g5 c5 : Nat} (u : wr.Since wr.heap.size w7) (W : WordR w7 (fun q => wr.heap.size ≤ q) (.agg #[.bool b, u1, u2]) x) (hb : (parseO x).1 = b)
    (hg : (w7.alloc (.cells #[.bool b, u1, u2] 61)).grownBy w8 (some gH)) (ho : w8.ownsRow lo 61 3 (.slice (some ⟨g5, 0, none⟩) (lH.length + 1) c5) (lH.length + 1) (xH ++ [.bool b, u1, u2])) (hat : g5 = gH ∨ g5 = w7.heap.size + 1) :
    GaS w (w8.setCell ⟨d, 3, none⟩ (.slice (some ⟨g5, 0, none⟩) (lH.length + 1) c5)) d lo gN In Rd Out lL (lH ++ [x]) [] gL cL g5 c5 cN xL (xH ++ [.bool b, u1, u2]) xN zs := by
  have sW := (World.Since.refl w7.heap.size w7).alloc (Nat.le_refl _) (.cells #[.bool b, u1, u2] 61)
  have zW : (w7.alloc (.cells #[.bool b, u1, u2] 61)).heap.size = w7.heap.size + 1 := by simp
  have k := (h.keep u).keep sW
  have z7 := u.size
  have z8 := hg.size
  have l1 := h.dd
  have l2 := h.lo0
  have ld := h.B.lt
  have lL' := h.T.W.own.lt gL rfl
  have lH' := h.T.B.own.lt gH rfl
  have lN := h.N.own.lt gN rfl
  have dL : ¬ (gH = d ∨ gH = gN) := h.T.dB gH rfl
  have T8 := (k.T.swap.add (OutR.one W hb) (Nat.le_refl _) (by omega) (fun q e => by simp [Value.ownBlock] at e; omega) (fun q e => by simp [Value.ownBlock] at e; omega) (fun q e => by omega) (by omega) (by omega) (w' := w8) (vW' := .slice (some ⟨g5, 0, none⟩) (lH.length + 1) c5) hg ho (by
    rcases hat with h9 | h9
    · left; rw [h9]; rfl
    · right; rw [h9, zW]; rfl)).swap
  have B8 := k.B.chg (Chg.of_grown hg) (fun e => dL (Or.inl (by simpa using e)))
  have BS : But d w8 (w8.setCell ⟨d, 3, none⟩ (.slice (some ⟨g5, 0, none⟩) (lH.length + 1) c5)) := (But.refl d w8).set 3 _
  have e1 : (lH ++ [x]).length = lH.length + 1 := by simp
  have N8 : OutM w8 lo (fun q => q = d) (.slice (some ⟨gN, 0, none⟩) 0 cN) 0 (lw []) xN zs := OutM.empty k.N (fun g e => by
    simp [Value.ownBlock] at e
    subst e
    exact hg.block gN (by omega) (fun e => dL (Or.inr (by simpa using e.symm))))
  refine ⟨since_set ((k.S).grown hg (by omega) (fun q hq => by simp at hq; omega)) (by omega), (k.R.chg (Chg.of_grown hg) (fun e => by simp at e; omega)).but BS (by omega), ?_, ?_, ?_, h.dN, h.dd, h.lo0⟩
  · rw [e1]; exact B8.set3 _
  · rw [e1]; exact T8.put BS.c (fun q e => Or.inl (by simpa using e))
  · exact N8.chg BS.c (fun q e => by simpa using e) (fun g e => by simp [Value.ownBlock] at e; have := h.dN; simp; omega)

/-- A node more. -/
theorem GaS.addN (h : GaS w wr d lo gN In Rd Out lL lH ns gL cL gH cH cN xL xH xN zs) {w7 w8 : World} {nn : Nat} {ws : List ByteArray} {ad : Option Addr} {cap : Nat} {xV : List Value} {g5 c5 : Nat} (u : wr.Since wr.heap.size w7)
    (O : OutR w7 wr.heap.size (.slice ad (vw ws).length cap) (vw ws).length (wd (vw ws)) (fun _ q => wr.heap.size ≤ q) xV)
    (hg : (w7.alloc (.cells #[.int .i64 (nD ws).op, .int .i64 (nD ws).a, .int .i64 (nD ws).b, .int .i64 (nD ws).k, .int .i64 (nD ws).s, .slice ad (vw ws).length cap] 64)).grownBy w8 (some gN))
    (ho : w8.ownsRow lo 64 6 (.slice (some ⟨g5, 0, none⟩) (ns.length + 1) c5) (ns.length + 1) (xN ++ [.int .i64 (nD ws).op, .int .i64 (nD ws).a, .int .i64 (nD ws).b, .int .i64 (nD ws).k, .int .i64 (nD ws).s, .slice ad (vw ws).length cap])) (hat : g5 = gN ∨ g5 = w7.heap.size + 1) :
    GaS w (w8.setCell ⟨d, 4, none⟩ (.slice (some ⟨g5, 0, none⟩) (ns.length + 1) c5)) d lo g5 In Rd Out lL lH (ns ++ [(nn, ws)]) gL cL gH cH c5 xL xH (xN ++ [.int .i64 (nD ws).op, .int .i64 (nD ws).a, .int .i64 (nD ws).b, .int .i64 (nD ws).k, .int .i64 (nD ws).s, .slice ad (vw ws).length cap]) (zs ++ [.slice ad (vw ws).length cap :: xV]) := by
  obtain ⟨O9, eO⟩ : ∃ o : Obj, o = .cells #[.int .i64 (nD ws).op, .int .i64 (nD ws).a, .int .i64 (nD ws).b, .int .i64 (nD ws).k, .int .i64 (nD ws).s, .slice ad (vw ws).length cap] 64 := ⟨_, rfl⟩
  rw [← eO] at hg
  have sW := (World.Since.refl w7.heap.size w7).alloc (Nat.le_refl _) O9
  have zW : (w7.alloc O9).heap.size = w7.heap.size + 1 := by simp
  have k7 := h.keep u
  have k := k7.keep sW
  have z7 := u.size
  have z8 := hg.size
  have l1 := h.dd
  have l2 := h.lo0
  have ld := h.B.lt
  have lN := h.N.own.lt gN rfl
  have dN := h.dN
  have T8 : TwoD w8 lo (fun q => q = d ∨ q = gN ∨ q = g5) (.slice (some ⟨gL, 0, none⟩) lL.length cL) (.slice (some ⟨gH, 0, none⟩) lH.length cH) lL lH xL xH := (k.T.imp (D' := fun q => q = d ∨ q = gN ∨ q = g5) (fun q hq e => by omega)).put (Chg.of_grown hg) (fun q e => by have e' : some gN = some q := e; simp at e'; omega)
  have T9 := T8.imp (D' := fun q => q = d ∨ q = g5) (fun q hq e => by omega)
  have B8 := k.B.chg (Chg.of_grown hg) (fun e => by simp at e; omega)
  have BS : But d w8 (w8.setCell ⟨d, 4, none⟩ (.slice (some ⟨g5, 0, none⟩) (ns.length + 1) c5)) := (But.refl d w8).set 4 _
  have e1 : (ns ++ [(nn, ws)]).length = ns.length + 1 := by simp
  have eR : lw (ns ++ [(nn, ws)]) ns.length = ws := lw_right ns (nn, ws)
  have N8 := (k7.N.congr (N' := lw (ns ++ [(nn, ws)])) (fun i hi => (lw_left hi).symm)).snoc sW (by omega) hg (v' := .slice (some ⟨g5, 0, none⟩) (ns.length + 1) c5) (a := ad) (cap := cap) (xV := xV) (by rw [eR]; exact ho) (by
    rcases hat with h9 | h9
    · left; rw [h9]; rfl
    · right; rw [h9, zW]; rfl) (by
      rw [eR]
      exact (O.lower (Nat.zero_le _)).imp' (fun _ q _ hq hp => ⟨⟨by omega, by omega⟩, fun e => by simp [Value.ownBlock] at e; omega⟩)) (by
      rw [eR]
      intro g e
      have := (O.own.lt g e).1
      exact ⟨⟨by omega, by omega⟩, fun e' => by simp [Value.ownBlock] at e'; omega⟩)
  rw [eR] at N8
  have g5d : g5 ≠ d := by omega
  refine ⟨since_set ((k.S).grown hg (by omega) (fun q hq => by simp at hq; omega)) (by omega), (k.R.chg (Chg.of_grown hg) (fun e => by simp at e; omega)).but BS (by omega), ?_, ?_, ?_, g5d, h.dd, h.lo0⟩
  · rw [e1]; exact B8.set4 _
  · exact T9.put BS.c (fun q e => Or.inl (by simpa using e))
  · rw [e1]; exact N8.chg BS.c (fun q e => by simpa using e) (fun g e e' => by
      have e3 : d = g := by simpa using e'.symm
      simp [Value.ownBlock] at e
      omega)
end

end Go.Proofs.YtnogbaapcjjngaaGreatDoor

namespace Go.Proofs.YtnogbaapcjjngaaGreatDoor
open Go.RowKit

theorem TwoD.low {w : World} {lo : Nat} {D : Nat → Prop} {vW vB : Value} {lW lB : List ByteArray} {xW xB : List Value} (h : TwoD w lo D vW vB lW lB xW xB) : TwoD w lo (fun q => q < lo) vW vB lW lB xW xB :=
  ⟨h.W.imp' (fun _ q _ hq hp => ⟨hp.1, by omega, hp.2.2⟩), h.B.imp' (fun _ q _ hq hp => ⟨hp.1, by omega, hp.2.2⟩), h.sep, fun g e e' => by have := (h.W.own.lt g e).1; omega, fun g e e' => by have := (h.B.own.lt g e).1; omega⟩

theorem results_graph_tmp {fn : Func} {p q s : Tmp} (h : fn.results = #[.cell p 33, .tmp q, .tmp s]) (tmps : Array Value) (w : World) (c : Nat) (x0 x1 x2 x3 x4 x5 : Value)
    (hp : tmps.getD p undef = .pointer (some ⟨c, 0, none⟩)) (B : Box6 w c x0 x1 x2 x3 x4 x5) : (results fn tmps).run Tryz.prog w = .ok (.tuple #[.agg #[x0, x1, x2, x3, x4, x5], tmps.getD q undef, tmps.getD s undef]) w := by
  have hp' : tmps[p]?.getD undef = .pointer (some ⟨c, 0, none⟩) := by simpa using hp
  have hl := run_loadVar_mid (P := Tryz.prog) w c 0 33 [x0, x1, x2, x3, x4, x5] _ (fun j v hv => by
    rcases j with _ | _ | _ | _ | _ | _ | j
    · simp at hv; subst hv; exact B.c0
    · simp at hv; subst hv; exact B.c1
    · simp at hv; subst hv; exact B.c2
    · simp at hv; subst hv; exact B.c3
    · simp at hv; subst hv; exact B.c4
    · simp at hv; subst hv; exact B.c5
    · simp at hv) Tryz.underlying33 rfl size_graph
  simp [results, h, hp', asAddr, hl]

/-- How spec.ParseGraph ends. -/
def SgE (w' : World) (s : ByteArray) (ls : List (Nat × List ByteArray)) (T : Nat) (e : Ending) : Prop :=
  (20000 < s.size ∧ e = .returned (.tuple #[zG, .int .i64 1, .int .i64 0])) ∨
  (s.size ≤ 20000 ∧ ∃ p : Nat, BadAt ls p ∧ e = .returned (.tuple #[zG, .int .i64 2, .int .i64 (p : Int)])) ∨
  (s.size ≤ 20000 ∧ EndBad ls ∧ e = .returned (.tuple #[zG, .int .i64 2, .int .i64 ((T : Int) + 1)])) ∨
  (s.size ≤ 20000 ∧ ∃ x1 x2 xo bs ns aL cL aH cH aN cN xL xH xN zs lo D, GoodS ls x1 x2 xo bs ns ∧ e = .returned (.tuple #[.agg #[.int .i64 (dv x1 x1.size : Nat), .int .i64 (dv x2 x2.size : Nat), .slice aL bs.length cL, .slice aH bs.length cH, .slice aN ns.length cN, .int .i64 (dv xo xo.size : Nat)], .int .i64 0, .int .i64 0]) ∧ TwoD w' lo D (.slice aL bs.length cL) (.slice aH bs.length cH) (sL bs) (sH bs) xL xH ∧ OutN w' lo (.slice aN ns.length cN) ns.length (lw ns) xN zs)

theorem ret_graph {w1 : World} {c : Nat} (B : Box6 w1 c (.int .i64 0) (.int .i64 0) (.slice none 0 0) (.slice none 0 0) (.slice none 0 0) (.int .i64 0)) (x0 x1 x2 x3 x4 x5 : Value) :
    Box6 ((((((w1.setCell ⟨c, 0, none⟩ x0).setCell ⟨c, 1, none⟩ x1).setCell ⟨c, 2, none⟩ x2).setCell ⟨c, 3, none⟩ x3).setCell ⟨c, 4, none⟩ x4).setCell ⟨c, 5, none⟩ x5) c x0 x1 x2 x3 x4 x5 :=
  (((((B.set0 x0).set1 x1).set2 x2).set3 x3).set4 x4).set5 x5

set_option maxHeartbeats 12800000 in
set_option maxRecDepth 100000 in
theorem specParseGraph_any (s : ByteArray) (w : World) (hs : s.size ≤ 9223372036854775807) :
    Calls Tryz.prog 11 #[.string s] w fun e w' => w.Since w.heap.size w' ∧ SgE w' s (lnsF 0 (pcs 10 s)) (pcs 10 s).length e := by
  have sA : w.Since w.heap.size (w.alloc (.cells #[.int .i64 0, .int .i64 0, .slice none 0 0, .slice none 0 0, .slice none 0 0, .int .i64 0] 33)) := (World.Since.refl _ _).alloc (Nat.le_refl _) _
  have bA := Box6.new w (.int .i64 0) (.int .i64 0) (.slice none 0 0) (.slice none 0 0) (.slice none 0 0) (.int .i64 0) 33
  have ZA : (w.alloc (.cells #[.int .i64 0, .int .i64 0, .slice none 0 0, .slice none 0 0, .slice none 0 0, .int .i64 0] 33)).heap.size = w.heap.size + 1 := by simp
  have FIN : Hid (∀ (w1 : World), w.Since w.heap.size w1 → Box6 w1 w.heap.size (.int .i64 0) (.int .i64 0) (.slice none 0 0) (.slice none 0 0) (.slice none 0 0) (.int .i64 0) → ∀ x0 x1 x2 x3 x4 x5 : Value, Box6 ((((((w1.setCell ⟨w.heap.size, 0, none⟩ x0).setCell ⟨w.heap.size, 1, none⟩ x1).setCell ⟨w.heap.size, 2, none⟩ x2).setCell ⟨w.heap.size, 3, none⟩ x3).setCell ⟨w.heap.size, 4, none⟩ x4).setCell ⟨w.heap.size, 5, none⟩ x5) w.heap.size x0 x1 x2 x3 x4 x5 ∧ w.Since w.heap.size ((((((w1.setCell ⟨w.heap.size, 0, none⟩ x0).setCell ⟨w.heap.size, 1, none⟩ x1).setCell ⟨w.heap.size, 2, none⟩ x2).setCell ⟨w.heap.size, 3, none⟩ x3).setCell ⟨w.heap.size, 4, none⟩ x4).setCell ⟨w.heap.size, 5, none⟩ x5)) := hide (fun w1 s1 b x0 x1 x2 x3 x4 x5 => ⟨ret_graph b _ _ _ _ _ _, since_set (since_set (since_set (since_set (since_set (since_set s1 (Nat.le_refl _)) (Nat.le_refl _)) (Nat.le_refl _)) (Nat.le_refl _)) (Nat.le_refl _)) (Nat.le_refl _)⟩)
  by_cases hlong : 20000 < s.size
  · have hzl : (20000 : Int) < (s.size : Int) := by omega
    have a0 := bA.c0
    have fa0 := bA.f 0
    have a1 := bA.c1
    have fa1 := bA.f 1
    have a2 := bA.c2
    have fa2 := bA.f 2
    have a3 := bA.c3
    have fa3 := bA.f 3
    have a4 := bA.c4
    have fa4 := bA.f 4
    have a5 := bA.c5
    have fa5 := bA.f 5
    go_enter Tryz.func11, Tryz.ntmps11
    go_wp2
    exact bodyPost_ret (results_graph_tmp rfl _ _ _ _ _ _ _ _ _ rfl bA) rfl ⟨sA, Or.inl ⟨hlong, rfl⟩⟩
  have hzl : ¬ (20000 : Int) < (s.size : Int) := by omega
  have hle : s.size ≤ 20000 := by omega
  have Z := lnsF_z (s := s) (by omega)
  have JL := l2Lines_q s (w.alloc (.cells #[.int .i64 0, .int .i64 0, .slice none 0 0, .slice none 0 0, .slice none 0 0, .int .i64 0] 33)) (by omega)
  have hPL := pcs_len 10 s
  obtain ⟨ls, hls⟩ : ∃ ls, lnsF 0 (pcs 10 s) = ls := ⟨_, rfl⟩
  unfold LinesE at JL
  rw [hls] at Z JL ⊢
  clear hls
  obtain ⟨T, hT⟩ : ∃ T, (pcs 10 s).length = T := ⟨_, rfl⟩
  rw [hT] at JL hPL ⊢
  clear hT
  have hll := Z.len
  go_enter Tryz.func11, Tryz.ntmps11
  go_wp2_with fail
  generalize w.alloc (.cells #[.int .i64 0, .int .i64 0, .slice none 0 0, .slice none 0 0, .slice none 0 0, .int .i64 0] 33) = wA at *
  refine JL.mono ?_
  rintro e w1 ⟨gl, cl, rfl, LL, s1, hcl⟩
  have S1 : w.Since w.heap.size w1 := sA.trans (sinceMono s1 sA.size)
  have b1 := hide (bA.keep s1)
  have HZ := hide Z
  have HLL := hide LL
  clear JL Z bA LL
  obtain ⟨N, hN⟩ : ∃ N, ls.length = N := ⟨_, rfl⟩
  rw [hN] at hll hcl ⊢
  have HNL := hide hN
  clear hN
  go_wp2_with fail
  go_loopw [7] (fun i wr => ∃ (k : Nat), k ≤ N ∧ i = .int .i64 (k : Int) ∧ w.Since w.heap.size wr ∧ w1.Since w1.heap.size wr ∧ Hid (AllMay (ls.take k))) (fun i _ => N - (intOf i).toNat)
  case atStart => exact ⟨0, Nat.zero_le _, rfl, S1, World.Since.refl _ _, hide (by rw [List.take_zero]; exact AllMay.nil)⟩
  case round =>
    obtain ⟨k, hk, rfl, S, s2, HM⟩ := hrel
    by_cases hlt : k < N
    · have hzk : (k : Int) < (N : Int) := by omega
      have hkl : k < ls.length := by rw [HNL.out]; exact hlt
      obtain ⟨n, hn⟩ : ∃ n, (ls[k]).1 = n := ⟨_, rfl⟩
      obtain ⟨ws, hws⟩ : ∃ ws, (ls[k]).2 = ws := ⟨_, rfl⟩
      have hg : ls[k]? = some (n, ws) := by rw [List.getElem?_eq_getElem hkl, ← hn, ← hws]
      have HG := hide hg
      obtain ⟨q, cq, c0, c1, C⟩ := (HLL.out.keep s2).c HZ.out hg
      have dr : wr.Since wr.heap.size wr.drew := (World.Since.refl _ _).drew
      have J := l2May_q gl cl k q cq ls ws wr.drew ((HLL.out.keep s2).keep dr) HZ.out (by omega) HM.out (C.keep dr)
      have c1d : wr.drew.cell? ⟨gl, k * 2 + 1, none⟩ = some (.slice (some ⟨q, 0, none⟩) ws.length cq) := c1
      have hkc : k ≤ cl := by omega
      have hkc' : (k : Int) ≤ (cl : Int) := by omega
      have hkc2 : ¬ ((cl : Int) < (k : Int)) := by omega
      have hk0 : (0 : Int) ≤ (k : Int) := by omega
      have C0 := hide c0
      clear hn hws hg hkl C c0
      go_wp2_with fail
      go_region_law
        (go_simp
         go_at_call 31
         with_reducible refine J.mono ?_
         rintro e w3 ⟨r, rfl, ir, s3⟩
         have IR := hide ir
         clear ir)
      all_goals
        clear J c1 c1d
        have u3 : wr.Since wr.heap.size w3 := dr.trans (sinceMono s3 dr.size)
        have S3 := S.trans (sinceMono u3 S.size)
        have t3 := s2.trans (sinceMono u3 s2.size)
        have ELS : Hid (ls = ls.take k ++ (n, ws) :: ls.drop (k + 1)) := hide (by
          have h9 := drop_get (show k < ls.length by rw [HNL.out]; exact hlt)
          have h8 := HG.out
          rw [List.getElem?_eq_getElem (show k < ls.length by rw [HNL.out]; exact hlt)] at h8
          simp only [Option.some.injEq] at h8
          rw [h8] at h9
          rw [← h9, List.take_append_drop])
        cases r
        · have HE : Hid (BadAt ls n) := hide ⟨_, _, _, ELS.out, HM.out, fun hm => by have := IR.out.2 hm; simp at this⟩
          have b3 := b1.out.keep t3
          have c0 := (((u3.cell (a := ⟨gl, k * 2, none⟩) (World.block_lt_of_cell? _ _ C0.out))).trans C0.out)
          have c0d : w3.drew.cell? ⟨gl, k * 2, none⟩ = some (.int .i64 (n : Int)) := c0
          have a0 := b3.c0
          have fa0 := b3.f 0
          have a1 := b3.c1
          have fa1 := b3.f 1
          have a2 := b3.c2
          have fa2 := b3.f 2
          have a3 := b3.c3
          have fa3 := b3.f 3
          have a4 := b3.c4
          have fa4 := b3.f 4
          have a5 := b3.c5
          have fa5 := b3.f 5
          have hne : w.heap.size ≠ gl := fun e => by
            have h0 : 0 < ls.length := by rw [HNL.out]; omega
            obtain ⟨q0, cq0, -, h1, -⟩ := HLL.out.c HZ.out (j := 0) (n := (ls[0]).1) (ws := (ls[0]).2) (by rw [List.getElem?_eq_getElem h0])
            have h2 := b1.out.c1
            rw [e] at h2
            rw [Nat.zero_mul, Nat.zero_add, h2] at h1
            simp at h1
          clear IR ELS
          go_wp2_with fail
          go_region
          all_goals
            go_wp2
            obtain ⟨B9, S9⟩ := FIN.out _ S3 (b1.out.keep t3) (.int .i64 0) (.int .i64 0) (.slice none 0 0) (.slice none 0 0) (.slice none 0 0) (.int .i64 0)
            exact bodyPost_ret (results_graph_tmp rfl _ _ _ _ _ _ _ _ _ rfl (B9.keep (World.Since.refl _ _).drew)) rfl ⟨S9.trans (sinceMono (World.Since.refl _ _).drew S9.size), Or.inr (Or.inl ⟨hle, n, HE.out, rfl⟩)⟩
        · have HM2 : Hid (AllMay (ls.take (k + 1))) := hide (by
            have h9 := HM.out.snoc (x := (n, ws)) (IR.out.1 (by simp))
            rw [List.take_add_one, HG.out]
            exact h9)
          clear IR ELS
          go_wp2
          go_roundw
          case rel => exact ⟨k + 1, by omega, by go_num, S3, t3, HM2⟩
          case measure => simp [intOf]; omega
    · have e : k = N := by omega
      subst e
      have hzk : ¬ ((k : Int) < (k : Int)) := by omega
      have hMA : AllMay ls := by have := HM.out; rw [← HNL.out, List.take_length] at this; exact this
      have HMA := hide hMA
      clear HM hMA
      have b2 := b1.out.keep s2
      have a0 := b2.c0
      have fa0 := b2.f 0
      have a1 := b2.c1
      have fa1 := b2.f 1
      have a2 := b2.c2
      have fa2 := b2.f 2
      have a3 := b2.c3
      have fa3 := b2.f 3
      have a4 := b2.c4
      have fa4 := b2.f 4
      have a5 := b2.c5
      have fa5 := b2.f 5
      match k with
      | 0 =>
        have HE : Hid (EndBad ls) := hide ⟨HMA.out, fun x hx => by
          rw [list0 HNL.out] at hx
          simp at hx⟩
        go_wp2
        obtain ⟨B9, S9⟩ := FIN.out _ S b2 (.int .i64 0) (.int .i64 0) (.slice none 0 0) (.slice none 0 0) (.slice none 0 0) (.int .i64 0)
        exact bodyPost_ret (results_graph_tmp rfl _ _ _ _ _ _ _ _ _ rfl B9) rfl ⟨S9, Or.inr (Or.inr (Or.inl ⟨hle, HE.out, rfl⟩))⟩
      | k + 1 =>
      have hkl : k < ls.length := by rw [HNL.out]; omega
      obtain ⟨n, hn⟩ : ∃ n, (ls[k]).1 = n := ⟨_, rfl⟩
      obtain ⟨ws, hws⟩ : ∃ ws, (ls[k]).2 = ws := ⟨_, rfl⟩
      have hg : ls[k]? = some (n, ws) := by rw [List.getElem?_eq_getElem hkl, ← hn, ← hws]
      have HLAST : Hid (ls.getLast? = some (n, ws)) := hide (by rw [List.getLast?_eq_getElem?, HNL.out]; exact hg)
      obtain ⟨q, cq, -, c1, C⟩ := (HLL.out.keep s2).c HZ.out hg
      obtain ⟨x, hx⟩ : ∃ x, ws[0]? = some x := ⟨_, List.getElem?_eq_getElem C.p⟩
      have k0 := C.c 0 x hx
      have HHD : Hid (ws.head? = some x) := hide (by rw [List.head?_eq_getElem?]; exact hx)
      have hwl := C.p
      obtain ⟨W, hW⟩ : ∃ n, ws.length = n := ⟨_, rfl⟩
      rw [hW] at c1 hwl
      have hwl' : (0 : Int) < (W : Int) := by omega
      have hk1 : IntKind.i64.wrap ((k : Int) + 1 - 1) = (k : Int) := by rw [IntKind.wrap_i64]; omega
      have hkk : (k : Int) < (k : Int) + 1 := by omega
      have hz0 : ¬ ((k : Int) + 1 = 0) := by omega
      have hpz : (0 : Int) < (k : Int) + 1 := by omega
      clear hn hws hg C hx hW hkl
      by_cases hx : x.toList = [111, 117, 116, 112, 117, 116]
      rotate_left
      · have hbe : (x.toList == [111, 117, 116, 112, 117, 116]) = false := by simpa using hx
        have HX : Hid (x ≠ outputW) := hide (fun e => hx (by rw [e]; decide +kernel))
        have HE : Hid (EndBad ls) := hide ⟨HMA.out, fun y hy => by
          rw [HLAST.out] at hy
          simp only [Option.some.injEq] at hy
          subst hy
          rw [HHD.out]
          simp
          exact HX.out⟩
        clear hx
        go_wp2
        obtain ⟨B9, S9⟩ := FIN.out _ S b2 (.int .i64 0) (.int .i64 0) (.slice none 0 0) (.slice none 0 0) (.slice none 0 0) (.int .i64 0)
        exact bodyPost_ret (results_graph_tmp rfl _ _ _ _ _ _ _ _ _ rfl B9) rfl ⟨S9, Or.inr (Or.inr (Or.inl ⟨hle, HE.out, rfl⟩))⟩
      · have hbe : (x.toList == [111, 117, 116, 112, 117, 116]) = true := by simpa using hx
        have HX : x = outputW := str_eq.1 (by rw [hx]; decide +kernel)
        obtain ⟨x1, x2, xo, bs, ns, GS⟩ := may_good HMA.out HLAST.out (by rw [HHD.out, HX])
        have HGS := hide GS
        clear hx HX GS HHD HLAST HMA
        clear a0 fa0 a1 fa1 a2 fa2 a3 fa3 a4 fa4 a5 fa5
        go_wp2_with fail
        have GA := GaS.start S b2
        have sB : wr.Since wr.heap.size ((((wr.alloc (.cells #[] 61)).alloc (.cells #[] 61)).alloc (.cells #[] 64)).alloc (.cells #[.int .i64 0, .int .i64 0, .slice (some ⟨wr.heap.size, 0, none⟩) 0 0, .slice (some ⟨wr.heap.size + 1, 0, none⟩) 0 0, .slice (some ⟨wr.heap.size + 1 + 1, 0, none⟩) 0 0, .int .i64 0] 33)) := ((((World.Since.refl _ _).alloc (Nat.le_refl _) _).alloc (by simp) _).alloc (by simp; omega) _).alloc (by simp; omega) _
        have s2B := s2.trans (sinceMono sB s2.size)
        have hlo := s2.size
        generalize ((((wr.alloc (.cells #[] 61)).alloc (.cells #[] 61)).alloc (.cells #[] 64)).alloc (.cells #[.int .i64 0, .int .i64 0, .slice (some ⟨wr.heap.size, 0, none⟩) 0 0, .slice (some ⟨wr.heap.size + 1, 0, none⟩) 0 0, .slice (some ⟨wr.heap.size + 1 + 1, 0, none⟩) 0 0, .int .i64 0] 33)) = wB at GA s2B ⊢
        clear sB S s2 b2 c1 k0 b1
        generalize wr.heap.size = lo at GA hlo ⊢
        clear wr
        obtain ⟨d, hd⟩ : ∃ d, lo + 1 + 1 + 1 = d := ⟨_, rfl⟩
        rw [hd] at GA ⊢
        have hld : lo ≤ d := by omega
        clear hd
        obtain ⟨n0, no, EL⟩ := HGS.out.ex
        have HEL := hide EL
        have HLEN : Hid (bs.length + ns.length + 1 = k) := hide (by
          have h9 := HNL.out
          rw [EL] at h9
          simp at h9
          omega)
        clear EL
        obtain ⟨I, eI⟩ : ∃ I, dv x1 x1.size = I := ⟨_, rfl⟩
        obtain ⟨RD, eR⟩ : ∃ I, dv x2 x2.size = I := ⟨_, rfl⟩
        obtain ⟨OT, eO⟩ : ∃ I, dv xo xo.size = I := ⟨_, rfl⟩
        have JI1 : ∀ w', Calls Tryz.prog 21 #[.string x1] w' fun e w'' => e = .returned (.int .i64 (I : Int)) ∧ w'.Since w'.heap.size w'' := fun w' => by rw [← eI]; exact l2Int_d x1 w' HGS.out.i1
        have JI2 : ∀ w', Calls Tryz.prog 21 #[.string x2] w' fun e w'' => e = .returned (.int .i64 (RD : Int)) ∧ w'.Since w'.heap.size w'' := fun w' => by rw [← eR]; exact l2Int_d x2 w' HGS.out.i2
        have JI3 : ∀ w', Calls Tryz.prog 21 #[.string xo] w' fun e w'' => e = .returned (.int .i64 (OT : Int)) ∧ w'.Since w'.heap.size w'' := fun w' => by rw [← eO]; exact l2Int_d xo w' HGS.out.io
        have EI := hide eI
        have ER := hide eR
        have EO := hide eO
        clear eI eR eO
        have HKC : Hid (∀ w', w1.Since w1.heap.size w' → ∀ (j n : Nat) (ws : List ByteArray), ls[j]? = some (n, ws) → ∃ q cq, q < w1.heap.size ∧ w'.cell? ⟨gl, j * 2 + 1, none⟩ = some (.slice (some ⟨q, 0, none⟩) ws.length cq) ∧ LinC w' q cq ws) := hide (fun w' s j n ws hg => by
          obtain ⟨q, cq, -, c1, C⟩ := HLL.out.c HZ.out hg
          exact ⟨q, cq, World.block_lt_of_cell? _ _ (C.c 0 _ (List.getElem?_eq_getElem C.p)), (s.cell (a := ⟨gl, j * 2 + 1, none⟩) (World.block_lt_of_cell? _ _ c1)).trans c1, C.keep s⟩)
        clear hzk hwl hwl' hk1 hkk hz0 hpz hbe
        go_loopw [9] (fun i wr => ∃ (j gL cL gH cH gN cN : Nat) (In Rd Out : Int) (xL xH xN : List Value) (zs : List (List Value)), j ≤ k + 1 ∧ i = .int .i64 (j : Int) ∧ w1.Since w1.heap.size wr ∧ Hid (GaS w wr d lo gN In Rd Out (sL (bs.take (j - 1))) (sH (bs.take (j - 1))) (ns.take (j - 1 - bs.length)) gL cL gH cH cN xL xH xN zs) ∧ Hid (0 < j → In = (I : Int) ∧ Rd = (RD : Int)) ∧ Hid (j = k + 1 → Out = (OT : Int))) (fun i _ => k + 1 - (intOf i).toNat)
        case atStart => exact ⟨0, _, _, _, _, _, _, _, _, _, _, _, _, _, Nat.zero_le _, rfl, s2B, hide (by simpa [sL, sH] using GA), hide (fun h => absurd h (by omega)), hide (fun h => by omega)⟩
        case round =>
          clear GA s2B
          obtain ⟨j, gL, cL, gH, cH, gN, cN, In, Rd, Out, xL, xH, xN, zs, hj, rfl, s2, HGA, HIN, HOUT⟩ := hrel
          by_cases hlt : j < k + 1
          · have hzj : (j : Int) < (k : Int) + 1 := by omega
            have hj0 : (0 : Int) ≤ (j : Int) := by omega
            by_cases hj1 : j = 0
            · subst hj1
              obtain ⟨q, cq, hq, c1, C⟩ := HKC.out wr s2 0 n0 [graphW, x1, x2] (by rw [HEL.out]; rfl)
              have c1 : wr.cell? ⟨gl, 1, none⟩ = some (.slice (some ⟨q, 0, none⟩) 3 cq) := c1
              have k0 := C.c 0 _ rfl
              have k1 := C.c 1 _ rfl
              have K2 := hide (C.c 2 _ rfl)
              obtain ⟨x', hx'⟩ : ∃ x, graphW = x := ⟨_, rfl⟩
              rw [hx'] at k0
              have hbg : (x'.toList == [103, 114, 97, 112, 104]) = true := by rw [← hx']; decide +kernel
              have hqd : q ≠ d := by omega
              clear hx' C
              go_wp2_with fail
              refine (JI1 wr).mono ?_
              rintro e w3 ⟨rfl, s3⟩
              have GA3 := HGA.out.keep s3
              have m0 := GA3.B.c0
              have f0 := GA3.B.f 0
              have k23 := (s3.cell (a := ⟨q, 2, none⟩) (World.block_lt_of_cell? _ _ K2.out)).trans K2.out
              have t3 := s2.trans (sinceMono s3 s2.size)
              clear c1 k0 k1
              go_wp2_with fail
              have GA4 := GA3.put (GA3.B.set0 (.int .i64 (I : Int)))
              have t4 : w1.Since w1.heap.size (w3.setCell ⟨d, 0, none⟩ (.int .i64 (I : Int))) := since_set t3 (by omega)
              clear GA3 m0 f0
              generalize w3.setCell ⟨d, 0, none⟩ (.int .i64 (I : Int)) = w4 at *
              refine (JI2 w4).mono ?_
              rintro e w5 ⟨rfl, s5⟩
              have GA5 := GA4.keep s5
              have m1 := GA5.B.c1
              have f1 := GA5.B.f 1
              have t5 := t4.trans (sinceMono s5 t4.size)
              have GA6 := hide (GA5.put (GA5.B.set1 (.int .i64 (RD : Int))))
              have t6 : w1.Since w1.heap.size (w5.setCell ⟨d, 1, none⟩ (.int .i64 (RD : Int))) := since_set t5 (by omega)
              clear GA4 GA5
              go_wp2
              go_roundw
              case rel => exact ⟨1, gL, cL, gH, cH, gN, cN, _, _, _, xL, xH, xN, zs, by omega, by go_num, t6, GA6, hide (fun _ => ⟨rfl, rfl⟩), hide (fun h => by have := HLEN.out; omega)⟩
              case measure => simp [intOf]
            by_cases hjb : j ≤ bs.length
            · obtain ⟨lL, eL⟩ : ∃ l, sL (bs.take (j - 1)) = l := ⟨_, rfl⟩
              obtain ⟨lH, eH⟩ : ∃ l, sH (bs.take (j - 1)) = l := ⟨_, rfl⟩
              have e0 : ns.take (j - 1 - bs.length) = [] := by rw [show j - 1 - bs.length = 0 by omega, List.take_zero]
              have hi : j - 1 < bs.length := by omega
              obtain ⟨n, hn⟩ : ∃ n, (bs[j - 1]).1 = n := ⟨_, rfl⟩
              obtain ⟨y1, y2, hy, -, -⟩ := HGS.out.box _ (List.getElem_mem hi)
              have hbg : bs[j - 1]? = some (n, [boxW, y1, y2]) := by rw [List.getElem?_eq_getElem hi, ← hn, ← hy]
              have hg : ls[j]? = some (n, [boxW, y1, y2]) := by
                rw [HEL.out, show j = (j - 1) + 1 by omega, List.getElem?_cons_succ, List.append_assoc, List.getElem?_append_left hi]
                exact hbg
              have ET : Hid (bs.take j = bs.take (j - 1) ++ [(n, [boxW, y1, y2])]) := hide (by
                rw [show j = (j - 1) + 1 by omega, List.take_add_one, Nat.add_sub_cancel, hbg]
                rfl)
              have GA0 : GaS w wr d lo gN In Rd Out lL lH [] gL cL gH cH cN xL xH xN zs := by
                have := HGA.out
                rw [eL, eH, e0] at this
                exact this
              have ELL := hide eL
              have EHH := hide eH
              have hlL : lL.length ≤ 100001 := by
                have h9 := HLEN.out
                rw [← eL]
                unfold sL
                rw [List.length_map, List.length_take]
                omega
              have hlH : lH.length ≤ 100001 := by
                have h9 := HLEN.out
                rw [← eH]
                unfold sH
                rw [List.length_map, List.length_take]
                omega
              have HJB := hide hjb
              have E0 : Hid (ns.take (j - bs.length) = []) := hide (by rw [show j - bs.length = 0 by omega, List.take_zero])
              obtain ⟨q, cq, hq, c1, C⟩ := HKC.out wr s2 j n _ hg
              have c1 : wr.cell? ⟨gl, j * 2 + 1, none⟩ = some (.slice (some ⟨q, 0, none⟩) 3 cq) := c1
              have k0 := C.c 0 _ rfl
              have k1 := C.c 1 _ rfl
              have KW : Hid (∀ w', w1.Since w1.heap.size w' → w'.cell? ⟨q, 2, none⟩ = some (.string y2)) := hide (fun w' s => by
                obtain ⟨q3, cq3, hq3, c3, C3⟩ := HKC.out w1 (World.Since.refl _ _) j n _ hg
                have h9 := (s2.cell (a := ⟨gl, j * 2 + 1, none⟩) (World.block_lt_of_cell? _ _ c3)).trans c3
                rw [c1] at h9
                simp only [Option.some.injEq, Value.slice.injEq, Addr.mk.injEq, and_true] at h9
                obtain ⟨rfl, -⟩ : q = q3 ∧ True := ⟨by simpa using h9.1, trivial⟩
                exact (s.cell (a := ⟨q, 2, none⟩) hq).trans (C3.c 2 _ rfl))
              have hy1 := C.z y1 (by simp)
              have hy2 := C.z y2 (by simp)
              obtain ⟨x', hx'⟩ : ∃ x, boxW = x := ⟨_, rfl⟩
              rw [hx'] at k0
              have hbg : (x'.toList == [103, 114, 97, 112, 104]) = false := by rw [← hx']; decide +kernel
              have hbb : (x'.toList == [98, 111, 120]) = true := by rw [← hx']; decide +kernel
              have hqd : q ≠ d := by omega
              clear hx' C hg hy hn hi e0 eL eH HGA hjb
              obtain ⟨iR, hiR, hiR0, hiR1, hiR2⟩ := infoRat
              have p2 := GA0.B.c2
              have f2 := GA0.B.f 2
              have gLl := GA0.T.W.own.lt gL rfl
              have gHl := GA0.T.B.own.lt gH rfl
              have lo0 := GA0.lo0
              have hLd : ¬ (gL = d ∨ gL = gN) := GA0.T.dW gL rfl
              have hHd : ¬ (gH = d ∨ gH = gN) := GA0.T.dB gH rfl
              have hLd1 : gL ≠ d := fun e => hLd (Or.inl e)
              have hHd1 : gH ≠ d := fun e => hHd (Or.inl e)
              clear hLd hHd
              have dr : wr.Since wr.heap.size wr.drew := (World.Since.refl _ _).drew
              have JM := l2Num_q y1 wr.drew hy1
              have GX := hide GA0
              clear GA0
              go_upto_region 20 with fail
              go_cut [] (fun wx => ∃ (g5 c5 : Nat) (x5 : List Value), Hid (GaS w wx d lo gN In Rd Out (lL ++ [y1]) lH [] g5 c5 gH cH cN x5 xH xN zs) ∧ w1.Since w1.heap.size wx)
              case first =>
                have p2d : wr.drew.cell? ⟨d, 2, none⟩ = some (.slice (some ⟨gL, 0, none⟩) lL.length cL) := p2
                have k1d : wr.drew.cell? ⟨q, 1, none⟩ = some (.string y1) := k1
                go_region_law
                  (first
                    | (refine step_append_at (by rfl) _ _ 30 (by rfl) lo 61 iR _ 3 56 Tryz.underlying30 hiR hiR0 hiR1 hiR2 (by rfl) (by decide) gL cL lL.length xL (by rfl) OB7.out ⟨w7.heap.size, 0, none⟩ 1 1 [.bool nb, .slice a1 q1 c1', .slice a2 q2 c2'] (by rfl) (by rfl) (newR _ _ _ _ _) (oneR _ _ _ _ _ _ _) (by unfold maxLen; omega) (by omega) (by simp; omega) (w7.heap.size + 1) (by simp) ?_
                       intro g7 c7 w8 hown hgrow hat hlt8
                       have BX8 := (BX7.keep sW).chg (Chg.of_grown hgrow) (fun e => hLd1 (by simpa using e))
                       have p8 := BX8.c2
                       have f8 := BX8.f 2)
                    | (go_simp
                       go_at_call 32
                       with_reducible refine JM.mono ?_
                       rintro e w7 ⟨v, rfl, RV, s7⟩
                       have W7 := RV
                       obtain ⟨v1, v2, g1, g2, rfl, N1, N2, -, -, -⟩ := RV
                       obtain ⟨a1, q1, c1', Y1, rfl, -⟩ := N1
                       obtain ⟨a2, q2, c2', Y2, rfl, -⟩ := N2
                       obtain ⟨nb, hnb⟩ : ∃ b, (parseO y1).1 = b := ⟨_, rfl⟩
                       have W7 : Hid (WordR w7 (fun q => wr.heap.size ≤ q) (.agg #[.bool nb, .slice a1 q1 c1', .slice a2 q2 c2']) y1) := hide (by rw [← hnb]; exact W7)
                       rw [hnb]
                       have HNB := hide hnb
                       have u7 : wr.Since wr.heap.size w7 := dr.trans (sinceMono s7 dr.size)
                       have sW := (World.Since.refl w7.heap.size w7).alloc (Nat.le_refl _) (.cells #[.bool nb, .slice a1 q1 c1', .slice a2 q2 c2'] 61)
                       have BX7 := GX.out.B.keep u7
                       have p7 := BX7.c2
                       have p7' := (BX7.keep sW).c2
                       have OB7 : Hid ((w7.alloc (.cells #[.bool nb, .slice a1 q1 c1', .slice a2 q2 c2'] 61)).ownsRow lo 61 3 (.slice (some ⟨gL, 0, none⟩) lL.length cL) lL.length xL) := hide (((GX.out.T.keep u7).keep sW).W.own)
                       have z7 := u7.size
                       clear hnb s7))
                all_goals
                  have zW : (w7.alloc (.cells #[.bool nb, .slice a1 q1 c1', .slice a2 q2 c2'] 61)).heap.size = w7.heap.size + 1 := by simp
                  have GA9 := hide (GX.out.addL u7 W7.out HNB.out hgrow hown hat)
                  have S9 : w1.Since w1.heap.size (w8.setCell ⟨d, 2, none⟩ (.slice (some ⟨g7, 0, none⟩) (lL.length + 1) c7)) := since_set (((s2.trans (sinceMono u7 s2.size)).trans (sinceMono sW (by have := s2.size; omega))).grown hgrow (by have := s2.size; omega) (fun q hq => by simp at hq; omega)) (by omega)
                  clear hown hgrow hat W7 OB7 p2 p2d f2 k1d
                  go_wp2_with fail
                  go_meet
                  case rel => exact ⟨g7, c7, _, GA9, S9⟩
              case rest =>
              clear JM p2 f2 k1 k0 c1 GX s2 gLl gHl hLd1
              obtain ⟨g5, c5, x5, GX, s2⟩ := hcut
              have JM := l2Num_q y2 wc.drew hy2
              have dr : wc.Since wc.heap.size wc.drew := (World.Since.refl _ _).drew
              have gHl := GX.out.T.B.own.lt gH rfl
              have p3 := GX.out.B.c3
              have f3 := GX.out.B.f 3
              have k2 := KW.out wc s2
              have p3d : wc.drew.cell? ⟨d, 3, none⟩ = some (.slice (some ⟨gH, 0, none⟩) lH.length cH) := p3
              have k2d : wc.drew.cell? ⟨q, 2, none⟩ = some (.string y2) := k2
              go_wp2_with fail
              go_region_law
                (first
                  | (refine step_append_at (by rfl) _ _ 30 (by rfl) lo 61 iR _ 3 56 Tryz.underlying30 hiR hiR0 hiR1 hiR2 (by rfl) (by decide) gH cH lH.length xH (by rfl) OB7.out ⟨w7.heap.size, 0, none⟩ 1 1 [.bool nb, .slice a1 q1 c1', .slice a2 q2 c2'] (by rfl) (by rfl) (newR _ _ _ _ _) (oneR _ _ _ _ _ _ _) (by unfold maxLen; omega) (by omega) (by simp; omega) (w7.heap.size + 1) (by simp) ?_
                     intro g7 c7 w8 hown hgrow hat hlt8
                     have BX8 := (BX7.keep sW).chg (Chg.of_grown hgrow) (fun e => hHd1 (by simpa using e))
                     have p8 := BX8.c3
                     have f8 := BX8.f 3)
                  | (go_simp
                     go_at_call 32
                     with_reducible refine JM.mono ?_
                     rintro e w7 ⟨v, rfl, RV, s7⟩
                     have W7 := RV
                     obtain ⟨v1, v2, g1, g2, rfl, N1, N2, -, -, -⟩ := RV
                     obtain ⟨a1, q1, c1', Y1, rfl, -⟩ := N1
                     obtain ⟨a2, q2, c2', Y2, rfl, -⟩ := N2
                     obtain ⟨nb, hnb⟩ : ∃ b, (parseO y2).1 = b := ⟨_, rfl⟩
                     have W7 : Hid (WordR w7 (fun q => wc.heap.size ≤ q) (.agg #[.bool nb, .slice a1 q1 c1', .slice a2 q2 c2']) y2) := hide (by rw [← hnb]; exact W7)
                     rw [hnb]
                     have HNB := hide hnb
                     have u7 : wc.Since wc.heap.size w7 := dr.trans (sinceMono s7 dr.size)
                     have sW := (World.Since.refl w7.heap.size w7).alloc (Nat.le_refl _) (.cells #[.bool nb, .slice a1 q1 c1', .slice a2 q2 c2'] 61)
                     have BX7 := GX.out.B.keep u7
                     have p7 := BX7.c3
                     have p7' := (BX7.keep sW).c3
                     have OB7 : Hid ((w7.alloc (.cells #[.bool nb, .slice a1 q1 c1', .slice a2 q2 c2'] 61)).ownsRow lo 61 3 (.slice (some ⟨gH, 0, none⟩) lH.length cH) lH.length xH) := hide (((GX.out.T.keep u7).keep sW).B.own)
                     have z7 := u7.size
                     clear hnb s7))
              all_goals
                have zW : (w7.alloc (.cells #[.bool nb, .slice a1 q1 c1', .slice a2 q2 c2'] 61)).heap.size = w7.heap.size + 1 := by simp
                have GA9 : Hid (GaS w (w8.setCell ⟨d, 3, none⟩ (.slice (some ⟨g7, 0, none⟩) (lH.length + 1) c7)) d lo gN In Rd Out (sL (bs.take (j + 1 - 1))) (sH (bs.take (j + 1 - 1))) (ns.take (j + 1 - 1 - bs.length)) g5 c5 g7 c7 cN x5 (xH ++ [.bool nb, .slice a1 q1 c1', .slice a2 q2 c2']) xN zs) := hide (by
                  rw [Nat.add_sub_cancel, ET.out, E0.out]
                  unfold sL sH
                  rw [List.map_append, List.map_append]
                  have h9 := GX.out.addH u7 W7.out HNB.out hgrow hown hat
                  rw [← ELL.out, ← EHH.out] at h9
                  rw [← EHH.out]
                  exact h9)
                have S9 : w1.Since w1.heap.size (w8.setCell ⟨d, 3, none⟩ (.slice (some ⟨g7, 0, none⟩) (lH.length + 1) c7)) := since_set (((s2.trans (sinceMono u7 s2.size)).trans (sinceMono sW (by have := s2.size; omega))).grown hgrow (by have := s2.size; omega) (fun q hq => by simp at hq; omega)) (by omega)
                clear hown hgrow hat W7 OB7 p3 p3d f3 k2d k2
                go_wp2
                go_roundw
                case rel => exact ⟨j + 1, g5, c5, g7, c7, gN, cN, In, Rd, Out, _, _, xN, zs, by omega, by go_num, S9, GA9, hide (fun _ => HIN.out (by omega)), hide (fun h => by have := HLEN.out; have := HJB.out; omega)⟩
                case measure => simp [intOf]; omega
            by_cases hjn : j ≤ bs.length + ns.length
            · obtain ⟨i, hi⟩ : ∃ i, j - 1 - bs.length = i := ⟨_, rfl⟩
              have hin : i < ns.length := by omega
              have eb : bs.take (j - 1) = bs := List.take_of_length_le (by omega)
              have eb2 : Hid (bs.take (j + 1 - 1) = bs) := hide (List.take_of_length_le (by omega))
              obtain ⟨n, hn⟩ : ∃ n, (ns[i]).1 = n := ⟨_, rfl⟩
              obtain ⟨ws, hws⟩ : ∃ ws, (ns[i]).2 = ws := ⟨_, rfl⟩
              have hok : nodeOk ws := by rw [← hws]; exact HGS.out.nod _ (List.getElem_mem hin)
              have hng : ns[i]? = some (n, ws) := by rw [List.getElem?_eq_getElem hin, ← hn, ← hws]
              have hg : ls[j]? = some (n, ws) := by
                rw [HEL.out, show j = (j - 1) + 1 by omega, List.getElem?_cons_succ, List.append_assoc, List.getElem?_append_right (by omega), hi, List.getElem?_append_left hin]
                exact hng
              have ET : Hid (ns.take (j + 1 - 1 - bs.length) = ns.take i ++ [(n, ws)]) := hide (by
                rw [show j + 1 - 1 - bs.length = i + 1 by omega, List.take_add_one, hng]
                rfl)
              have GA0 : GaS w wr d lo gN In Rd Out (sL bs) (sH bs) (ns.take i) gL cL gH cH cN xL xH xN zs := by
                have := HGA.out
                rw [eb, hi] at this
                exact this
              obtain ⟨nt, ent⟩ : ∃ t, ns.take i = t := ⟨_, rfl⟩
              have hnt : nt.length ≤ 100001 := by
                have h9 := HLEN.out
                rw [← ent, List.length_take]
                omega
              rw [ent] at GA0 ET
              have HJN := hide hjn
              obtain ⟨q, cq, hq, c1, C⟩ := HKC.out wr s2 j n ws hg
              have dr : wr.Since wr.heap.size wr.drew := (World.Since.refl _ _).drew
              have JM := l2NodeOf_q q cq ws wr.drew (C.keep dr) hok
              obtain ⟨kd, hkd, hhd, -⟩ := hok.head
              have k0 := C.c 0 kd.word (by rw [← List.head?_eq_getElem?]; exact hhd)
              have hwl := C.p
              obtain ⟨x', hx'⟩ : ∃ x, kd.word = x := ⟨_, rfl⟩
              rw [hx'] at k0
              have hbg : (x'.toList == [103, 114, 97, 112, 104]) = false := by
                rw [← hx']
                rcases hkd with rfl | rfl | rfl | rfl | rfl | rfl | rfl <;> decide +kernel
              have hbb : (x'.toList == [98, 111, 120]) = false := by
                rw [← hx']
                rcases hkd with rfl | rfl | rfl | rfl | rfl | rfl | rfl <;> decide +kernel
              have hbo : (x'.toList == [111, 117, 116, 112, 117, 116]) = false := by
                rw [← hx']
                rcases hkd with rfl | rfl | rfl | rfl | rfl | rfl | rfl <;> decide +kernel
              obtain ⟨W, hW⟩ : ∃ n, ws.length = n := ⟨_, rfl⟩
              rw [hW] at c1 hwl JM
              have hwl' : (0 : Int) < (W : Int) := by omega
              have hqd : q ≠ d := by omega
              have JM : Calls Tryz.prog 33 #[.slice (some ⟨q, 0, none⟩) W cq] wr.drew fun e w' => NofR wr.drew w' (nD ws).op (nD ws).a (nD ws).b (nD ws).k (nD ws).s (vw ws) e := JM
              have GX := hide GA0
              obtain ⟨iN, hiN, hiN0, hiN1, hiN2⟩ := infoNode
              have p4 := GA0.B.c4
              have f4 := GA0.B.f 4
              have gNl := GA0.N.own.lt gN rfl
              have lo0 := GA0.lo0
              have dN := GA0.dN
              have p4d : wr.drew.cell? ⟨d, 4, none⟩ = some (.slice (some ⟨gN, 0, none⟩) nt.length cN) := p4
              obtain ⟨M, hM⟩ : ∃ m, (vw ws).length = m := ⟨_, rfl⟩
              have HM := hide hM
              clear hx' C hg hn hws hng hok hhd hW hin eb hjn hjb HGA GA0 hi hM ent hkd
              go_wp2_with fail
              go_region_law
                (first
                  | (refine step_append_at (by rfl) _ _ 31 (by rfl) lo 64 iN _ 6 64 Tryz.underlying31 hiN hiN0 hiN1 hiN2 (by rfl) (by decide) gN cN nt.length xN (by rfl) OB7.out ⟨w7.heap.size, 0, none⟩ 1 1 [.int .i64 (nD ws).op, .int .i64 (nD ws).a, .int .i64 (nD ws).b, .int .i64 (nD ws).k, .int .i64 (nD ws).s, .slice ad (vw ws).length cap] (by rfl) (by rfl) (newN _ _ _ _ _ _ _ _) (oneN _ _ _ _ _ _ _ _) (by unfold maxLen; omega) (by omega) (by simp; omega) (w7.heap.size + 1) (by simp) ?_
                     intro g7 c7 w8 hown hgrow hat hlt8
                     have BX8 := (BX7.keep sW).chg (Chg.of_grown hgrow) (fun e => dN (by simpa using e))
                     have p8 := BX8.c4
                     have f8 := BX8.f 4)
                  | (go_simp
                     go_at_call 33
                     with_reducible refine JM.mono ?_
                     rintro e w7 ⟨ad, cap, xV, rfl, OV, s7⟩
                     have OV := hide OV
                     have u7 : wr.Since wr.heap.size w7 := dr.trans (sinceMono s7 dr.size)
                     have sW := (World.Since.refl w7.heap.size w7).alloc (Nat.le_refl _) (.cells #[.int .i64 (nD ws).op, .int .i64 (nD ws).a, .int .i64 (nD ws).b, .int .i64 (nD ws).k, .int .i64 (nD ws).s, .slice ad (vw ws).length cap] 64)
                     have BX7 := GX.out.B.keep u7
                     have p7 := BX7.c4
                     have p7' := (BX7.keep sW).c4
                     have OB7 : Hid ((w7.alloc (.cells #[.int .i64 (nD ws).op, .int .i64 (nD ws).a, .int .i64 (nD ws).b, .int .i64 (nD ws).k, .int .i64 (nD ws).s, .slice ad (vw ws).length cap] 64)).ownsRow lo 64 6 (.slice (some ⟨gN, 0, none⟩) nt.length cN) nt.length xN) := hide (((GX.out.N.keep u7).keep sW).own)
                     have z7 := u7.size
                     clear s7))
              all_goals
                have zW : (w7.alloc (.cells #[.int .i64 (nD ws).op, .int .i64 (nD ws).a, .int .i64 (nD ws).b, .int .i64 (nD ws).k, .int .i64 (nD ws).s, .slice ad (vw ws).length cap] 64)).heap.size = w7.heap.size + 1 := by simp
                have GA9 : Hid (GaS w (w8.setCell ⟨d, 4, none⟩ (.slice (some ⟨g7, 0, none⟩) (nt.length + 1) c7)) d lo g7 In Rd Out (sL (bs.take (j + 1 - 1))) (sH (bs.take (j + 1 - 1))) (ns.take (j + 1 - 1 - bs.length)) gL cL gH cH c7 xL xH (xN ++ [.int .i64 (nD ws).op, .int .i64 (nD ws).a, .int .i64 (nD ws).b, .int .i64 (nD ws).k, .int .i64 (nD ws).s, .slice ad (vw ws).length cap]) (zs ++ [.slice ad (vw ws).length cap :: xV])) := hide (by
                  rw [eb2.out, ET.out]
                  exact GX.out.addN u7 OV.out hgrow hown hat)
                have S9 : w1.Since w1.heap.size (w8.setCell ⟨d, 4, none⟩ (.slice (some ⟨g7, 0, none⟩) (nt.length + 1) c7)) := since_set (((s2.trans (sinceMono u7 s2.size)).trans (sinceMono sW (by have := s2.size; omega))).grown hgrow (by have := s2.size; omega) (fun q hq => by simp at hq; omega)) (by omega)
                clear hown hgrow hat OV OB7 p4 p4d f4
                go_wp2
                go_roundw
                case rel => exact ⟨j + 1, gL, cL, gH, cH, g7, c7, In, Rd, Out, xL, xH, _, _, by omega, by go_num, S9, GA9, hide (fun _ => HIN.out (by omega)), hide (fun h => by have := HLEN.out; have := HJN.out; omega)⟩
                case measure => simp [intOf]; omega
            have ej : j = k := by have := HLEN.out; omega
            subst ej
            have hg : ls[j]? = some (no, [outputW, xo]) := by
              have h9 := HLEN.out
              rw [HEL.out, ← h9, List.getElem?_cons_succ, List.getElem?_append_right (by simp)]
              simp
            have eb : bs.take (j - 1) = bs := List.take_of_length_le (by omega)
            have eb2 : bs.take (j + 1 - 1) = bs := List.take_of_length_le (by omega)
            have en : ns.take (j - 1 - bs.length) = ns := List.take_of_length_le (by omega)
            have en2 : ns.take (j + 1 - 1 - bs.length) = ns := List.take_of_length_le (by omega)
            have GA0 : Hid (GaS w wr d lo gN In Rd Out (sL bs) (sH bs) ns gL cL gH cH cN xL xH xN zs) := hide (by
              have := HGA.out
              rw [eb, en] at this
              exact this)
            obtain ⟨q, cq, hq, c1, C⟩ := HKC.out wr s2 j no _ hg
            have c1 : wr.cell? ⟨gl, j * 2 + 1, none⟩ = some (.slice (some ⟨q, 0, none⟩) 2 cq) := c1
            have k0 := C.c 0 _ rfl
            have k1 := C.c 1 _ rfl
            obtain ⟨x', hx'⟩ : ∃ x, outputW = x := ⟨_, rfl⟩
            rw [hx'] at k0
            have hbg : (x'.toList == [103, 114, 97, 112, 104]) = false := by rw [← hx']; decide +kernel
            have hbb : (x'.toList == [98, 111, 120]) = false := by rw [← hx']; decide +kernel
            have hbo : (x'.toList == [111, 117, 116, 112, 117, 116]) = true := by rw [← hx']; decide +kernel
            have hqd : q ≠ d := by omega
            have EB2 := hide eb2
            have EN2 := hide en2
            clear hx' C hg hjn hjb eb eb2 en en2 HGA
            go_wp2_with fail
            refine (JI3 wr).mono ?_
            rintro e w3 ⟨rfl, s3⟩
            have GA3 := GA0.out.keep s3
            have m0 := GA3.B.c5
            have f0 := GA3.B.f 5
            have t3 := s2.trans (sinceMono s3 s2.size)
            have GA4 : Hid (GaS w (w3.setCell ⟨d, 5, none⟩ (.int .i64 (OT : Int))) d lo gN In Rd (OT : Int) (sL (bs.take (j + 1 - 1))) (sH (bs.take (j + 1 - 1))) (ns.take (j + 1 - 1 - bs.length)) gL cL gH cH cN xL xH xN zs) := hide (by
              rw [EB2.out, EN2.out]
              exact GA3.put (GA3.B.set5 (.int .i64 (OT : Int))))
            have t4 : w1.Since w1.heap.size (w3.setCell ⟨d, 5, none⟩ (.int .i64 (OT : Int))) := since_set t3 (by omega)
            clear c1 k0 k1 GA3 GA0
            go_wp2
            go_roundw
            case rel => exact ⟨j + 1, gL, cL, gH, cH, gN, cN, In, Rd, _, xL, xH, xN, zs, by omega, by go_num, t4, GA4, hide (fun _ => HIN.out (by omega)), hide (fun _ => rfl)⟩
            case measure => simp [intOf]
          · have e : j = k + 1 := by omega
            subst e
            have hzj : ¬ (((k : Int) + 1 < (k : Int) + 1)) := by omega
            obtain ⟨rfl, rfl⟩ := HIN.out (by omega)
            have hout := HOUT.out rfl
            subst hout
            have GA0 : GaS w wr d lo gN (I : Int) (RD : Int) (OT : Int) (sL bs) (sH bs) ns gL cL gH cH cN xL xH xN zs := by
              have h9 := HLEN.out
              have := HGA.out
              rw [List.take_of_length_le (by omega), List.take_of_length_le (by omega)] at this
              exact this
            have esL : (sL bs).length = bs.length := by unfold sL; rw [List.length_map]
            have esH : (sH bs).length = bs.length := by unfold sH; rw [List.length_map]
            have GX := hide GA0
            have hB := GA0.B
            rw [esL, esH] at hB
            have p0 := hB.c0
            have p1 := hB.c1
            have p2 := hB.c2
            have p3 := hB.c3
            have p4 := hB.c4
            have p5 := hB.c5
            have b2 := GA0.R
            have a0 := b2.c0
            have fa0 := b2.f 0
            have a1 := b2.c1
            have fa1 := b2.f 1
            have a2 := b2.c2
            have fa2 := b2.f 2
            have a3 := b2.c3
            have fa3 := b2.f 3
            have a4 := b2.c4
            have fa4 := b2.f 4
            have a5 := b2.c5
            have fa5 := b2.f 5
            have BB := hide b2
            have ESL := hide esL
            have ESH := hide esH
            clear hB b2 GA0 HGA esL esH
            go_wp2
            obtain ⟨B9, S9⟩ := FIN.out _ GX.out.S BB.out (.int .i64 (I : Int)) (.int .i64 (RD : Int)) (.slice (some ⟨gL, 0, none⟩) bs.length cL) (.slice (some ⟨gH, 0, none⟩) bs.length cH) (.slice (some ⟨gN, 0, none⟩) ns.length cN) (.int .i64 (OT : Int))
            have l0 := GX.out.lo0
            have BS := ((((((But.refl w.heap.size wr).set 0 (.int .i64 (I : Int))).set 1 (.int .i64 (RD : Int))).set 2 (.slice (some ⟨gL, 0, none⟩) bs.length cL)).set 3 (.slice (some ⟨gH, 0, none⟩) bs.length cH)).set 4 (.slice (some ⟨gN, 0, none⟩) ns.length cN)).set 5 (.int .i64 (OT : Int))
            have T9 := GX.out.T.low.put BS.c (fun q e => by
              have e' : w.heap.size = q := by simpa using e.symm
              show q < lo
              omega)
            have N9 := GX.out.N.n.chg BS.c (fun q e => by have e' : w.heap.size = q := by simpa using e.symm
                                                          omega)
            rw [ESL.out, ESH.out] at T9
            refine bodyPost_ret (results_graph_tmp rfl _ _ _ _ _ _ _ _ _ rfl B9) rfl ⟨S9, Or.inr (Or.inr (Or.inr ⟨hle, x1, x2, xo, bs, ns, _, cL, _, cH, _, cN, xL, xH, xN, zs, lo, _, HGS.out, ?_, T9, N9⟩))⟩
            rw [EI.out, ER.out, EO.out]
            rfl

end Go.Proofs.YtnogbaapcjjngaaGreatDoor
