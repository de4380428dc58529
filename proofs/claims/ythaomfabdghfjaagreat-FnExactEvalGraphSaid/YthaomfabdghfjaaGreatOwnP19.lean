import Derived.Test.YthaomfabdghfjaaGreatOwnP18
import Derived.Test.YthaomfabdghfjaaGreatOwnP3
import Derived.Test.YthaomfabdghfjaaGreatOwnP16
import Derived.Test.YthaomfabdghfjaaGreatOwnP13
import Derived.Test.YthaomfabdghfjaaGreatOwnP4
import Derived.Test.YthaomfabdghfjaaGreatOwnP15
import Derived.Deep.RegionHeld3
set_option maxHeartbeats 6400000
set_option maxRecDepth 100000
namespace Go.Proofs.YthaomfabdghfjaaGreat
open Go.RowKit
def kindsE : Array MapEntry := #[⟨.string ⟨#[100, 101, 110, 115, 101]⟩, .func (.func 87) #[] #[], 0⟩, ⟨.string ⟨#[114, 101, 108, 117]⟩, .func (.func 88) #[] #[], 1⟩,
 ⟨.string ⟨#[108, 101, 97, 107, 121]⟩, .func (.func 89) #[] #[], 2⟩, ⟨.string ⟨#[97, 100, 100]⟩, .func (.func 90) #[] #[], 3⟩, ⟨.string ⟨#[109, 97, 120, 112, 111, 111, 108]⟩, .func (.func 91) #[] #[], 4⟩,
 ⟨.string ⟨#[99, 111, 110, 118]⟩, .func (.func 92) #[] #[], 5⟩, ⟨.string ⟨#[110, 111, 114, 109]⟩, .func (.func 93) #[] #[], 6⟩]
def xk6 (w : World) (m : Nat) : Prop := w.heap[m]? = some (.map kindsE 7)
theorem xk6.lt {w : World} {m : Nat} (h : xk6 w m) : m < w.heap.size := (Array.getElem?_eq_some_iff.1 h).1
theorem xk6.keep {w w' : World} {m : Nat} (h : xk6 w m) (s : w.Since w.heap.size w') : xk6 w' m := by
 unfold xk6; rw [s.block m h.lt]; exact h
theorem xv3 {P : Program} {w : World} {mty kt et : TypeId} {r clock : Nat} {es : Array MapEntry} {s : ByteArray} {val : Value} (hm : P.underlying mty = some (.map kt et)) (hk : P.underlying kt = some .string) (hb : w.heap[r]? = some (.map es clock)) (hf : Instr.findNow .string (.string s) es.toList 0 = some none) :
 ∃ w', (Instr.mapUpdate mty (.map (some r)) (.string s) val).run P w = .ok () w' /\ w'.heap[r]? = some (.map (es.push { key := .string s, val := val, born := clock }) (clock + 1)) /\ w'.heap.size = w.heap.size /\ w'.os = w.os /\ w'.tape = w.tape /\ w'.output = w.output /\ ∀ k, k ≠ r -> w'.heap[k]? = w.heap[k]? := by
 refine ⟨{ w with heap := w.heap.setIfInBounds r (.map (es.push { key := .string s, val := val, born := clock }) (clock + 1)) }, ?_, (MapKept.heap_set hb).1, by simp, rfl, rfl, rfl, fun k hk => (MapKept.heap_set hb).2 k hk⟩; have hc : (Instr.checkKey false 10000 kt (.string s)).run P w = .ok () w := MapKept.run_checkKey (k := .string s) hk (by simp [MapKept.IsKey]) false 9999
 simp [Instr.mapUpdate, run_underlying hm, MapKept.run_getObj_map hb, hc, MapKept.run_findKey hk hf, MapKept.run_setObj_map _ hb, Result.andThen]
theorem run_look_has {P : Program} {w : World} {mty kt et : TypeId} {r clock i : Nat} {es : Array MapEntry} {s : ByteArray} {val : Value} (hm : P.underlying mty = some (.map kt et)) (hk : P.underlying kt = some .string) (hb : w.heap[r]? = some (.map es clock)) (hf : Instr.findNow .string (.string s) es.toList 0 = some (some (i, val))) :
 (Instr.lookup mty (.map (some r)) (.string s) true).run P w = .ok (.tuple #[val, .bool true]) w := by
 have hc : (Instr.checkKey es.isEmpty 10000 kt (.string s)).run P w = .ok () w := MapKept.run_checkKey (k := .string s) hk (by simp [MapKept.IsKey]) _ 9999
 simp [Instr.lookup, run_underlying hm, MapKept.run_getObj_map hb, hc, MapKept.run_findKey hk hf, Result.andThen]
theorem run_look_no {P : Program} {w : World} {mty kt et : TypeId} {r clock : Nat} {es : Array MapEntry} {s : ByteArray} {z : Value} (hm : P.underlying mty = some (.map kt et)) (hk : P.underlying kt = some .string) (hb : w.heap[r]? = some (.map es clock)) (hf : Instr.findNow .string (.string s) es.toList 0 = some none) (hz : (zeroValue et).run P w = .ok z w) :
 (Instr.lookup mty (.map (some r)) (.string s) true).run P w = .ok (.tuple #[z, .bool false]) w := by
 have hc : (Instr.checkKey es.isEmpty 10000 kt (.string s)).run P w = .ok () w := MapKept.run_checkKey (k := .string s) hk (by simp [MapKept.IsKey]) _ 9999
 simp [Instr.lookup, run_underlying hm, MapKept.run_getObj_map hb, hc, MapKept.run_findKey hk hf, hz, Result.andThen]
theorem allKinds_any (w : World) : Calls Tryz.prog 53 #[] w fun e w' => e = .returned (.map (some w.heap.size)) /\ xk6 w' w.heap.size /\ w.Since w.heap.size w' := by
 have hmm := @run_makeMap Tryz.prog; have hm : Tryz.prog.underlying 88 = some (.map 9 134) := by kernel_rfl
 have hk : Tryz.prog.underlying 9 = some .string := by kernel_rfl
 have b0 : (w.alloc (.map #[] 0)).heap[w.heap.size]? = some (.map #[] 0) := (MapKept.heap_alloc w _).1; have s0 := sal w (.map #[] 0); obtain ⟨w1, e1, b1, z1, o1, t1, p1, h1⟩ := xv3 (w := (w.alloc (.map #[] 0))) (s := ⟨#[100, 101, 110, 115, 101]⟩) (val := .func (.func 87) #[] #[]) hm hk b0 (by kernel_rfl); obtain ⟨w2, e2, b2, z2, o2, t2, p2, h2⟩ := xv3 (w := w1) (s := ⟨#[114, 101, 108, 117]⟩) (val := .func (.func 88) #[] #[]) hm hk b1 (by kernel_rfl); obtain ⟨w3, e3, b3, z3, o3, t3, p3, h3⟩ := xv3 (w := w2) (s := ⟨#[108, 101, 97, 107, 121]⟩) (val := .func (.func 89) #[] #[]) hm hk b2 (by kernel_rfl); obtain ⟨w4, e4, b4, z4, o4, t4, p4, h4⟩ := xv3 (w := w3) (s := ⟨#[97, 100, 100]⟩) (val := .func (.func 90) #[] #[]) hm hk b3 (by kernel_rfl); obtain ⟨w5, e5, b5, z5, o5, t5, p5, h5⟩ := xv3 (w := w4) (s := ⟨#[109, 97, 120, 112, 111, 111, 108]⟩) (val := .func (.func 91) #[] #[]) hm hk b4 (by kernel_rfl); obtain ⟨w6, e6, b6, z6, o6, t6, p6, h6⟩ := xv3 (w := w5) (s := ⟨#[99, 111, 110, 118]⟩) (val := .func (.func 92) #[] #[]) hm hk b5 (by kernel_rfl); obtain ⟨w7, e7, b7, z7, o7, t7, p7, h7⟩ := xv3 (w := w6) (s := ⟨#[110, 111, 114, 109]⟩) (val := .func (.func 93) #[] #[]) hm hk b6 (by kernel_rfl)
 have S : w.Since w.heap.size w7 := ⟨by rw [o7, o6, o5, o4, o3, o2, o1]; exact s0.os, by rw [t7, t6, t5, t4, t3, t2, t1]; exact s0.tape, by rw [p7, p6, p5, p4, p3, p2, p1]; exact s0.output, by rw [z7, z6, z5, z4, z3, z2, z1]; exact s0.size, fun k hk => by
  rw [h7 k (by omega), h6 k (by omega), h5 k (by omega), h4 k (by omega), h3 k (by omega), h2 k (by omega), h1 k (by omega)]; exact s0.block k hk⟩
 have K : xk6 w7 w.heap.size := b7; clear h1 h2 h3 h4 h5 h6 h7 p1 p2 p3 p4 p5 p6 p7 t1 t2 t3 t4 t5 t6 t7 o1 o2 o3 o4 o5 o6 o7 z1 z2 z3 z4 z5 z6 z7 b0 b1 b2 b3 b4 b5 b6 b7 s0; go_enter Tryz.func53, Tryz.ntmps53; go_wp2; go_ret; exact ⟨rfl, K, S⟩
theorem become1 (v0 v1 v2 v3 v4 : Int) (a1 : Option Addr) (nv k1 : Nat) (w : World) : Calls Tryz.prog 87 #[.agg #[.int .i64 v0, .int .i64 v1, .int .i64 v2, .int .i64 v3, .int .i64 v4, .slice a1 nv k1]] w fun e w' => e = .returned (.iface 133 (.agg #[.int .i64 v0, .int .i64 v1, .int .i64 v2, .int .i64 v3, .int .i64 v4, .slice a1 nv k1])) /\ w.Since w.heap.size w' := by
 have sA := sal w (.cells #[.int .i64 v0, .int .i64 v1, .int .i64 v2, .int .i64 v3, .int .i64 v4, .slice a1 nv k1] 84); go_enter Tryz.func87, Tryz.ntmps87; go_wp2; go_ret; exact ⟨rfl, sA⟩
theorem become2 (v0 v1 v2 v3 v4 : Int) (a1 : Option Addr) (nv k1 : Nat) (w : World) : Calls Tryz.prog 88 #[.agg #[.int .i64 v0, .int .i64 v1, .int .i64 v2, .int .i64 v3, .int .i64 v4, .slice a1 nv k1]] w fun e w' => e = .returned (.iface 135 (.agg #[.int .i64 v0, .int .i64 v1, .int .i64 v2, .int .i64 v3, .int .i64 v4, .slice a1 nv k1])) /\ w.Since w.heap.size w' := by
 have sA := sal w (.cells #[.int .i64 v0, .int .i64 v1, .int .i64 v2, .int .i64 v3, .int .i64 v4, .slice a1 nv k1] 84); go_enter Tryz.func88, Tryz.ntmps88; go_wp2; go_ret; exact ⟨rfl, sA⟩
theorem become3 (v0 v1 v2 v3 v4 : Int) (a1 : Option Addr) (nv k1 : Nat) (w : World) : Calls Tryz.prog 89 #[.agg #[.int .i64 v0, .int .i64 v1, .int .i64 v2, .int .i64 v3, .int .i64 v4, .slice a1 nv k1]] w fun e w' => e = .returned (.iface 136 (.agg #[.int .i64 v0, .int .i64 v1, .int .i64 v2, .int .i64 v3, .int .i64 v4, .slice a1 nv k1])) /\ w.Since w.heap.size w' := by
 have sA := sal w (.cells #[.int .i64 v0, .int .i64 v1, .int .i64 v2, .int .i64 v3, .int .i64 v4, .slice a1 nv k1] 84); go_enter Tryz.func89, Tryz.ntmps89; go_wp2; go_ret; exact ⟨rfl, sA⟩
theorem become4 (v0 v1 v2 v3 v4 : Int) (a1 : Option Addr) (nv k1 : Nat) (w : World) : Calls Tryz.prog 90 #[.agg #[.int .i64 v0, .int .i64 v1, .int .i64 v2, .int .i64 v3, .int .i64 v4, .slice a1 nv k1]] w fun e w' => e = .returned (.iface 137 (.agg #[.int .i64 v0, .int .i64 v1, .int .i64 v2, .int .i64 v3, .int .i64 v4, .slice a1 nv k1])) /\ w.Since w.heap.size w' := by
 have sA := sal w (.cells #[.int .i64 v0, .int .i64 v1, .int .i64 v2, .int .i64 v3, .int .i64 v4, .slice a1 nv k1] 84); go_enter Tryz.func90, Tryz.ntmps90; go_wp2; go_ret; exact ⟨rfl, sA⟩
theorem become5 (v0 v1 v2 v3 v4 : Int) (a1 : Option Addr) (nv k1 : Nat) (w : World) : Calls Tryz.prog 91 #[.agg #[.int .i64 v0, .int .i64 v1, .int .i64 v2, .int .i64 v3, .int .i64 v4, .slice a1 nv k1]] w fun e w' => e = .returned (.iface 138 (.agg #[.int .i64 v0, .int .i64 v1, .int .i64 v2, .int .i64 v3, .int .i64 v4, .slice a1 nv k1])) /\ w.Since w.heap.size w' := by
 have sA := sal w (.cells #[.int .i64 v0, .int .i64 v1, .int .i64 v2, .int .i64 v3, .int .i64 v4, .slice a1 nv k1] 84); go_enter Tryz.func91, Tryz.ntmps91; go_wp2; go_ret; exact ⟨rfl, sA⟩
theorem become6 (v0 v1 v2 v3 v4 : Int) (a1 : Option Addr) (nv k1 : Nat) (w : World) : Calls Tryz.prog 92 #[.agg #[.int .i64 v0, .int .i64 v1, .int .i64 v2, .int .i64 v3, .int .i64 v4, .slice a1 nv k1]] w fun e w' => e = .returned (.iface 139 (.agg #[.int .i64 v0, .int .i64 v1, .int .i64 v2, .int .i64 v3, .int .i64 v4, .slice a1 nv k1])) /\ w.Since w.heap.size w' := by
 have sA := sal w (.cells #[.int .i64 v0, .int .i64 v1, .int .i64 v2, .int .i64 v3, .int .i64 v4, .slice a1 nv k1] 84); go_enter Tryz.func92, Tryz.ntmps92; go_wp2; go_ret; exact ⟨rfl, sA⟩
theorem become7 (v0 v1 v2 v3 v4 : Int) (a1 : Option Addr) (nv k1 : Nat) (w : World) : Calls Tryz.prog 93 #[.agg #[.int .i64 v0, .int .i64 v1, .int .i64 v2, .int .i64 v3, .int .i64 v4, .slice a1 nv k1]] w fun e w' => e = .returned (.iface 140 (.agg #[.int .i64 v0, .int .i64 v1, .int .i64 v2, .int .i64 v3, .int .i64 v4, .slice a1 nv k1])) /\ w.Since w.heap.size w' := by
 have sA := sal w (.cells #[.int .i64 v0, .int .i64 v1, .int .i64 v2, .int .i64 v3, .int .i64 v4, .slice a1 nv k1] 84); go_enter Tryz.func93, Tryz.ntmps93; go_wp2; go_ret; exact ⟨rfl, sA⟩
theorem wordOf_no (z : Int) (w : World) (h : z < 1 ∨ 7 < z) (_hi : I64 z) : Calls Tryz.prog 99 #[.int .i64 z] w fun e w' => e = .returned (.string ⟨#[]⟩) /\ w.Since w.heap.size w' := by
 have h1 : ¬ z = 1 := by omega
 have h2 : ¬ z = 2 := by omega
 have h3 : ¬ z = 3 := by omega
 have h4 : ¬ z = 4 := by omega
 have h5 : ¬ z = 5 := by omega
 have h6 : ¬ z = 6 := by omega
 have h7 : ¬ z = 7 := by omega
 clear h _hi; go_enter Tryz.func99, Tryz.ntmps99; go_wp2; go_ret; exact ⟨rfl, World.Since.refl _ _⟩
theorem wordOf1 (w : World) : Calls Tryz.prog 99 #[.int .i64 1] w fun e w' => e = .returned (.string ⟨#[100, 101, 110, 115, 101]⟩) /\ w.Since w.heap.size w' := by
 go_enter Tryz.func99, Tryz.ntmps99; go_wp2; go_ret; exact ⟨rfl, World.Since.refl _ _⟩
theorem wordOf2 (w : World) : Calls Tryz.prog 99 #[.int .i64 2] w fun e w' => e = .returned (.string ⟨#[114, 101, 108, 117]⟩) /\ w.Since w.heap.size w' := by
 go_enter Tryz.func99, Tryz.ntmps99; go_wp2; go_ret; exact ⟨rfl, World.Since.refl _ _⟩
theorem wordOf3 (w : World) : Calls Tryz.prog 99 #[.int .i64 3] w fun e w' => e = .returned (.string ⟨#[108, 101, 97, 107, 121]⟩) /\ w.Since w.heap.size w' := by
 go_enter Tryz.func99, Tryz.ntmps99; go_wp2; go_ret; exact ⟨rfl, World.Since.refl _ _⟩
theorem wordOf4 (w : World) : Calls Tryz.prog 99 #[.int .i64 4] w fun e w' => e = .returned (.string ⟨#[97, 100, 100]⟩) /\ w.Since w.heap.size w' := by
 go_enter Tryz.func99, Tryz.ntmps99; go_wp2; go_ret; exact ⟨rfl, World.Since.refl _ _⟩
theorem wordOf5 (w : World) : Calls Tryz.prog 99 #[.int .i64 5] w fun e w' => e = .returned (.string ⟨#[109, 97, 120, 112, 111, 111, 108]⟩) /\ w.Since w.heap.size w' := by
 go_enter Tryz.func99, Tryz.ntmps99; go_wp2; go_ret; exact ⟨rfl, World.Since.refl _ _⟩
theorem wordOf6 (w : World) : Calls Tryz.prog 99 #[.int .i64 6] w fun e w' => e = .returned (.string ⟨#[99, 111, 110, 118]⟩) /\ w.Since w.heap.size w' := by
 go_enter Tryz.func99, Tryz.ntmps99; go_wp2; go_ret; exact ⟨rfl, World.Since.refl _ _⟩
theorem wordOf7 (w : World) : Calls Tryz.prog 99 #[.int .i64 7] w fun e w' => e = .returned (.string ⟨#[110, 111, 114, 109]⟩) /\ w.Since w.heap.size w' := by
 go_enter Tryz.func99, Tryz.ntmps99; go_wp2; go_ret; exact ⟨rfl, World.Since.refl _ _⟩
theorem kinds_under : Tryz.prog.underlying 88 = some (.map 9 134) := by kernel_rfl
theorem string_under : Tryz.prog.underlying 9 = some .string := by kernel_rfl
theorem xw3 (z : Int) (T F i : Nat) (s : ByteArray) (m : Nat) (v1 v2 v3 v4 : Int) (a1 : Option Addr) (nv k1 : Nat) (w : World) (K : xk6 w m) (hwd : ∀ w, Calls Tryz.prog 99 #[.int .i64 z] w fun e w' => e = .returned (.string s) /\ w.Since w.heap.size w') (hf : Instr.findNow .string (.string s) kindsE.toList 0 = some (some (i, .func (.func F) #[] #[])))
 (hen : ∀ (args : Array Value) (w : World), (callFunc F args).run Tryz.prog w = .ok (.enter F args) w) (hbe : ∀ w, Calls Tryz.prog F #[.agg #[.int .i64 z, .int .i64 v1, .int .i64 v2, .int .i64 v3, .int .i64 v4, .slice a1 nv k1]] w fun e w' => e = .returned (.iface T (.agg #[.int .i64 z, .int .i64 v1, .int .i64 v2, .int .i64 v3, .int .i64 v4, .slice a1 nv k1])) /\ w.Since w.heap.size w') :
 Calls Tryz.prog 60 #[.map (some m), .agg #[.int .i64 z, .int .i64 v1, .int .i64 v2, .int .i64 v3, .int .i64 v4, .slice a1 nv k1]] w fun e w' => e = .returned (.tuple #[.iface T (.agg #[.int .i64 z, .int .i64 v1, .int .i64 v2, .int .i64 v3, .int .i64 v4, .slice a1 nv k1]), .bool true]) /\ w.Since w.heap.size w' := by
 have sA := sal w (.cells #[.int .i64 z, .int .i64 v1, .int .i64 v2, .int .i64 v3, .int .i64 v4, .slice a1 nv k1] 84); have bA := Box6.new w (.int .i64 z) (.int .i64 v1) (.int .i64 v2) (.int .i64 v3) (.int .i64 v4) (.slice a1 nv k1) 84; go_enter Tryz.func60, Tryz.ntmps60; go_wp2_with fail; generalize w.alloc (.cells #[.int .i64 z, .int .i64 v1, .int .i64 v2, .int .i64 v3, .int .i64 v4, .slice a1 nv k1] 84) = wA at *; refine (hwd wA).mono ?_; rintro e w1 ⟨rfl, s1⟩; have S1 := sA.trans (sM s1 sA.size); have B1 := bA.keep s1; have hl := run_look_has (s := s) kinds_under string_under (K.keep S1) (i := i) (val := .func (.func F) #[] #[]) hf; have q0 := B1.c0; have q1 := B1.c1; have q2 := B1.c2; have q3 := B1.c3; have q4 := B1.c4; have q5 := B1.c5; clear bA hf hwd; go_wp2_with fail; refine (hbe w1).mono ?_; rintro e w2 ⟨rfl, s2⟩; go_wp2; go_ret2; exact ⟨rfl, S1.trans (sM s2 S1.size)⟩
theorem operatorOf1 (m : Nat) (v1 v2 v3 v4 : Int) (a1 : Option Addr) (nv k1 : Nat) (w : World) (K : xk6 w m) : Calls Tryz.prog 60 #[.map (some m), .agg #[.int .i64 1, .int .i64 v1, .int .i64 v2, .int .i64 v3, .int .i64 v4, .slice a1 nv k1]] w fun e w' => e = .returned (.tuple #[.iface 133 (.agg #[.int .i64 1, .int .i64 v1, .int .i64 v2, .int .i64 v3, .int .i64 v4, .slice a1 nv k1]), .bool true]) /\ w.Since w.heap.size w' :=
 xw3 1 133 87 0 ⟨#[100, 101, 110, 115, 101]⟩ m v1 v2 v3 v4 a1 nv k1 w K wordOf1 (by kernel_rfl) (fun _ _ => by kernel_rfl) (become1 1 v1 v2 v3 v4 a1 nv k1)
theorem operatorOf2 (m : Nat) (v1 v2 v3 v4 : Int) (a1 : Option Addr) (nv k1 : Nat) (w : World) (K : xk6 w m) : Calls Tryz.prog 60 #[.map (some m), .agg #[.int .i64 2, .int .i64 v1, .int .i64 v2, .int .i64 v3, .int .i64 v4, .slice a1 nv k1]] w fun e w' => e = .returned (.tuple #[.iface 135 (.agg #[.int .i64 2, .int .i64 v1, .int .i64 v2, .int .i64 v3, .int .i64 v4, .slice a1 nv k1]), .bool true]) /\ w.Since w.heap.size w' :=
 xw3 2 135 88 1 ⟨#[114, 101, 108, 117]⟩ m v1 v2 v3 v4 a1 nv k1 w K wordOf2 (by kernel_rfl) (fun _ _ => by kernel_rfl) (become2 2 v1 v2 v3 v4 a1 nv k1)
theorem operatorOf3 (m : Nat) (v1 v2 v3 v4 : Int) (a1 : Option Addr) (nv k1 : Nat) (w : World) (K : xk6 w m) : Calls Tryz.prog 60 #[.map (some m), .agg #[.int .i64 3, .int .i64 v1, .int .i64 v2, .int .i64 v3, .int .i64 v4, .slice a1 nv k1]] w fun e w' => e = .returned (.tuple #[.iface 136 (.agg #[.int .i64 3, .int .i64 v1, .int .i64 v2, .int .i64 v3, .int .i64 v4, .slice a1 nv k1]), .bool true]) /\ w.Since w.heap.size w' :=
 xw3 3 136 89 2 ⟨#[108, 101, 97, 107, 121]⟩ m v1 v2 v3 v4 a1 nv k1 w K wordOf3 (by kernel_rfl) (fun _ _ => by kernel_rfl) (become3 3 v1 v2 v3 v4 a1 nv k1)
theorem operatorOf4 (m : Nat) (v1 v2 v3 v4 : Int) (a1 : Option Addr) (nv k1 : Nat) (w : World) (K : xk6 w m) : Calls Tryz.prog 60 #[.map (some m), .agg #[.int .i64 4, .int .i64 v1, .int .i64 v2, .int .i64 v3, .int .i64 v4, .slice a1 nv k1]] w fun e w' => e = .returned (.tuple #[.iface 137 (.agg #[.int .i64 4, .int .i64 v1, .int .i64 v2, .int .i64 v3, .int .i64 v4, .slice a1 nv k1]), .bool true]) /\ w.Since w.heap.size w' :=
 xw3 4 137 90 3 ⟨#[97, 100, 100]⟩ m v1 v2 v3 v4 a1 nv k1 w K wordOf4 (by kernel_rfl) (fun _ _ => by kernel_rfl) (become4 4 v1 v2 v3 v4 a1 nv k1)
theorem operatorOf5 (m : Nat) (v1 v2 v3 v4 : Int) (a1 : Option Addr) (nv k1 : Nat) (w : World) (K : xk6 w m) : Calls Tryz.prog 60 #[.map (some m), .agg #[.int .i64 5, .int .i64 v1, .int .i64 v2, .int .i64 v3, .int .i64 v4, .slice a1 nv k1]] w fun e w' => e = .returned (.tuple #[.iface 138 (.agg #[.int .i64 5, .int .i64 v1, .int .i64 v2, .int .i64 v3, .int .i64 v4, .slice a1 nv k1]), .bool true]) /\ w.Since w.heap.size w' :=
 xw3 5 138 91 4 ⟨#[109, 97, 120, 112, 111, 111, 108]⟩ m v1 v2 v3 v4 a1 nv k1 w K wordOf5 (by kernel_rfl) (fun _ _ => by kernel_rfl) (become5 5 v1 v2 v3 v4 a1 nv k1)
theorem operatorOf6 (m : Nat) (v1 v2 v3 v4 : Int) (a1 : Option Addr) (nv k1 : Nat) (w : World) (K : xk6 w m) : Calls Tryz.prog 60 #[.map (some m), .agg #[.int .i64 6, .int .i64 v1, .int .i64 v2, .int .i64 v3, .int .i64 v4, .slice a1 nv k1]] w fun e w' => e = .returned (.tuple #[.iface 139 (.agg #[.int .i64 6, .int .i64 v1, .int .i64 v2, .int .i64 v3, .int .i64 v4, .slice a1 nv k1]), .bool true]) /\ w.Since w.heap.size w' :=
 xw3 6 139 92 5 ⟨#[99, 111, 110, 118]⟩ m v1 v2 v3 v4 a1 nv k1 w K wordOf6 (by kernel_rfl) (fun _ _ => by kernel_rfl) (become6 6 v1 v2 v3 v4 a1 nv k1)
theorem operatorOf7 (m : Nat) (v1 v2 v3 v4 : Int) (a1 : Option Addr) (nv k1 : Nat) (w : World) (K : xk6 w m) : Calls Tryz.prog 60 #[.map (some m), .agg #[.int .i64 7, .int .i64 v1, .int .i64 v2, .int .i64 v3, .int .i64 v4, .slice a1 nv k1]] w fun e w' => e = .returned (.tuple #[.iface 140 (.agg #[.int .i64 7, .int .i64 v1, .int .i64 v2, .int .i64 v3, .int .i64 v4, .slice a1 nv k1]), .bool true]) /\ w.Since w.heap.size w' :=
 xw3 7 140 93 6 ⟨#[110, 111, 114, 109]⟩ m v1 v2 v3 v4 a1 nv k1 w K wordOf7 (by kernel_rfl) (fun _ _ => by kernel_rfl) (become7 7 v1 v2 v3 v4 a1 nv k1)
theorem operatorOf_no (m : Nat) (v0 v1 v2 v3 v4 : Int) (a1 : Option Addr) (nv k1 : Nat) (w : World) (K : xk6 w m) (h : v0 < 1 ∨ 7 < v0) (hi : I64 v0) : Calls Tryz.prog 60 #[.map (some m), .agg #[.int .i64 v0, .int .i64 v1, .int .i64 v2, .int .i64 v3, .int .i64 v4, .slice a1 nv k1]] w fun e w' => e = .returned (.tuple #[.nilIface, .bool false]) /\ w.Since w.heap.size w' := by
 have sA := sal w (.cells #[.int .i64 v0, .int .i64 v1, .int .i64 v2, .int .i64 v3, .int .i64 v4, .slice a1 nv k1] 84); go_enter Tryz.func60, Tryz.ntmps60; go_wp2_with fail; generalize w.alloc (.cells #[.int .i64 v0, .int .i64 v1, .int .i64 v2, .int .i64 v3, .int .i64 v4, .slice a1 nv k1] 84) = wA at *; refine (wordOf_no v0 wA h hi).mono ?_; rintro e w1 ⟨rfl, s1⟩; have S1 := sA.trans (sM s1 sA.size); have hz : (zeroValue 134).run Tryz.prog w1 = .ok .nilFunc w1 := by kernel_rfl
 have hl := run_look_no (s := ⟨#[]⟩) kinds_under string_under (K.keep S1) (by kernel_rfl) hz; clear hz; go_wp2; go_ret2; exact ⟨rfl, S1⟩
theorem yj9 : (Tryz.prog.info? 142).map (·.size) = some 5 := by kernel_rfl
theorem form1 (v0 v1 v2 v3 v4 : Int) (a1 : Option Addr) (nv k1 : Nat) (w : World) : Calls Tryz.prog 192 #[.agg #[.int .i64 v0, .int .i64 v1, .int .i64 v2, .int .i64 v3, .int .i64 v4, .slice a1 nv k1]] w fun e w' => e = .returned (.agg #[.int .i64 1, .bool false, .bool true, .bool false, .int .i64 (-1)]) /\ w.Since w.heap.size w' := by
 have sA : w.Since w.heap.size ((w.alloc (.cells #[.int .i64 v0, .int .i64 v1, .int .i64 v2, .int .i64 v3, .int .i64 v4, .slice a1 nv k1] 133)).alloc (.cells #[.int .i64 1, .bool false, .bool true, .bool false, .int .i64 (-1)] 142)) := ((World.Since.refl _ _).alloc (Nat.le_refl _) _).alloc (by simp) _
 have bA : Box5 ((w.alloc (.cells #[.int .i64 v0, .int .i64 v1, .int .i64 v2, .int .i64 v3, .int .i64 v4, .slice a1 nv k1] 133)).alloc (.cells #[.int .i64 1, .bool false, .bool true, .bool false, .int .i64 (-1)] 142)) (w.heap.size + 1) (.int .i64 1) (.bool false) (.bool true) (.bool false) (.int .i64 (-1)) := by
  have := Box5.new (w.alloc (.cells #[.int .i64 v0, .int .i64 v1, .int .i64 v2, .int .i64 v3, .int .i64 v4, .slice a1 nv k1] 133)) (.int .i64 1) (.bool false) (.bool true) (.bool false) (.int .i64 (-1)) 142
  simpa using this
 go_enter Tryz.func192, Tryz.ntmps192; go_wp2; exact bodyPost_ret (xx7 rfl Tryz.underlying142 rfl yj9 _ _ _ _ _ _ _ _ rfl bA) rfl ⟨rfl, sA⟩
theorem form2 (v0 v1 v2 v3 v4 : Int) (a1 : Option Addr) (nv k1 : Nat) (w : World) : Calls Tryz.prog 195 #[.agg #[.int .i64 v0, .int .i64 v1, .int .i64 v2, .int .i64 v3, .int .i64 v4, .slice a1 nv k1]] w fun e w' => e = .returned (.agg #[.int .i64 2, .bool false, .bool false, .bool false, .int .i64 0]) /\ w.Since w.heap.size w' := by
 have sA : w.Since w.heap.size ((w.alloc (.cells #[.int .i64 v0, .int .i64 v1, .int .i64 v2, .int .i64 v3, .int .i64 v4, .slice a1 nv k1] 135)).alloc (.cells #[.int .i64 2, .bool false, .bool false, .bool false, .int .i64 0] 142)) := ((World.Since.refl _ _).alloc (Nat.le_refl _) _).alloc (by simp) _
 have bA : Box5 ((w.alloc (.cells #[.int .i64 v0, .int .i64 v1, .int .i64 v2, .int .i64 v3, .int .i64 v4, .slice a1 nv k1] 135)).alloc (.cells #[.int .i64 2, .bool false, .bool false, .bool false, .int .i64 0] 142)) (w.heap.size + 1) (.int .i64 2) (.bool false) (.bool false) (.bool false) (.int .i64 0) := by
  have := Box5.new (w.alloc (.cells #[.int .i64 v0, .int .i64 v1, .int .i64 v2, .int .i64 v3, .int .i64 v4, .slice a1 nv k1] 135)) (.int .i64 2) (.bool false) (.bool false) (.bool false) (.int .i64 0) 142
  simpa using this
 go_enter Tryz.func195, Tryz.ntmps195; go_wp2; exact bodyPost_ret (xx7 rfl Tryz.underlying142 rfl yj9 _ _ _ _ _ _ _ _ rfl bA) rfl ⟨rfl, sA⟩
theorem form3 (v0 v1 v2 v3 v4 : Int) (a1 : Option Addr) (nv k1 : Nat) (w : World) : Calls Tryz.prog 198 #[.agg #[.int .i64 v0, .int .i64 v1, .int .i64 v2, .int .i64 v3, .int .i64 v4, .slice a1 nv k1]] w fun e w' => e = .returned (.agg #[.int .i64 3, .bool false, .bool false, .bool false, .int .i64 1]) /\ w.Since w.heap.size w' := by
 have sA : w.Since w.heap.size ((w.alloc (.cells #[.int .i64 v0, .int .i64 v1, .int .i64 v2, .int .i64 v3, .int .i64 v4, .slice a1 nv k1] 136)).alloc (.cells #[.int .i64 3, .bool false, .bool false, .bool false, .int .i64 1] 142)) := ((World.Since.refl _ _).alloc (Nat.le_refl _) _).alloc (by simp) _
 have bA : Box5 ((w.alloc (.cells #[.int .i64 v0, .int .i64 v1, .int .i64 v2, .int .i64 v3, .int .i64 v4, .slice a1 nv k1] 136)).alloc (.cells #[.int .i64 3, .bool false, .bool false, .bool false, .int .i64 1] 142)) (w.heap.size + 1) (.int .i64 3) (.bool false) (.bool false) (.bool false) (.int .i64 1) := by
  have := Box5.new (w.alloc (.cells #[.int .i64 v0, .int .i64 v1, .int .i64 v2, .int .i64 v3, .int .i64 v4, .slice a1 nv k1] 136)) (.int .i64 3) (.bool false) (.bool false) (.bool false) (.int .i64 1) 142
  simpa using this
 go_enter Tryz.func198, Tryz.ntmps198; go_wp2; exact bodyPost_ret (xx7 rfl Tryz.underlying142 rfl yj9 _ _ _ _ _ _ _ _ rfl bA) rfl ⟨rfl, sA⟩
theorem form4 (v0 v1 v2 v3 v4 : Int) (a1 : Option Addr) (nv k1 : Nat) (w : World) : Calls Tryz.prog 201 #[.agg #[.int .i64 v0, .int .i64 v1, .int .i64 v2, .int .i64 v3, .int .i64 v4, .slice a1 nv k1]] w fun e w' => e = .returned (.agg #[.int .i64 4, .bool true, .bool false, .bool false, .int .i64 0]) /\ w.Since w.heap.size w' := by
 have sA : w.Since w.heap.size ((w.alloc (.cells #[.int .i64 v0, .int .i64 v1, .int .i64 v2, .int .i64 v3, .int .i64 v4, .slice a1 nv k1] 137)).alloc (.cells #[.int .i64 4, .bool true, .bool false, .bool false, .int .i64 0] 142)) := ((World.Since.refl _ _).alloc (Nat.le_refl _) _).alloc (by simp) _
 have bA : Box5 ((w.alloc (.cells #[.int .i64 v0, .int .i64 v1, .int .i64 v2, .int .i64 v3, .int .i64 v4, .slice a1 nv k1] 137)).alloc (.cells #[.int .i64 4, .bool true, .bool false, .bool false, .int .i64 0] 142)) (w.heap.size + 1) (.int .i64 4) (.bool true) (.bool false) (.bool false) (.int .i64 0) := by
  have := Box5.new (w.alloc (.cells #[.int .i64 v0, .int .i64 v1, .int .i64 v2, .int .i64 v3, .int .i64 v4, .slice a1 nv k1] 137)) (.int .i64 4) (.bool true) (.bool false) (.bool false) (.int .i64 0) 142
  simpa using this
 go_enter Tryz.func201, Tryz.ntmps201; go_wp2; exact bodyPost_ret (xx7 rfl Tryz.underlying142 rfl yj9 _ _ _ _ _ _ _ _ rfl bA) rfl ⟨rfl, sA⟩
theorem form5 (v0 v1 v2 v3 v4 : Int) (a1 : Option Addr) (nv k1 : Nat) (w : World) : Calls Tryz.prog 204 #[.agg #[.int .i64 v0, .int .i64 v1, .int .i64 v2, .int .i64 v3, .int .i64 v4, .slice a1 nv k1]] w fun e w' => e = .returned (.agg #[.int .i64 5, .bool false, .bool true, .bool false, .int .i64 0]) /\ w.Since w.heap.size w' := by
 have sA : w.Since w.heap.size ((w.alloc (.cells #[.int .i64 v0, .int .i64 v1, .int .i64 v2, .int .i64 v3, .int .i64 v4, .slice a1 nv k1] 138)).alloc (.cells #[.int .i64 5, .bool false, .bool true, .bool false, .int .i64 0] 142)) := ((World.Since.refl _ _).alloc (Nat.le_refl _) _).alloc (by simp) _
 have bA : Box5 ((w.alloc (.cells #[.int .i64 v0, .int .i64 v1, .int .i64 v2, .int .i64 v3, .int .i64 v4, .slice a1 nv k1] 138)).alloc (.cells #[.int .i64 5, .bool false, .bool true, .bool false, .int .i64 0] 142)) (w.heap.size + 1) (.int .i64 5) (.bool false) (.bool true) (.bool false) (.int .i64 0) := by
  have := Box5.new (w.alloc (.cells #[.int .i64 v0, .int .i64 v1, .int .i64 v2, .int .i64 v3, .int .i64 v4, .slice a1 nv k1] 138)) (.int .i64 5) (.bool false) (.bool true) (.bool false) (.int .i64 0) 142
  simpa using this
 go_enter Tryz.func204, Tryz.ntmps204; go_wp2; exact bodyPost_ret (xx7 rfl Tryz.underlying142 rfl yj9 _ _ _ _ _ _ _ _ rfl bA) rfl ⟨rfl, sA⟩
theorem form6 (v0 v1 v2 v3 v4 : Int) (a1 : Option Addr) (nv k1 : Nat) (w : World) : Calls Tryz.prog 208 #[.agg #[.int .i64 v0, .int .i64 v1, .int .i64 v2, .int .i64 v3, .int .i64 v4, .slice a1 nv k1]] w fun e w' => e = .returned (.agg #[.int .i64 6, .bool false, .bool true, .bool true, .int .i64 (-1)]) /\ w.Since w.heap.size w' := by
 have sA : w.Since w.heap.size ((w.alloc (.cells #[.int .i64 v0, .int .i64 v1, .int .i64 v2, .int .i64 v3, .int .i64 v4, .slice a1 nv k1] 139)).alloc (.cells #[.int .i64 6, .bool false, .bool true, .bool true, .int .i64 (-1)] 142)) := ((World.Since.refl _ _).alloc (Nat.le_refl _) _).alloc (by simp) _
 have bA : Box5 ((w.alloc (.cells #[.int .i64 v0, .int .i64 v1, .int .i64 v2, .int .i64 v3, .int .i64 v4, .slice a1 nv k1] 139)).alloc (.cells #[.int .i64 6, .bool false, .bool true, .bool true, .int .i64 (-1)] 142)) (w.heap.size + 1) (.int .i64 6) (.bool false) (.bool true) (.bool true) (.int .i64 (-1)) := by
  have := Box5.new (w.alloc (.cells #[.int .i64 v0, .int .i64 v1, .int .i64 v2, .int .i64 v3, .int .i64 v4, .slice a1 nv k1] 139)) (.int .i64 6) (.bool false) (.bool true) (.bool true) (.int .i64 (-1)) 142
  simpa using this
 go_enter Tryz.func208, Tryz.ntmps208; go_wp2; exact bodyPost_ret (xx7 rfl Tryz.underlying142 rfl yj9 _ _ _ _ _ _ _ _ rfl bA) rfl ⟨rfl, sA⟩
theorem form7 (v0 v1 v2 v3 v4 : Int) (a1 : Option Addr) (nv k1 : Nat) (w : World) : Calls Tryz.prog 211 #[.agg #[.int .i64 v0, .int .i64 v1, .int .i64 v2, .int .i64 v3, .int .i64 v4, .slice a1 nv k1]] w fun e w' => e = .returned (.agg #[.int .i64 7, .bool false, .bool false, .bool false, .int .i64 4]) /\ w.Since w.heap.size w' := by
 have sA : w.Since w.heap.size ((w.alloc (.cells #[.int .i64 v0, .int .i64 v1, .int .i64 v2, .int .i64 v3, .int .i64 v4, .slice a1 nv k1] 140)).alloc (.cells #[.int .i64 7, .bool false, .bool false, .bool false, .int .i64 4] 142)) := ((World.Since.refl _ _).alloc (Nat.le_refl _) _).alloc (by simp) _
 have bA : Box5 ((w.alloc (.cells #[.int .i64 v0, .int .i64 v1, .int .i64 v2, .int .i64 v3, .int .i64 v4, .slice a1 nv k1] 140)).alloc (.cells #[.int .i64 7, .bool false, .bool false, .bool false, .int .i64 4] 142)) (w.heap.size + 1) (.int .i64 7) (.bool false) (.bool false) (.bool false) (.int .i64 4) := by
  have := Box5.new (w.alloc (.cells #[.int .i64 v0, .int .i64 v1, .int .i64 v2, .int .i64 v3, .int .i64 v4, .slice a1 nv k1] 140)) (.int .i64 7) (.bool false) (.bool false) (.bool false) (.int .i64 4) 142
  simpa using this
 go_enter Tryz.func211, Tryz.ntmps211; go_wp2; exact bodyPost_ret (xx7 rfl Tryz.underlying142 rfl yj9 _ _ _ _ _ _ _ _ rfl bA) rfl ⟨rfl, sA⟩
def Vecs (w : World) (p : Nat -> Prop) (a : Option Addr) (b off n : Nat) (D : Nat -> Nat) (V : Nat -> Nat -> Rat) : Prop :=
 ∀ j, j < n -> a = some ⟨b, off, none⟩ /\ ∃ aj bj oj cj, w.cell? ⟨b, off + j, none⟩ = some (.slice aj (D j) cj) /\ D j <= cj /\ xj5 w p aj bj oj (D j) (V j)
theorem Vecs.keep {w w' : World} {p : Nat -> Prop} {a : Option Addr} {b off n : Nat} {D : Nat -> Nat} {V : Nat -> Nat -> Rat} (h : Vecs w p a b off n D V) (s : w.Since w.heap.size w') : Vecs w' p a b off n D V := fun j hj => by
 obtain ⟨h1, aj, bj, oj, cj, h2, h3, h4⟩ := h j hj; exact ⟨h1, aj, bj, oj, cj, (s.cell (a := ⟨b, off + j, none⟩) (World.block_lt_of_cell? _ _ h2)).trans h2, h3, h4.keep s⟩
theorem l1Copy_q {v : Value} {q : Rat} {k : Nat} {w : World} (hq : Qb q k) (hk : k <= 4194304) (R : RatR w v q) :
 Calls Tryz.prog 98 #[v] w fun e w' => ∃ u, e = .returned u /\ xz4 w' (fun g => w.heap.size <= g) u q /\ w.Since w.heap.size w' := by
 obtain ⟨a, n, ca, b, m, cb, ba, oa, bb, ob, X, Y, rfl, R, x1, x2⟩ := R; have n1 := xz3 R.pX (by rw [x1]; exact hq.1); have n2 := xz3 R.pY (by rw [x2]; exact hq.2); refine (l1Copy_opt (qn q) a b ba oa n ca bb ob m cb X Y w (by omega) (by omega) R.nc R.mc R.ac R.bc R.LX R.LY).mono ?_; rintro e w' ⟨g, h, c1, c2, rfl, y1, y2, y3, y4, -, -, y5, y6, y7, s⟩; exact ⟨_, rfl, ⟨_, n, c1, _, m, c2, g, 0, h, 0, X, Y, rfl, ⟨y1, y2, (fun h => by cases h), (fun h => by cases h), y3, y4, R.lX, R.lY, R.pX, R.pY, R.m0⟩, x1, x2, fun _ => y5, fun _ => by omega⟩, s⟩
theorem l1Mul_q {v v' : Value} {p q : Rat} {k l : Nat} {w : World} (hp : Qb p k) (hq : Qb q l) (hk : 2 * k + 2 * l <= 16777216) (R : RatR w v p) (R' : RatR w v' q) :
 Calls Tryz.prog 111 #[v, v'] w fun e w' => ∃ u, e = .returned u /\ xz4 w' (fun g => w.heap.size <= g) u (p * q) /\ w.Since w.heap.size w' := by
 obtain ⟨a, n, ca, b, m, cb, ba, oa, bb, ob, X, Y, rfl, R, x1, x2⟩ := R; obtain ⟨a', n', ca', b', m', cb', ba', oa', bb', ob', X', Y', rfl, R', y1, y2⟩ := R'; have n1 := xz3 R.pX (by rw [x1]; exact hp.1); have n2 := xz3 R.pY (by rw [x2]; exact hp.2); have n3 := xz3 R'.pX (by rw [y1]; exact hq.1); have n4 := xz3 R'.pY (by rw [y2]; exact hq.2); have J := l1Mul_any (qn p) (qn q) a b a' b' ba oa n ca bb ob m cb ba' oa' n' ca' bb' ob' m' cb' X Y X' Y' w (by omega) R R'; obtain ⟨e1, e2, e3⟩ := q_mul p q; rw [x1, x2, y1, y2, <- e1, <- e2, <- e3] at J; exact J.mono fun _ _ ⟨u, he, V, s⟩ => ⟨u, he, V.rp, s⟩
theorem l1Add_rp {v v' : Value} {p q : Rat} {k l : Nat} {w : World} (hp : Qb p k) (hq : Qb q l) (hk : 2 * k + 2 * l <= 16777216) (R : RatR w v p) (R' : RatR w v' q) :
 Calls Tryz.prog 110 #[v, v'] w fun e w' => ∃ u, e = .returned u /\ xz4 w' (fun g => w.heap.size <= g) u (p + q) /\ w.Since w.heap.size w' :=
 (l1Add_q hp hq hk R R').mono fun _ _ ⟨u, he, V, s⟩ => ⟨u, he, V.rp, s⟩
theorem Qb_zero {k : Nat} (hk : 1 <= k) : Qb 0 k := by
 have h : 4294967296 ^ 1 <= 4294967296 ^ k := Nat.pow_le_pow_right (by decide) hk; exact ⟨Nat.lt_of_lt_of_le (by decide) h, Nat.lt_of_lt_of_le (by decide) h⟩
structure RatO (w : World) (lo hi b off : Nat) (q : Rat) (g h : Nat) (a1 : Option Addr) (n1 k1 : Nat) (a2 : Option Addr) (n2 k2 : Nat) (X Y : Nat -> Nat) : Prop where
 c0 : w.cell? ⟨b, off, none⟩ = some (.bool (qn q))
 c1 : w.cell? ⟨b, off + 1, none⟩ = some (.slice a1 n1 k1)
 c2 : w.cell? ⟨b, off + 2, none⟩ = some (.slice a2 n2 k2)
 R : RIn w a1 a2 g 0 n1 k1 h 0 n2 k2 X Y
 v1 : lv X n1 = q.num.natAbs
 v2 : lv Y n2 = q.den
 lg : 0 < n1 -> lo <= g /\ g < hi /\ ∀ o, w.frozen? ⟨g, o, none⟩ = false
 lh : 0 < n2 -> lo <= h /\ h < hi /\ ∀ o, w.frozen? ⟨h, o, none⟩ = false
 ne : 0 < n1 -> 0 < n2 -> g ≠ h
section
variable {w w' : World} {lo hi b off : Nat} {q : Rat} {g h : Nat} {a1 : Option Addr} {n1 k1 : Nat} {a2 : Option Addr} {n2 k2 : Nat} {X Y : Nat -> Nat}
theorem RatO.lt (r : RatO w lo hi b off q g h a1 n1 k1 a2 n2 k2 X Y) : b < w.heap.size := World.block_lt_of_cell? _ _ r.c0
theorem RatO.keep (r : RatO w lo hi b off q g h a1 n1 k1 a2 n2 k2 X Y) (s : w.Since w.heap.size w') : RatO w' lo hi b off q g h a1 n1 k1 a2 n2 k2 X Y :=
 ⟨(s.cell (a := ⟨b, off, none⟩) r.lt).trans r.c0, (s.cell (a := ⟨b, off + 1, none⟩) r.lt).trans r.c1, (s.cell (a := ⟨b, off + 2, none⟩) r.lt).trans r.c2, r.R.keep s, r.v1, r.v2,
   fun h0 => ⟨(r.lg h0).1, (r.lg h0).2.1, fun o => by rw [s.frozen (a := ⟨g, o, none⟩) (r.R.LX.lt h0)]; exact (r.lg h0).2.2 o⟩,
   fun h0 => ⟨(r.lh h0).1, (r.lh h0).2.1, fun o => by rw [s.frozen (a := ⟨h, o, none⟩) (r.R.LY.lt h0)]; exact (r.lh h0).2.2 o⟩, r.ne⟩
end
structure yz7 (w : World) (b n : Nat) (Q : Nat -> Rat) (E : Nat -> Nat) : Prop where
 at_ : ∀ i, i < n -> ∃ g h a1 n1 k1 a2 n2 k2 X Y, RatO w (E i) (E (i + 1)) b (i * 3) (Q i) g h a1 n1 k1 a2 n2 k2 X Y
 lo : b < E 0
 mono : ∀ i, i < n -> E i <= E (i + 1)
theorem yz7.keep {w w' : World} {b n : Nat} {Q : Nat -> Rat} {E : Nat -> Nat} (T : yz7 w b n Q E) (s : w.Since w.heap.size w') : yz7 w' b n Q E := by
 refine ⟨fun i hi => ?_, T.lo, T.mono⟩; obtain ⟨g, h, a1, n1, k1, a2, n2, k2, X, Y, r⟩ := T.at_ i hi; exact ⟨g, h, a1, n1, k1, a2, n2, k2, X, Y, r.keep s⟩
theorem yz7.base {w : World} {b n : Nat} {Q : Nat -> Rat} {E : Nat -> Nat} (T : yz7 w b n Q E) {i : Nat} (hi : i <= n) : b < E i := by
 induction i with
 | zero => exact T.lo
 | succ i ih => exact Nat.lt_of_lt_of_le (ih (by omega)) (T.mono i (by omega))
theorem RIn.marked {w w' : World} {a b : Option Addr} {ba oa n ca bb ob m cb c : Nat} {X Y : Nat -> Nat} (R : RIn w a b ba oa n ca bb ob m cb X Y) (M : xq0 w w' c) (h1 : 0 < n -> ba ≠ c) (h2 : 0 < m -> bb ≠ c) : RIn w' a b ba oa n ca bb ob m cb X Y :=
 ⟨R.nc, R.mc, R.ac, R.bc, R.LX.marked M h1, R.LY.marked M h2, R.lX, R.lY, R.pX, R.pY, R.m0⟩
theorem yz7.put {w w' : World} {c k lo H : Nat} {v : Nat -> Rat} {E : Nat -> Nat} {g h : Nat} {a1 : Option Addr} {n1 k1 : Nat} {a2 : Option Addr} {n2 k2 : Nat} {X Y : Nat -> Nat} (T : yz7 w c k v E) (hE : E k <= lo) (hH : lo <= H) (M : xq0 w w' c)
 (hc : ∀ o, o < k * 3 -> w'.cell? ⟨c, o, none⟩ = w.cell? ⟨c, o, none⟩) (R : RIn w a1 a2 g 0 n1 k1 h 0 n2 k2 X Y) (v1 : lv X n1 = (v k).num.natAbs) (v2 : lv Y n2 = (v k).den)
 (lg : 0 < n1 -> lo <= g /\ g < H /\ ∀ o, w.frozen? ⟨g, o, none⟩ = false) (lh : 0 < n2 -> lo <= h /\ h < H /\ ∀ o, w.frozen? ⟨h, o, none⟩ = false) (ne : 0 < n1 -> 0 < n2 -> g ≠ h)
 (c0 : w'.cell? ⟨c, k * 3, none⟩ = some (.bool (qn (v k)))) (c1 : w'.cell? ⟨c, k * 3 + 1, none⟩ = some (.slice a1 n1 k1)) (c2 : w'.cell? ⟨c, k * 3 + 2, none⟩ = some (.slice a2 n2 k2)) :
 yz7 w' c (k + 1) v (fun i => if i <= k then E i else H) := by
 refine ⟨fun i hi => ?_, by simpa using T.lo, fun i hi => ?_⟩
 . by_cases e : i = k
   . subst e
     have hb := T.base (Nat.le_refl i); refine ⟨g, h, a1, n1, k1, a2, n2, k2, X, Y, c0, c1, c2, R.marked M (fun h0 => by have := (lg h0).1; omega) (fun h0 => by have := (lh h0).1; omega), v1, v2, fun h0 => ?_, fun h0 => ?_, ne⟩
     . simp only [Nat.le_refl, if_true, show ¬ i + 1 <= i by omega, if_false]
       exact ⟨by have := (lg h0).1; omega, (lg h0).2.1, fun o => by rw [M.frozenO (a := ⟨g, o, none⟩) (by show g ≠ c; have := (lg h0).1; omega)]; exact (lg h0).2.2 o⟩
     . simp only [Nat.le_refl, if_true, show ¬ i + 1 <= i by omega, if_false]
       exact ⟨by have := (lh h0).1; omega, (lh h0).2.1, fun o => by rw [M.frozenO (a := ⟨h, o, none⟩) (by show h ≠ c; have := (lh h0).1; omega)]; exact (lh h0).2.2 o⟩
   . have hi' : i < k := by omega
     obtain ⟨g', h', b1, m1, l1, b2, m2, l2, X', Y', r⟩ := T.at_ i hi'; have hb := T.base (show i <= k by omega); refine ⟨g', h', b1, m1, l1, b2, m2, l2, X', Y', (hc _ (by omega)).trans r.c0, (hc _ (by omega)).trans r.c1, (hc _ (by omega)).trans r.c2, r.R.marked M (fun h0 => by have := (r.lg h0).1; omega) (fun h0 => by have := (r.lh h0).1; omega), r.v1, r.v2, fun h0 => ?_, fun h0 => ?_, r.ne⟩
     . simp only [show i <= k by omega, if_true, show i + 1 <= k by omega]
       exact ⟨(r.lg h0).1, (r.lg h0).2.1, fun o => by rw [M.frozenO (a := ⟨g', o, none⟩) (by show g' ≠ c; have := (r.lg h0).1; omega)]; exact (r.lg h0).2.2 o⟩
     . simp only [show i <= k by omega, if_true, show i + 1 <= k by omega]
       exact ⟨(r.lh h0).1, (r.lh h0).2.1, fun o => by rw [M.frozenO (a := ⟨h', o, none⟩) (by show h' ≠ c; have := (r.lh h0).1; omega)]; exact (r.lh h0).2.2 o⟩
 . by_cases e : i = k
   . subst e
     simp only [Nat.le_refl, if_true, show ¬ i + 1 <= i by omega, if_false]; omega
   . simp only [show i <= k by omega, if_true, show i + 1 <= k by omega]
     exact T.mono i (by omega)
theorem ownRats_any (ax : Option Addr) (bx ox n cx : Nat) (v : Nat -> Rat) (w : World) (hn : n <= 1048576) (HX : xj5 w (fun _ => True) ax bx ox n v) (hq : ∀ i, i < n -> Qb (v i) 1048640) :
 Calls Tryz.prog 39 #[.slice ax n cx] w fun e w' => ∃ c E, e = .returned (.slice (some ⟨c, 0, none⟩) n n) /\ w.heap.size <= c /\ yz7 w' c n v E /\ Room w' c (n * 3) /\ E n <= w'.heap.size /\ w.Since w.heap.size w' := by
 have hmk := xz8 (P := Tryz.prog) 28 70 _ 3 56 Tryz.underlying28 yq0 .i64 .i64 n (by omega) (by omega); have sA := sal w (.cells (madeCells #[.bool false, .slice none 0 0, .slice none 0 0] (n * 3)) 70); have rA := Room.new w #[.bool false, .slice none 0 0, .slice none 0 0] (n * 3) 70; have zA : w.heap.size < (w.alloc (.cells (madeCells #[.bool false, .slice none 0 0, .slice none 0 0] (n * 3)) 70)).heap.size := by simp
 go_enter Tryz.func39, Tryz.ntmps39; go_wp2
 go_loopw [11] (fun i wr => ∃ k : Nat, k <= n /\ i = .int .i64 k /\ w.Since w.heap.size wr /\ Room wr w.heap.size (n * 3) /\ ∃ E, yz7 wr w.heap.size k v E /\ E k <= wr.heap.size) (fun i _ => n - (intOf i).toNat)
 case atStart => exact ⟨0, Nat.zero_le _, rfl, sA, rA, fun _ => w.heap.size + 1, ⟨fun i hi => absurd hi (by omega), by omega, fun i hi => absurd hi (by omega)⟩, zA⟩
 case round =>
  obtain ⟨k, hk, rfl, s, r, E, T, hE⟩ := hrel
  by_cases hlt : k < n
  . obtain ⟨rfl, x, y, M⟩ := HX k hlt
    obtain ⟨a6, n6, c6, b6, m6, d6, ba, oa, bb, ob, X, Y, e6, RI, vX, vY, -, -⟩ := M.R; simp only [Value.agg.injEq, Array.mk.injEq, List.cons.injEq, and_true, true_and] at e6; obtain ⟨rfl, rfl⟩ := e6; have z1 := xz3 RI.pX (by rw [vX]; exact (hq k hlt).1); have z2 := xz3 RI.pY (by rw [vY]; exact (hq k hlt).2); have M' := M.keep s; have g0 := M'.c0; have g1 := M'.c1; have g2 := M'.c2; have hz : (k : Int) < (n : Int) := by omega
    have rl := r.lt; have t1 := sal wr (.cells #[.bool (qn (v k)), .slice a6 n6 c6, .slice b6 m6 d6] 70); have p1 := Box3.new wr (.bool (qn (v k))) (.slice a6 n6 c6) (.slice b6 m6 d6) 70; go_wp2_with fail; generalize wr.alloc (.cells #[.bool (qn (v k)), .slice a6 n6 c6, .slice b6 m6 d6] 70) = w1 at *; have dr := sdr w1; have u2 := t1.trans (sM dr t1.size); have S2 := s.trans (sM u2 s.size); have zz : wr.heap.size <= w1.drew.heap.size := u2.size; have RD := RI.keep S2; have p2 := p1.keep dr; have k0 := p1.c0; have k1 := p1.c1; have k2 := p1.c2; have k0' := p2.c0; have k1' := p2.c1; have k2' := p2.c2; have pl := p1.lt; have JN := ownCopy_o a6 ba oa n6 c6 X w1.drew (by omega) RI.nc RI.ac RD.LX RI.pX; have JD := ownCopy_o b6 bb ob m6 d6 Y w1.drew (by omega) RI.mc RI.bc RD.LY RI.pY; have ne1 : w.heap.size ≠ wr.heap.size := by omega
    clear g0 g1 g2
    go_region_held3 (fun w' => w'.cell? ⟨wr.heap.size, 0, none⟩ = some (.bool (qn (v k))) /\ w'.cell? ⟨wr.heap.size, 1, none⟩ = some (.slice a6 n6 c6) /\ w'.cell? ⟨wr.heap.size, 2, none⟩ = some (.slice b6 m6 d6)) (go_keep)
     (first
       | (go_at_call 76
          with_reducible refine JN.mono ?_
          rintro e w4 ⟨aN, cN, gN, rfl, nN1, nN2, LN4, FN4, s4⟩; have JD2 := ownCopy_o b6 bb ob m6 d6 Y w4 (by omega) RI.mc RI.bc (RD.LY.keep s4) RI.pY; have p4 := p2.keep s4; have i0 := p4.c0; have i1 := p4.c1; have i2 := p4.c2)
       | (go_at_call 76
          with_reducible refine JD.mono ?_
          rintro e w4 ⟨aD, cD, gD, rfl, nD1, nD2, LD4, FD4, s4⟩; have JN2 := ownCopy_o a6 ba oa n6 c6 X w4 (by omega) RI.nc RI.ac (RD.LX.keep s4) RI.pX; have p4 := p2.keep s4; have i0 := p4.c0; have i1 := p4.c1; have i2 := p4.c2)
       | (go_at_call 76
          with_reducible refine JD2.mono ?_
          rintro e w5 ⟨aD, cD, gD, rfl, nD1, nD2, LD, FD, s5⟩; have LN := LN4.keep s5; have z5 := s5.size; have z4 := s4.size; have FN : 0 < n6 -> w1.drew.heap.size <= gN /\ gN < w5.heap.size /\ ∀ o, w5.frozen? ⟨gN, o, none⟩ = false := fun h => ⟨(FN4 h).1, by have := (FN4 h).2.1; omega, fun o => by rw [s5.frozen (a := ⟨gN, o, none⟩) (LN4.lt h)]; exact (FN4 h).2.2 o⟩
          have FD' : 0 < m6 -> w1.drew.heap.size <= gD /\ gD < w5.heap.size /\ ∀ o, w5.frozen? ⟨gD, o, none⟩ = false := fun h => ⟨by have := (FD h).1; omega, (FD h).2.1, (FD h).2.2⟩
          have NE : 0 < n6 -> 0 < m6 -> gN ≠ gD := fun h1 h2 => by have := (FN4 h1).2.1; have := (FD h2).1; omega
          have p5 := p4.keep s5; have i0' := p5.c0; have i1' := p5.c1; have i2' := p5.c2; have u5 := u2.trans (sM (s4.trans (sM s5 s4.size)) u2.size); have r5 := r.keep u5; obtain ⟨v0, y0'⟩ := r5.cell (k * 3) (by omega); obtain ⟨v1, y1'⟩ := r5.cell (k * 3 + 1) (by omega); obtain ⟨v2, y2'⟩ := r5.cell (k * 3 + 2) (by omega); have f0 := r5.f (k * 3); have f1 := r5.f (k * 3 + 1); have f2 := r5.f (k * 3 + 2))
       | (go_at_call 76
          with_reducible refine JN2.mono ?_
          rintro e w5 ⟨aN, cN, gN, rfl, nN1, nN2, LN, FN4, s5⟩; have LD := LD4.keep s5; have z5 := s5.size; have z4 := s4.size; have FD' : 0 < m6 -> w1.drew.heap.size <= gD /\ gD < w5.heap.size /\ ∀ o, w5.frozen? ⟨gD, o, none⟩ = false := fun h => ⟨(FD4 h).1, by have := (FD4 h).2.1; omega, fun o => by rw [s5.frozen (a := ⟨gD, o, none⟩) (LD4.lt h)]; exact (FD4 h).2.2 o⟩
          have FN : 0 < n6 -> w1.drew.heap.size <= gN /\ gN < w5.heap.size /\ ∀ o, w5.frozen? ⟨gN, o, none⟩ = false := fun h => ⟨by have := (FN4 h).1; omega, (FN4 h).2.1, (FN4 h).2.2⟩
          have NE : 0 < n6 -> 0 < m6 -> gN ≠ gD := fun h1 h2 => by have := (FN4 h1).1; have := (FD4 h2).2.1; omega
          have p5 := p4.keep s5; have i0' := p5.c0; have i1' := p5.c1; have i2' := p5.c2; have u5 := u2.trans (sM (s4.trans (sM s5 s4.size)) u2.size); have r5 := r.keep u5; obtain ⟨v0, y0'⟩ := r5.cell (k * 3) (by omega); obtain ⟨v1, y1'⟩ := r5.cell (k * 3 + 1) (by omega); obtain ⟨v2, y2'⟩ := r5.cell (k * 3 + 2) (by omega); have f0 := r5.f (k * 3); have f1 := r5.f (k * 3 + 1); have f2 := r5.f (k * 3 + 2)))
    all_goals go_wp2
    all_goals go_roundw
    case measure => simp [intOf]; omega
    all_goals go_light
    all_goals
     have S5 := s.trans (sM u5 s.size); obtain ⟨w7, e7, M7, R7, x0, x1, x2, xo⟩ := put3 (q := k * 3) r5 (by omega) (.bool (qn (v k))) (.slice aN n6 cN) (.slice aD m6 cD); rw [<- e7]; refine ⟨k + 1, by omega, by go_num, S5.trans (M7.since (Nat.le_refl _)), R7, _, (T.keep u5).put (lo := w1.drew.heap.size) (H := w5.heap.size) (Nat.le_trans hE zz) (by omega) M7 (fun o ho => xo o (by omega)) ⟨nN1, nD1, nN2, nD2, LN, LD, RI.lX, RI.lY, RI.pX, RI.pY, RI.m0⟩ vX vY FN FD' NE x0 x1 x2, ?_⟩; rw [if_neg (by omega), M7.size]; exact Nat.le_refl _
  . have e : k = n := by omega
    subst e; go_wp2; go_ret; exact ⟨w.heap.size, E, rfl, Nat.le_refl _, T, r, hE, s⟩
theorem eqRat_q {v v' : Value} {q : Rat} {k : Nat} {w : World} (hq : Qb q k) (hk : k <= 4194304) (R : RatR w v q) (R' : RatR w v' q) :
 Calls Tryz.prog 40 #[v, v'] w fun e w' => e = .returned (.bool true) /\ w.Since w.heap.size w' := by
 obtain ⟨a, n, ca, b, m, cb, ba, oa, bb, ob, X, Y, rfl, R, x1, x2⟩ := R; obtain ⟨a', n', ca', b', m', cb', ba', oa', bb', ob', X', Y', rfl, R', y1, y2⟩ := R'; have n1 := xz3 R.pX (by rw [x1]; exact hq.1); have n2 := xz3 R.pY (by rw [x2]; exact hq.2); obtain ⟨rfl, eX⟩ := lv_inj R'.lX R.lX R'.pX R.pX (y1.trans x1.symm); obtain ⟨rfl, eY⟩ := lv_inj R'.lY R.lY R'.pY R.pY (y2.trans x2.symm); exact eqRat_true (qn q) a a' b b' ba oa ba' oa' _ ca ca' bb ob bb' ob' _ cb cb' X Y w (by omega) (by omega) R.LX (R'.LX.congr eX) R.LY (R'.LY.congr eY)
theorem eqRatS_q (a a' : Option Addr) (b off cap b' off' cap' n : Nat) (Q : Nat -> Rat) (w : World) (hn : n <= 1048576) (hq : ∀ i, i < n -> Qb (Q i) 1048640) (H : xj5 w (fun _ => True) a b off n Q) (H' : xj5 w (fun _ => True) a' b' off' n Q) :
 Calls Tryz.prog 12 #[.slice a n cap, .slice a' n cap'] w fun e w' => e = .returned (.bool true) /\ w.Since w.heap.size w' := by
 go_enter Tryz.func12, Tryz.ntmps12; go_wp2
 go_loopw [5] (fun i wr => ∃ k : Nat, k <= n /\ i = .int .i64 k /\ w.Since w.heap.size wr) (fun i _ => n - (intOf i).toNat)
 case atStart => exact ⟨0, Nat.zero_le _, rfl, World.Since.refl _ _⟩
 case round =>
  obtain ⟨k, hk, rfl, s⟩ := hrel
  by_cases hlt : k < n
  . obtain ⟨rfl, x, y, M⟩ := H k hlt
    obtain ⟨rfl, x', y', M'⟩ := H' k hlt; have R1 := M.R.read; have R2 := M'.R.read; obtain ⟨a5, n5, c5, b5, m5, d5, -, -, -, -, -, -, e5, -⟩ := M.R; obtain ⟨a6, n6, c6, b6, m6, d6, -, -, -, -, -, -, e6, -⟩ := M'.R; simp only [Value.agg.injEq, Array.mk.injEq, List.cons.injEq, and_true, true_and] at e5 e6; obtain ⟨rfl, rfl⟩ := e5; obtain ⟨rfl, rfl⟩ := e6; have dr := sdr wr; have sd := s.trans (sM dr s.size); have g0 := (M.keep s).c0; have g1 := (M.keep s).c1; have g2 := (M.keep s).c2; have g0' := (M'.keep s).c0; have g1' := (M'.keep s).c1; have g2' := (M'.keep s).c2; have hz : (k : Int) < (n : Int) := by omega
    have J1 := eqRat_q (hq k hlt) (by omega) (R1.keep sd) (R2.keep sd); go_wp2_with fail
    go_region_held3 (fun w' => w'.cell? ⟨b, off + k * 3, none⟩ = some (.bool (qn (Q k))) /\ w'.cell? ⟨b, off + k * 3 + 1, none⟩ = some (.slice a5 n5 c5) /\ w'.cell? ⟨b, off + k * 3 + 2, none⟩ = some (.slice b5 m5 d5) /\ w'.cell? ⟨b', off' + k * 3, none⟩ = some (.bool (qn (Q k))) /\ w'.cell? ⟨b', off' + k * 3 + 1, none⟩ = some (.slice a6 n6 c6) /\ w'.cell? ⟨b', off' + k * 3 + 2, none⟩ = some (.slice b6 m6 d6)) (go_keep)
     (first
       | (go_at_call 40
          with_reducible refine J1.mono ?_
          rintro e w1 ⟨rfl, s1⟩; have S1 := sd.trans (sM s1 sd.size); have i0 := (M.keep S1).c0; have i1 := (M.keep S1).c1; have i2 := (M.keep S1).c2; have i0' := (M'.keep S1).c0; have i1' := (M'.keep S1).c1; have i2' := (M'.keep S1).c2))
    all_goals go_wp2
    all_goals go_roundw
    case rel => exact ⟨k + 1, by omega, by go_num, S1⟩
    case measure => simp [intOf]; omega
  . go_wp2
    go_ret; exact ⟨rfl, s⟩
theorem yz7.qs {w : World} {b n : Nat} {Q : Nat -> Rat} {E : Nat -> Nat} (T : yz7 w b n Q E) : xj5 w (fun _ => True) (some ⟨b, 0, none⟩) b 0 n Q := fun i hi => by
 obtain ⟨g, h, a1, n1, k1, a2, n2, k2, X, Y, r⟩ := T.at_ i hi; refine ⟨rfl, .slice a1 n1 k1, .slice a2 n2 k2, by rw [Nat.zero_add]; exact r.c0, by rw [Nat.zero_add]; exact r.c1, by rw [Nat.zero_add]; exact r.c2, ?_⟩; exact ⟨a1, n1, k1, a2, n2, k2, g, 0, h, 0, X, Y, rfl, r.R, r.v1, r.v2, fun _ => trivial, fun _ => trivial⟩
theorem markU_any (a : Option Addr) (b n cap : Nat) (X : Nat -> Nat) (k0 : Nat) (w : World) (hn : n <= 4194304) (hk0 : k0 <= 1152921504606846976) (hX : xq2 w a b 0 n X) (hf : 0 < n -> ∀ o, w.frozen? ⟨b, o, none⟩ = false) :
 Calls Tryz.prog 43 #[.slice a n cap, .int .i64 k0] w fun e w' => e = .returned (.int .i64 ((k0 + n : Nat) : Int)) /\ xq0 w w' b /\ (n = 0 -> w' = w) /\ xq2 w' a b 0 n (fun j => (k0 + j) % 4294967296) := by
 go_enter Tryz.func43, Tryz.ntmps43; go_wp2
 go_loopw [1, 5] (fun q i wr => ∃ k : Nat, k <= n /\ i = .int .i64 k /\ q = .int .i64 ((k0 + k : Nat) : Int) /\ xq0 w wr b /\ (k = 0 -> wr = w) /\ xq2 wr a b 0 n (fun j => if j < k then (k0 + j) % 4294967296 else X j)) (fun _ i _ => n - (intOf i).toNat)
 case atStart => exact ⟨0, Nat.zero_le _, rfl, rfl, xq0.refl _ _, fun _ => rfl, fun j hj => by simpa using hX j hj⟩
 case round =>
  obtain ⟨k, hk, rfl, rfl, hs, hz, hr⟩ := hrel
  by_cases hlt : k < n
  . obtain ⟨rfl, hc⟩ := hr k hlt
    have g0 : wr.cell? ⟨b, k, none⟩ = some (.int .u32 ((X k : Nat) : Int)) := by simpa using hc
    have g1 : wr.frozen? ⟨b, k, none⟩ = false := by rw [hs.frozen]; exact hf (by omega) k
    have em : ((k0 + k : Nat) : Int) % 4294967296 = (((k0 + k) % 4294967296 : Nat) : Int) := by omega
    clear hc; go_wp2; go_roundw
    case rel =>
     refine ⟨k + 1, by omega, by go_num, by go_num, hs.setCell _ _, fun h0 => absurd h0 (by omega), fun j hj => ⟨rfl, ?_⟩⟩; go_light
     by_cases e : j = k
     . subst e
       rw [Nat.zero_add, World.cell?_setCell_same _ _ _ g0]
       simp
     . rw [World.cell?_setCell_other _ _ _ _ (fun h => by have := congrArg Addr.off h; simp at this; omega)]
       have := (hr j hj).2; simp only [this]
       by_cases e2 : j < k
       . rw [if_pos e2, if_pos (by omega)]
       . rw [if_neg e2, if_neg (by omega)]
    case measure => simp [intOf]; omega
  . have e : k = n := by omega
    subst e; go_wp2; go_ret; exact ⟨rfl, hs, hz, fun j hj => by have := hr j hj; simpa [hj] using this⟩
theorem heldU_any (a : Option Addr) (b off n cap : Nat) (k0 : Nat) (w : World) (hn : n <= 4194304) (hk0 : k0 <= 1152921504606846976) (hX : xq2 w a b off n (fun j => (k0 + j) % 4294967296)) :
 Calls Tryz.prog 44 #[.slice a n cap, .int .i64 k0] w fun e w' => e = .returned (.int .i64 ((k0 + n : Nat) : Int)) /\ w' = w := by
 go_enter Tryz.func44, Tryz.ntmps44; go_wp2
 go_loop [1, 5] (fun q i => ∃ k : Nat, k <= n /\ i = .int .i64 k /\ q = .int .i64 ((k0 + k : Nat) : Int)) (fun _ i => n - (intOf i).toNat)
 case atStart => exact ⟨0, Nat.zero_le _, rfl, rfl⟩
 case round =>
  obtain ⟨k, hk, rfl, rfl⟩ := hrel
  by_cases hlt : k < n
  . obtain ⟨rfl, hc⟩ := hX k hlt
    go_wp2
    go_round
    case rel => exact ⟨k + 1, by omega, by go_num, by go_num⟩
    case measure => simp [intOf]; omega
  . have e : k = n := by omega
    subst e; go_wp2; go_ret; exact ⟨rfl, rfl⟩
structure Fra (w w' : World) (S : Nat -> Prop) : Prop where
 os : w'.os = w.os
 tape : w'.tape = w.tape
 output : w'.output = w.output
 size : w'.heap.size = w.heap.size
 other : ∀ k, ¬ S k -> w'.heap[k]? = w.heap[k]?
 frozen : ∀ b o, w'.frozen? ⟨b, o, none⟩ = w.frozen? ⟨b, o, none⟩
section
variable {w w' w'' : World} {S S' : Nat -> Prop} {b n : Nat}
theorem Fra.refl (w : World) (S : Nat -> Prop) : Fra w w S := ⟨rfl, rfl, rfl, rfl, fun _ _ => rfl, fun _ _ => rfl⟩
theorem Fra.mono (f : Fra w w' S) (h : ∀ k, S k -> S' k) : Fra w w' S' := ⟨f.os, f.tape, f.output, f.size, fun k hk => f.other k (fun h0 => hk (h k h0)), f.frozen⟩
theorem Fra.trans (f : Fra w w' S) (g : Fra w' w'' S) : Fra w w'' S :=
 ⟨g.os.trans f.os, g.tape.trans f.tape, g.output.trans f.output, g.size.trans f.size, fun k hk => (g.other k hk).trans (f.other k hk), fun b o => (g.frozen b o).trans (f.frozen b o)⟩
theorem xq0.fr (M : xq0 w w' b) : Fra w w' (fun k => k = b) :=
 ⟨M.os, M.tape, M.output, M.size, fun k hk => M.other k hk, fun c o => by
   by_cases e : c = b
   . subst e; exact M.frozen o
   . exact M.frozenO (a := ⟨c, o, none⟩) e⟩
theorem xq0.frN (M : xq0 w w' b) (h : n = 0 -> w' = w) : Fra w w' (fun k => 0 < n /\ k = b) := by
 by_cases e : n = 0
 . rw [h e]; exact Fra.refl _ _
 . exact M.fr.mono (fun k hk => ⟨by omega, hk⟩)
theorem Fra.cell (f : Fra w w' S) {a : Addr} (h : ¬ S a.block) : w'.cell? a = w.cell? a := World.cell?_of_block (w := w) (f.other _ h)
theorem Fra.limbs {a : Option Addr} {off : Nat} {X : Nat -> Nat} (f : Fra w w' S) (L : xq2 w a b off n X) (h : 0 < n -> ¬ S b) : xq2 w' a b off n X :=
 fun j hj => ⟨(L j hj).1, by rw [f.cell (a := ⟨b, off + j, none⟩) (h (by omega))]; exact (L j hj).2⟩
end
theorem Fra.since {w w' : World} {S : Nat -> Prop} {B : Nat} (F : Fra w w' S) (h : ∀ k, S k -> B <= k) : w.Since B w' :=
 ⟨F.os, F.tape, F.output, by rw [F.size]; exact Nat.le_refl _, fun k hk => F.other k (fun h0 => by have := h k h0; omega)⟩
structure OwnE (w : World) (lo hi b off : Nat) (f : Bool) (g h : Nat) (a1 : Option Addr) (n1 k1 : Nat) (a2 : Option Addr) (n2 k2 : Nat) (X Y : Nat -> Nat) : Prop where
 c0 : w.cell? ⟨b, off, none⟩ = some (.bool f)
 c1 : w.cell? ⟨b, off + 1, none⟩ = some (.slice a1 n1 k1)
 c2 : w.cell? ⟨b, off + 2, none⟩ = some (.slice a2 n2 k2)
 L1 : xq2 w a1 g 0 n1 X
 L2 : xq2 w a2 h 0 n2 Y
 s1 : n1 <= 4194304
 s2 : n2 <= 4194304
 lg : 0 < n1 -> lo <= g /\ g < hi /\ ∀ o, w.frozen? ⟨g, o, none⟩ = false
 lh : 0 < n2 -> lo <= h /\ h < hi /\ ∀ o, w.frozen? ⟨h, o, none⟩ = false
 ne : 0 < n1 -> 0 < n2 -> g ≠ h
theorem OwnE.frame {w w' : World} {S : Nat -> Prop} {lo hi b off : Nat} {f : Bool} {g h : Nat} {a1 : Option Addr} {n1 k1 : Nat} {a2 : Option Addr} {n2 k2 : Nat} {X Y : Nat -> Nat} (r : OwnE w lo hi b off f g h a1 n1 k1 a2 n2 k2 X Y) (F : Fra w w' S)
 (hS : ∀ k, lo <= k -> k < hi -> ¬ S k) (hc : ∀ o, off <= o -> o < off + 3 -> w'.cell? ⟨b, o, none⟩ = w.cell? ⟨b, o, none⟩) : OwnE w' lo hi b off f g h a1 n1 k1 a2 n2 k2 X Y :=
 ⟨by rw [hc _ (by omega) (by omega)]; exact r.c0, by rw [hc _ (by omega) (by omega)]; exact r.c1, by rw [hc _ (by omega) (by omega)]; exact r.c2,
   F.limbs r.L1 (fun h0 => hS g (r.lg h0).1 (r.lg h0).2.1), F.limbs r.L2 (fun h0 => hS h (r.lh h0).1 (r.lh h0).2.1), r.s1, r.s2,
   fun h0 => ⟨(r.lg h0).1, (r.lg h0).2.1, fun o => by rw [F.frozen]; exact (r.lg h0).2.2 o⟩, fun h0 => ⟨(r.lh h0).1, (r.lh h0).2.1, fun o => by rw [F.frozen]; exact (r.lh h0).2.2 o⟩, r.ne⟩
def OwnFrom (w : World) (b k n : Nat) (E : Nat -> Nat) : Prop := ∀ i, k <= i -> i < n -> ∃ f g h a1 n1 k1 a2 n2 k2 X Y, OwnE w (E i) (E (i + 1)) b (i * 3) f g h a1 n1 k1 a2 n2 k2 X Y
def MarkE (w : World) (b n : Nat) (E K : Nat -> Nat) : Prop := ∀ i, i < n -> ∃ g h a1 n1 k1 a2 n2 k2, OwnE w (E i) (E (i + 1)) b (i * 3) (decide (K i % 3 = 0)) g h a1 n1 k1 a2 n2 k2 (fun j => (K i + 1 + j) % 4294967296) (fun j => (K i + 1 + n1 + j) % 4294967296) /\ K (i + 1) = K i + 1 + n1 + n2
theorem xk0 {E : Nat -> Nat} {n : Nat} (h : ∀ i, i < n -> E i <= E (i + 1)) {i j : Nat} (hij : i <= j) (hj : j <= n) : E i <= E j := by
 induction j with
 | zero => have : i = 0 := by omega
           subst this; exact Nat.le_refl _
 | succ j ih =>
   by_cases e : i = j + 1
   . subst e; exact Nat.le_refl _
   . exact Nat.le_trans (ih (by omega) (by omega)) (h j (by omega))
theorem markRatS_any (a : Option Addr) (b n cap : Nat) (E : Nat -> Nat) (k0 : Nat) (w : World) (hn : n <= 1048576) (hk0 : k0 <= 576460752303423488) (ha : 0 < n -> a = some ⟨b, 0, none⟩) (hE : ∀ i, i < n -> E i <= E (i + 1)) (hb : b < E 0) (hf : 0 < n -> ∀ o, w.frozen? ⟨b, o, none⟩ = false) (H : OwnFrom w b 0 n E) :
 Calls Tryz.prog 15 #[.slice a n cap, .int .i64 k0] w fun e w' => ∃ K : Nat -> Nat, K 0 = k0 /\ K n <= k0 + n * 8388609 /\ e = .returned (.int .i64 ((K n : Nat) : Int)) /\ Fra w w' (fun k => 0 < n /\ (k = b ∨ E 0 <= k /\ k < E n)) /\ MarkE w' b n E K := by
 go_enter Tryz.func15, Tryz.ntmps15; go_wp2
 go_loopw [1, 5] (fun q i wr => ∃ (k : Nat) (K : Nat -> Nat), k <= n /\ i = .int .i64 k /\ q = .int .i64 ((K k : Nat) : Int) /\ K 0 = k0 /\ K k <= k0 + k * 8388609 /\ Fra w wr (fun k => 0 < n /\ (k = b ∨ E 0 <= k /\ k < E n)) /\ MarkE wr b k E K /\ OwnFrom wr b k n E) (fun _ i _ => n - (intOf i).toNat)
 case atStart => exact ⟨0, fun _ => k0, Nat.zero_le _, rfl, rfl, rfl, by simp, Fra.refl _ _, fun i hi => absurd hi (by omega), H⟩
 case round =>
  obtain ⟨k, K, hk, rfl, rfl, hK0, hK, hs, hm, ho⟩ := hrel
  by_cases hlt : k < n
  . obtain ⟨f, g, h, a1, n1, k1, a2, n2, k2, X, Y, r⟩ := ho k (Nat.le_refl _) hlt
    obtain rfl := ha (by omega); have g0 := r.c0; have g1 := r.c1; have g2 := r.c2; have fz : wr.frozen? ⟨b, k * 3, none⟩ = false := by rw [hs.frozen]; exact hf (by omega) _
    have s1 := r.s1; have s2 := r.s2; have zK : K k <= 1125899906842624000 := by omega
    generalize hKk : K k = Kk at *; go_wp2_with fail; have b1 : b < E k := Nat.lt_of_lt_of_le hb (xk0 hE (Nat.zero_le _) hk); have M1 : xq0 wr (wr.setCell ⟨b, k * 3, none⟩ (.bool ((Kk : Int) % 3 == 0))) b := (xq0.refl wr b).setCell _ _
    have d0 : (wr.setCell ⟨b, k * 3, none⟩ (.bool ((Kk : Int) % 3 == 0))).cell? ⟨b, k * 3, none⟩ = some (.bool (decide (Kk % 3 = 0))) := by
     rw [World.cell?_setCell_same _ _ _ g0]
     have : ((Kk : Int) % 3 == 0) = decide (Kk % 3 = 0) := by
      rw [Bool.eq_iff_iff, beq_iff_eq, decide_eq_true_iff]; omega
     rw [this]
    have d1 : ∀ o, o ≠ k * 3 -> (wr.setCell ⟨b, k * 3, none⟩ (.bool ((Kk : Int) % 3 == 0))).cell? ⟨b, o, none⟩ = wr.cell? ⟨b, o, none⟩ := fun o ho =>
     World.cell?_setCell_other _ _ _ _ (fun h => by have := congrArg Addr.off h; simp at this; omega)
    generalize wr.setCell ⟨b, k * 3, none⟩ (.bool ((Kk : Int) % 3 == 0)) = w1 at *; rw [show ((Kk : Int) + 1) = ((Kk + 1 : Nat) : Int) by omega]; refine (markU_any a1 g n1 k1 X (Kk + 1) w1 s1 (by omega) (r.L1.marked M1 (fun h0 => by have := (r.lg h0).1; omega)) (fun h0 o => by rw [M1.fr.frozen]; exact (r.lg h0).2.2 o)).mono ?_; rintro e w2 ⟨rfl, M2, z2, L2⟩; have F2 := M2.frN z2; have nb1 : ¬ (0 < n1 /\ b = g) := fun h0 => by have := (r.lg h0.1).1; omega
    have nb2 : ¬ (0 < n2 /\ b = h) := fun h0 => by have := (r.lh h0.1).1; omega
    have i2 : w2.cell? ⟨b, k * 3 + 2, none⟩ = some (.slice a2 n2 k2) := by rw [F2.cell (a := ⟨b, k * 3 + 2, none⟩) nb1, d1 _ (by omega)]; exact g2
    go_wp2_with fail; have Y2 : xq2 w2 a2 h 0 n2 Y := F2.limbs (r.L2.marked M1 (fun h0 => by have := (r.lh h0).1; omega)) (fun h0 h1 => r.ne h1.1 h0 h1.2.symm); refine (markU_any a2 h n2 k2 Y (Kk + 1 + n1) w2 s2 (by omega) Y2 (fun h0 o => by rw [F2.frozen, M1.fr.frozen]; exact (r.lh h0).2.2 o)).mono ?_; rintro e w3 ⟨rfl, M3, z3, L3⟩; have F3 := M3.frN z3; go_wp2; go_roundw
    case rel =>
     have F : Fra wr w3 (fun c => c = b ∨ E k <= c /\ c < E (k + 1)) :=
      ((M1.fr.mono (fun c h0 => .inl h0)).trans (F2.mono (fun c h0 => .inr (by have := r.lg h0.1; rw [h0.2]; exact ⟨this.1, this.2.1⟩)))).trans (F3.mono (fun c h0 => .inr (by have := r.lh h0.1; rw [h0.2]; exact ⟨this.1, this.2.1⟩)))
     have hcb : ∀ o, o ≠ k * 3 -> w3.cell? ⟨b, o, none⟩ = wr.cell? ⟨b, o, none⟩ := fun o h0 => by
      rw [F3.cell (a := ⟨b, o, none⟩) nb2, F2.cell (a := ⟨b, o, none⟩) nb1, d1 o h0]
     refine ⟨k + 1, fun i => if i <= k then K i else Kk + 1 + n1 + n2, by omega, by go_num, ?_, ?_, ?_, hs.trans (F.mono ?_), fun i hi => ?_, fun i hi hi' => ?_⟩
     . simp only [show ¬ k + 1 <= k by omega, if_false]
       go_num
     . simpa using hK0
     . simp only [show ¬ k + 1 <= k by omega, if_false]; omega
     . intro c hc
       refine ⟨by omega, ?_⟩
       rcases hc with hc | hc
       . exact .inl hc
       . have := xk0 hE (Nat.zero_le k) hk
         have := xk0 hE (i := k + 1) (j := n) (by omega) (Nat.le_refl _); exact .inr ⟨by omega, by omega⟩
     . by_cases e : i = k
       . subst e
         simp only [Nat.le_refl, if_true, show ¬ i + 1 <= i by omega, if_false, hKk]; refine ⟨g, h, a1, n1, k1, a2, n2, k2, ⟨?_, ?_, ?_, F3.limbs L2 (fun h0 h1 => r.ne h0 h1.1 h1.2), L3, s1, s2, fun h0 => ⟨(r.lg h0).1, (r.lg h0).2.1, fun o => by rw [F.frozen]; exact (r.lg h0).2.2 o⟩, fun h0 => ⟨(r.lh h0).1, (r.lh h0).2.1, fun o => by rw [F.frozen]; exact (r.lh h0).2.2 o⟩, r.ne⟩, rfl⟩
         . rw [F3.cell (a := ⟨b, i * 3, none⟩) nb2, F2.cell (a := ⟨b, i * 3, none⟩) nb1]; exact d0
         . rw [hcb _ (by omega)]; exact g1
         . rw [hcb _ (by omega)]; exact g2
       . have hi2 : i < k := by omega
         simp only [show i <= k by omega, show i + 1 <= k by omega, if_true]; obtain ⟨g', h', a1', n1', k1', a2', n2', k2', r', e'⟩ := hm i hi2; have := xk0 hE (Nat.zero_le i) (show i <= n by omega); have := xk0 hE (i := i + 1) (j := k) (by omega) hk; exact ⟨g', h', a1', n1', k1', a2', n2', k2', r'.frame F (fun c h1 h2 h3 => by rcases h3 with h3 | h3 <;> omega) (fun o h1 h2 => hcb o (by omega)), e'⟩
     . obtain ⟨f', g', h', a1', n1', k1', a2', n2', k2', X', Y', r'⟩ := ho i (by omega) hi'
       have := xk0 hE (i := k + 1) (j := i) (by omega) (by omega); have := xk0 hE (Nat.zero_le i) (show i <= n by omega); exact ⟨f', g', h', a1', n1', k1', a2', n2', k2', X', Y', r'.frame F (fun c h1 h2 h3 => by rcases h3 with h3 | h3 <;> omega) (fun o h1 h2 => hcb o (by omega))⟩
    case measure => simp [intOf]; omega
  . have e : k = n := by omega
    subst e; go_wp2; go_ret; exact ⟨K, hK0, hK, rfl, hs, hm⟩
theorem heldRatS_any (a : Option Addr) (b n cap : Nat) (E K : Nat -> Nat) (k0 : Nat) (w : World) (hn : n <= 1048576) (hk0 : k0 <= 576460752303423488) (ha : 0 < n -> a = some ⟨b, 0, none⟩) (hK0 : K 0 = k0) (H : MarkE w b n E K) :
 Calls Tryz.prog 16 #[.slice a n cap, .int .i64 k0] w fun e w' => e = .returned (.int .i64 ((K n : Nat) : Int)) /\ w' = w := by
 go_enter Tryz.func16, Tryz.ntmps16; go_wp2
 go_loop [1, 5] (fun q i => ∃ k : Nat, k <= n /\ i = .int .i64 k /\ q = .int .i64 ((K k : Nat) : Int) /\ K k <= k0 + k * 8388609) (fun _ i => n - (intOf i).toNat)
 case atStart => exact ⟨0, Nat.zero_le _, rfl, by rw [hK0], by omega⟩
 case round =>
  obtain ⟨k, hk, rfl, rfl, hK⟩ := hrel
  by_cases hlt : k < n
  . obtain ⟨g, h, a1, n1, k1, a2, n2, k2, r, eK⟩ := H k hlt
    obtain rfl := ha (by omega); have g0 := r.c0; have g1 := r.c1; have g2 := r.c2; have s1 := r.s1; have s2 := r.s2; have L1 := r.L1; have L2 := r.L2; have zK : K k <= 1125899906842624000 := by omega
    clear r; generalize hKk : K k = Kk at *
    have e3 : decide (Kk % 3 = 0) = ((Kk : Int) % 3 == 0) := by
     rw [Bool.eq_iff_iff, beq_iff_eq, decide_eq_true_iff]; omega
    rw [e3] at g0; go_wp2_with fail; rw [show ((Kk : Int) + 1) = ((Kk + 1 : Nat) : Int) by omega]; refine (heldU_any a1 g 0 n1 k1 (Kk + 1) w s1 (by omega) L1).mono ?_; rintro e w2 ⟨rfl, rfl⟩; go_wp2_with fail; refine (heldU_any a2 h 0 n2 k2 (Kk + 1 + n1) _ s2 (by omega) L2).mono ?_; rintro e w3 ⟨rfl, rfl⟩; go_wp2
    go_round
    case rel => exact ⟨k + 1, by omega, by go_num, by rw [eK]; go_num, by omega⟩
    case measure => simp [intOf]; omega
  . have e : k = n := by omega
    subst e; go_wp2; go_ret; exact ⟨rfl, rfl⟩
theorem yz7.own {w : World} {b n : Nat} {Q : Nat -> Rat} {E : Nat -> Nat} (T : yz7 w b n Q E) (hq : ∀ i, i < n -> Qb (Q i) 4194304) : OwnFrom w b 0 n E := fun i _ hi => by
 obtain ⟨g, h, a1, n1, k1, a2, n2, k2, X, Y, r⟩ := T.at_ i hi; have e1 := xz3 r.R.pX (by rw [r.v1]; exact (hq i hi).1); have e2 := xz3 r.R.pY (by rw [r.v2]; exact (hq i hi).2); exact ⟨_, g, h, a1, n1, k1, a2, n2, k2, X, Y, r.c0, r.c1, r.c2, r.R.LX, r.R.LY, by omega, by omega, r.lg, r.lh, r.ne⟩
def Ints (w : World) (a : Option Addr) (b off n : Nat) (X : Nat -> Int) : Prop := ∀ j, j < n -> a = some ⟨b, off, none⟩ /\ w.cell? ⟨b, off + j, none⟩ = some (.int .i64 (X j))
section
variable {w w' : World} {a : Option Addr} {b off n c : Nat} {X : Nat -> Int}
theorem Ints.keep (h : Ints w a b off n X) (s : w.Since w.heap.size w') : Ints w' a b off n X := fun j hj =>
 ⟨(h j hj).1, (s.cell (a := ⟨b, off + j, none⟩) (World.block_lt_of_cell? _ _ (h j hj).2)).trans (h j hj).2⟩
end
def xw2 (e : Ending) (p : Prop) : Prop := ∃ r : Bool, e = .returned (.bool r) /\ (r = true ↔ p)
theorem sizeFits_any (z : Int) (u : Bool) (w : World) : Calls Tryz.prog 126 #[.int .i64 z, .bool u] w fun e w' => xw2 e (SzOk z u) /\ w.Since w.heap.size w' := by
 cases u
 . go_enter Tryz.func126, Tryz.ntmps126
   go_wp2; go_ret; exact ⟨⟨z == 0, rfl, by simp [SzOk]⟩, World.Since.refl _ _⟩
 . by_cases h : 1 <= z
   . by_cases h2 : z <= 1000
     . go_enter Tryz.func126, Tryz.ntmps126
       go_wp2; go_ret; exact ⟨⟨true, rfl, by simp [SzOk, h, h2]⟩, World.Since.refl _ _⟩
     . go_enter Tryz.func126, Tryz.ntmps126
       go_wp2; go_ret; exact ⟨⟨false, rfl, by unfold SzOk; simp; omega⟩, World.Since.refl _ _⟩
   . go_enter Tryz.func126, Tryz.ntmps126
     go_wp2; go_ret; exact ⟨⟨false, rfl, by unfold SzOk; simp; omega⟩, World.Since.refl _ _⟩
theorem yw1 (op : Int) (ub uk us : Bool) (nums : Int) (d : xq1) (a1 : Option Addr) (lo k1 : Nat) (w : World) (hw : 0 <= w.heap.size) (hT : Tab w) (hd : d.size <= 1048576) (H : NodL w lo d a1 k1) :
 Calls Tryz.prog 94 #[.agg #[.int .i64 op, .bool ub, .bool uk, .bool us, .int .i64 nums], .agg #[.int .i64 d.op, .int .i64 d.a, .int .i64 d.b, .int .i64 d.k, .int .i64 d.s, .slice a1 d.nv k1]] w fun e w' => xw2 e (FitsP d ub uk us nums) /\ w.Since w.heap.size w' := by
 have ts := hd; unfold xq1.size at ts; obtain ⟨wA, eA⟩ : ∃ wA : World, wA = (w.alloc (.cells #[.int .i64 op, .bool ub, .bool uk, .bool us, .int .i64 nums] 142)).alloc (.cells #[.int .i64 d.op, .int .i64 d.a, .int .i64 d.b, .int .i64 d.k, .int .i64 d.s, .slice a1 d.nv k1] 84) := ⟨_, rfl⟩; have sA : w.Since w.heap.size wA := by rw [eA]; exact ((World.Since.refl _ _).alloc (Nat.le_refl _) _).alloc (by simp) _
 have fA : Box5 wA w.heap.size (.int .i64 op) (.bool ub) (.bool uk) (.bool us) (.int .i64 nums) := by rw [eA]; exact (Box5.new w _ _ _ _ _ _).keep ((World.Since.refl _ _).alloc (Nat.le_refl _) _)
 have nA : Box6 wA (w.heap.size + 1) (.int .i64 d.op) (.int .i64 d.a) (.int .i64 d.b) (.int .i64 d.k) (.int .i64 d.s) (.slice a1 d.nv k1) := by
  rw [eA]; have := Box6.new (w.alloc (.cells #[.int .i64 op, .bool ub, .bool uk, .bool us, .int .i64 nums] 142)) (.int .i64 d.op) (.int .i64 d.a) (.int .i64 d.b) (.int .i64 d.k) (.int .i64 d.s) (.slice a1 d.nv k1) 84
  simpa using this
 have EA := hide eA; clear eA
 by_cases hx : ub = false /\ d.b ≠ 0
 . obtain ⟨rfl, hb⟩ := hx
   go_enter Tryz.func94, Tryz.ntmps94; go_wp2; go_ret; exact ⟨⟨false, rfl, by simp [FitsP, hb]⟩, by rw [<- EA.out]; exact sA⟩
 have hU : ub = true ∨ (ub = false /\ d.b = 0) := by
  cases ub
  . exact .inr ⟨rfl, by simpa using hx⟩
  . exact .inl rfl
 have hu : ub = false -> d.b = 0 := by
  intro h
  rcases hU with e | e
  . rw [h] at e; cases e
  . exact e.2
 clear hx; have HU := hide hu; clear hu
 rcases hU with rfl | ⟨rfl, hb⟩
 focus
  go_enter Tryz.func94, Tryz.ntmps94
 rotate_left
 focus
  have hb2 : (d.b != 0) = false := by simp [hb]
  clear hb; go_enter Tryz.func94, Tryz.ntmps94
 all_goals
  go_wp2_with fail; rw [<- EA.out]; refine (sizeFits_any d.k uk wA).mono ?_; rintro e w1 ⟨⟨r1, rfl, h1⟩, s1⟩; have F1 := fA.keep s1; have N1 := nA.keep s1; have q3 := F1.c3; have q4 := N1.c4; clear EA; cases r1
  . go_wp2
    go_ret; exact ⟨⟨false, rfl, by simp only [Bool.false_eq_true, false_iff] at h1 ⊢; exact fun h => h1 h.2.1⟩, sA.trans (sM s1 sA.size)⟩
  have Z1 := hide (h1.1 rfl); clear h1; go_wp2_with fail; refine (sizeFits_any d.s us w1).mono ?_; rintro e w2 ⟨⟨r2, rfl, h2⟩, s2⟩; have F2 := F1.keep s2; have N2 := N1.keep s2; have u2 := s1.trans (sM s2 s1.size); have S2 := sA.trans (sM u2 sA.size); clear q3 q4; cases r2
  . go_wp2
    go_ret; exact ⟨⟨false, rfl, by simp only [Bool.false_eq_true, false_iff] at h2 ⊢; exact fun h => h2 h.2.2.1⟩, S2⟩
  have Z2 := hide (h2.1 rfl); clear h2; have p4 := F2.c4; have p5 := N2.c5; obtain ⟨bb, oo, -, LV⟩ := (H.keep S2).LV; have J3 := yj2 a1 lo bb oo d.nv k1 d.V w2 (Nat.zero_le _) (hT.stay hw S2) (by omega) (by omega) LV
  by_cases hn : nums = -1
  . subst hn
    go_wp2_with fail; refine J3.mono ?_; rintro e w3 ⟨r3, rfl, h3, s3⟩; go_wp2; go_ret; exact ⟨⟨r3, rfl, h3.trans ⟨fun h => ⟨(fun h => by first | exact HU.out h | exact HU.out trivial), Z1.out, Z2.out, fun h => absurd rfl h, h⟩, fun h => h.2.2.2.2⟩⟩, S2.trans (sM s3 S2.size)⟩
  by_cases hm : (d.nv : Int) = nums
  . subst hm
    go_wp2_with fail; refine J3.mono ?_; rintro e w3 ⟨r3, rfl, h3, s3⟩; go_wp2; go_ret; exact ⟨⟨r3, rfl, h3.trans ⟨fun h => ⟨(fun h => by first | exact HU.out h | exact HU.out trivial), Z1.out, Z2.out, fun _ => rfl, h⟩, fun h => h.2.2.2.2⟩⟩, S2.trans (sM s3 S2.size)⟩
  clear J3; have n1 : (nums != -1) = true := by simp [hn]
  have n2 : ((d.nv : Int) != nums) = true := by simp [hm]
  go_wp2; go_ret; exact ⟨⟨false, rfl, by simp only [Bool.false_eq_true, false_iff]; exact fun h => hm (h.2.2.2.1 hn)⟩, S2⟩
def KnowsP (va vb : Int) (n : Nat) (ub : Bool) : Prop := 0 <= va /\ va < n /\ (ub = true -> 0 <= vb /\ vb < n)
theorem yz3 (op : Int) (ub uk us : Bool) (nums v0 va vb v3 v4 : Int) (a1 : Option Addr) (nv k1 n : Nat) (w : World) :
 Calls Tryz.prog 95 #[.agg #[.int .i64 op, .bool ub, .bool uk, .bool us, .int .i64 nums], .agg #[.int .i64 v0, .int .i64 va, .int .i64 vb, .int .i64 v3, .int .i64 v4, .slice a1 nv k1], .int .i64 n] w fun e w' => xw2 e (KnowsP va vb n ub) /\ w.Since w.heap.size w' := by
 have sA : w.Since w.heap.size ((w.alloc (.cells #[.int .i64 op, .bool ub, .bool uk, .bool us, .int .i64 nums] 142)).alloc (.cells #[.int .i64 v0, .int .i64 va, .int .i64 vb, .int .i64 v3, .int .i64 v4, .slice a1 nv k1] 84)) := ((World.Since.refl _ _).alloc (Nat.le_refl _) _).alloc (by simp) _
 by_cases h0 : va < 0
 . go_enter Tryz.func95, Tryz.ntmps95
   go_wp2; go_ret; exact ⟨⟨_, rfl, by unfold KnowsP; simp <;> omega⟩, sA⟩
 by_cases h1 : (n : Int) <= va
 . go_enter Tryz.func95, Tryz.ntmps95
   go_wp2; go_ret; exact ⟨⟨_, rfl, by unfold KnowsP; simp <;> omega⟩, sA⟩
 cases ub
 . go_enter Tryz.func95, Tryz.ntmps95
   go_wp2; go_ret; exact ⟨⟨_, rfl, by unfold KnowsP; simp <;> omega⟩, sA⟩
 . by_cases h2 : vb < 0
   . go_enter Tryz.func95, Tryz.ntmps95
     go_wp2; go_ret; exact ⟨⟨_, rfl, by unfold KnowsP; simp <;> omega⟩, sA⟩
   by_cases h3 : (n : Int) <= vb
   . go_enter Tryz.func95, Tryz.ntmps95
     go_wp2; go_ret; exact ⟨⟨_, rfl, by unfold KnowsP; simp <;> omega⟩, sA⟩
   go_enter Tryz.func95, Tryz.ntmps95; go_wp2; go_ret; exact ⟨⟨_, rfl, by unfold KnowsP; simp <;> omega⟩, sA⟩
theorem xw9 {z : Int} (h0 : -9223372036854775808 <= z) (h1 : z <= 9223372036854775807) : IntKind.i64.wrap z = z := by
 rw [IntKind.wrap_i64]; omega
theorem dim1 (v0 v2 v3 v4 x : Int) (j : Nat) (a1 : Option Addr) (nv k1 : Nat) (aD : Option Addr) (bD n cD : Nat) (D : Nat -> Int) (w : World) (HD : Ints w aD bD 0 n D) (hjn : j < n) (hx : D j = x) (_x1 : 1 <= x) (_x2 : x <= 1000) (c0 : 0 <= v3) (c1 : v3 <= 1000) (_hv : nv <= 1048576) :
 Calls Tryz.prog 191 #[.agg #[.int .i64 v0, .int .i64 (j : Int), .int .i64 v2, .int .i64 v3, .int .i64 v4, .slice a1 nv k1], .slice aD n cD] w fun e w' => e = .returned (.tuple #[.int .i64 (if (nv : Int) = v3 * (x + 1) then v3 else 0), .int .i64 (if (nv : Int) = v3 * (x + 1) then 0 else 14)]) /\ w.Since w.heap.size w' := by
 have sA := sal w (.cells #[.int .i64 v0, .int .i64 (j : Int), .int .i64 v2, .int .i64 v3, .int .i64 v4, .slice a1 nv k1] 133); have hz : (j : Int) < (n : Int) := by omega
 obtain ⟨rfl, g0⟩ := (HD.keep sA) j hjn; rw [Nat.zero_add, hx] at g0; have y0 : 0 <= v3 * (x + 1) := Int.mul_nonneg c0 (by omega); have y1 : v3 * (x + 1) <= 1000 * 1001 := Int.mul_le_mul c1 (by omega) (by omega) (by omega); obtain ⟨y, hy⟩ : ∃ y, y = v3 * (x + 1) := ⟨_, rfl⟩; rw [<- hy] at y0 y1 ⊢; have q1 := xw9 (z := x + 1) (by omega) (by omega); have q2 : IntKind.i64.wrap (v3 * (x + 1)) = y := by rw [<- hy]; exact xw9 (by omega) (by omega)
 clear hy
 by_cases h : (nv : Int) = y
 . rw [if_pos h, if_pos h]
   have q3 : ((nv : Int) != y) = false := by simp [h]
   clear h; go_enter Tryz.func191, Tryz.ntmps191; go_wp2
   go_region
   go_wp2; go_ret2; exact ⟨rfl, sA.drew⟩
 . rw [if_neg h, if_neg h]
   have q3 : ((nv : Int) != y) = true := by simp [h]
   clear h; go_enter Tryz.func191, Tryz.ntmps191; go_wp2
   go_region
   go_wp2; go_ret2; exact ⟨rfl, sA.drew⟩
theorem dim2 (v0 v2 v3 v4 x : Int) (j : Nat) (a1 : Option Addr) (nv k1 : Nat) (aD : Option Addr) (bD n cD : Nat) (D : Nat -> Int) (w : World) (HD : Ints w aD bD 0 n D) (hjn : j < n) (hx : D j = x) (_x1 : 1 <= x) (_x2 : x <= 1000) :
 Calls Tryz.prog 194 #[.agg #[.int .i64 v0, .int .i64 (j : Int), .int .i64 v2, .int .i64 v3, .int .i64 v4, .slice a1 nv k1], .slice aD n cD] w fun e w' => e = .returned (.tuple #[.int .i64 x, .int .i64 0]) /\ w.Since w.heap.size w' := by
 have sA := sal w (.cells #[.int .i64 v0, .int .i64 (j : Int), .int .i64 v2, .int .i64 v3, .int .i64 v4, .slice a1 nv k1] 135); have hz : (j : Int) < (n : Int) := by omega
 obtain ⟨rfl, g0⟩ := (HD.keep sA) j hjn; rw [Nat.zero_add, hx] at g0; go_enter Tryz.func194, Tryz.ntmps194; go_wp2; go_ret2; exact ⟨rfl, sA⟩
theorem dim3 (v0 v2 v3 v4 x : Int) (j : Nat) (a1 : Option Addr) (nv k1 : Nat) (aD : Option Addr) (bD n cD : Nat) (D : Nat -> Int) (w : World) (HD : Ints w aD bD 0 n D) (hjn : j < n) (hx : D j = x) (_x1 : 1 <= x) (_x2 : x <= 1000) :
 Calls Tryz.prog 197 #[.agg #[.int .i64 v0, .int .i64 (j : Int), .int .i64 v2, .int .i64 v3, .int .i64 v4, .slice a1 nv k1], .slice aD n cD] w fun e w' => e = .returned (.tuple #[.int .i64 x, .int .i64 0]) /\ w.Since w.heap.size w' := by
 have sA := sal w (.cells #[.int .i64 v0, .int .i64 (j : Int), .int .i64 v2, .int .i64 v3, .int .i64 v4, .slice a1 nv k1] 136); have hz : (j : Int) < (n : Int) := by omega
 obtain ⟨rfl, g0⟩ := (HD.keep sA) j hjn; rw [Nat.zero_add, hx] at g0; go_enter Tryz.func197, Tryz.ntmps197; go_wp2; go_ret2; exact ⟨rfl, sA⟩
theorem dim4 (v0 v2 v3 v4 x : Int) (j : Nat) (a1 : Option Addr) (nv k1 : Nat) (aD : Option Addr) (bD n cD : Nat) (D : Nat -> Int) (w : World) (HD : Ints w aD bD 0 n D) (hjn : j < n) (hx : D j = x) (_x1 : 1 <= x) (_x2 : x <= 1000) (i : Nat) (hi : i < n) (hv2 : v2 = i) :
 Calls Tryz.prog 200 #[.agg #[.int .i64 v0, .int .i64 (j : Int), .int .i64 v2, .int .i64 v3, .int .i64 v4, .slice a1 nv k1], .slice aD n cD] w fun e w' => e = .returned (.tuple #[.int .i64 (if D i = x then x else 0), .int .i64 (if D i = x then 0 else 14)]) /\ w.Since w.heap.size w' := by
 have sA := sal w (.cells #[.int .i64 v0, .int .i64 (j : Int), .int .i64 v2, .int .i64 v3, .int .i64 v4, .slice a1 nv k1] 137); have hz : (j : Int) < (n : Int) := by omega
 obtain ⟨rfl, g0⟩ := (HD.keep sA) j hjn; rw [Nat.zero_add, hx] at g0; subst hv2; have hz2 : (i : Int) < (n : Int) := by omega
 obtain ⟨-, g1⟩ := (HD.keep sA) i hi; rw [Nat.zero_add] at g1; obtain ⟨y, hy⟩ : ∃ y, y = D i := ⟨_, rfl⟩; rw [<- hy] at g1 ⊢; clear hy
 by_cases h : y = x
 . rw [if_pos h, if_pos h]
   have q3 : (x != y) = false := by simp [h]
   clear h; go_enter Tryz.func200, Tryz.ntmps200; go_wp2
   go_region
   go_wp2; go_ret2; exact ⟨rfl, sA.drew⟩
 . rw [if_neg h, if_neg h]
   have q3 : (x != y) = true := by simp; omega
   clear h; go_enter Tryz.func200, Tryz.ntmps200; go_wp2
   go_region
   go_wp2; go_ret2; exact ⟨rfl, sA.drew⟩
theorem dim5 (v0 v2 v3 v4 x : Int) (j : Nat) (a1 : Option Addr) (nv k1 : Nat) (aD : Option Addr) (bD n cD : Nat) (D : Nat -> Int) (w : World) (HD : Ints w aD bD 0 n D) (hjn : j < n) (hx : D j = x) (_x1 : 1 <= x) (_x2 : x <= 1000) (c0 : 1 <= v3) (c1 : v3 <= 1000) :
 Calls Tryz.prog 203 #[.agg #[.int .i64 v0, .int .i64 (j : Int), .int .i64 v2, .int .i64 v3, .int .i64 v4, .slice a1 nv k1], .slice aD n cD] w fun e w' => e = .returned (.tuple #[.int .i64 (if x % v3 = 0 then x / v3 else 0), .int .i64 (if x % v3 = 0 then 0 else 14)]) /\ w.Since w.heap.size w' := by
 have sA := sal w (.cells #[.int .i64 v0, .int .i64 (j : Int), .int .i64 v2, .int .i64 v3, .int .i64 v4, .slice a1 nv k1] 138); have hz : (j : Int) < (n : Int) := by omega
 obtain ⟨rfl, g0⟩ := (HD.keep sA) j hjn; rw [Nat.zero_add, hx] at g0; have p1 : x.tmod v3 = x % v3 := Int.tmod_eq_emod_of_nonneg (by omega); have p2 : x.tdiv v3 = x / v3 := Int.tdiv_eq_ediv_of_nonneg (by omega); have d0 : 0 <= x / v3 := Int.ediv_nonneg (by omega) (by omega); have d1 : x / v3 <= x := Int.ediv_le_self _ (by omega); obtain ⟨y, hy⟩ : ∃ y, y = x % v3 := ⟨_, rfl⟩; obtain ⟨z, hz'⟩ : ∃ z, z = x / v3 := ⟨_, rfl⟩; rw [<- hy] at p1 ⊢; rw [<- hz'] at p2 d0 d1 ⊢; have q0 : ¬ v3 = 0 := by omega
 have q1 : IntKind.i64.wrap (x.tdiv v3) = z := by rw [p2]; exact xw9 (by omega) (by omega)
 clear hy hz'
 by_cases h : y = 0
 . rw [if_pos h, if_pos h]
   have q3 : (y != 0) = false := by simp [h]
   clear h; go_enter Tryz.func203, Tryz.ntmps203; go_wp2
   go_region
   go_wp2
   go_region
   go_wp2; go_ret2; exact ⟨rfl, sA.drew.drew⟩
 . rw [if_neg h, if_neg h]
   have q3 : (y != 0) = true := by simp [h]
   clear h; go_enter Tryz.func203, Tryz.ntmps203; go_wp2
   go_region
   go_wp2; go_ret2; exact ⟨rfl, sA.drew⟩
theorem dim6 (v0 v2 v3 v4 x : Int) (j : Nat) (a1 : Option Addr) (nv k1 : Nat) (aD : Option Addr) (bD n cD : Nat) (D : Nat -> Int) (w : World) (HD : Ints w aD bD 0 n D) (hjn : j < n) (hx : D j = x) (_x1 : 1 <= x) (_x2 : x <= 1000) (c0 : 1 <= v3) (c1 : v3 <= 1000) (s0 : 1 <= v4) (s1 : v4 <= 1000) (_hv : nv <= 1048576) :
 Calls Tryz.prog 207 #[.agg #[.int .i64 v0, .int .i64 (j : Int), .int .i64 v2, .int .i64 v3, .int .i64 v4, .slice a1 nv k1], .slice aD n cD] w fun e w' => e = .returned (.tuple #[.int .i64 (if v3 > x ∨ (nv : Int) ≠ v3 + 1 then 0 else (x - v3) / v4 + 1), .int .i64 (if v3 > x ∨ (nv : Int) ≠ v3 + 1 then 14 else 0)]) /\ w.Since w.heap.size w' := by
 have sA := sal w (.cells #[.int .i64 v0, .int .i64 (j : Int), .int .i64 v2, .int .i64 v3, .int .i64 v4, .slice a1 nv k1] 139); have hz : (j : Int) < (n : Int) := by omega
 obtain ⟨rfl, g0⟩ := (HD.keep sA) j hjn; rw [Nat.zero_add, hx] at g0
 by_cases h : v3 > x
 . rw [if_pos (.inl h), if_pos (.inl h)]
   have h' : x < v3 := h; clear h; go_enter Tryz.func207, Tryz.ntmps207; go_wp2; go_ret2; exact ⟨rfl, sA⟩
 by_cases h2 : (nv : Int) = v3 + 1
 . rw [if_neg (by omega), if_neg (by omega)]
   have p2 : (x - v3).tdiv v4 = (x - v3) / v4 := Int.tdiv_eq_ediv_of_nonneg (by omega); have d0 : 0 <= (x - v3) / v4 := Int.ediv_nonneg (by omega) (by omega); have d1 : (x - v3) / v4 <= x - v3 := Int.ediv_le_self _ (by omega); obtain ⟨z, hz'⟩ : ∃ z, z = (x - v3) / v4 := ⟨_, rfl⟩; rw [<- hz'] at p2 d0 d1 ⊢; have q0 : ¬ v4 = 0 := by omega
   clear hz'; go_enter Tryz.func207, Tryz.ntmps207; go_wp2; go_ret2; exact ⟨rfl, sA⟩
 . rw [if_pos (.inr h2), if_pos (.inr h2)]
   have q3 : ((nv : Int) != v3 + 1) = true := by simp [h2]
   go_enter Tryz.func207, Tryz.ntmps207; go_wp2; go_ret2; exact ⟨rfl, sA⟩
theorem dim7 (v0 v2 v3 v4 x : Int) (j : Nat) (a1 : Option Addr) (nv k1 : Nat) (aD : Option Addr) (bD n cD : Nat) (D : Nat -> Int) (w : World) (HD : Ints w aD bD 0 n D) (hjn : j < n) (hx : D j = x) (_x1 : 1 <= x) (_x2 : x <= 1000) (lo bV oV : Nat) (V : Nat -> RatD) (HV : Rats w lo a1 bV oV nv V) (h4 : nv = 4) :
 Calls Tryz.prog 210 #[.agg #[.int .i64 v0, .int .i64 (j : Int), .int .i64 v2, .int .i64 v3, .int .i64 v4, .slice a1 nv k1], .slice aD n cD] w fun e w' => e = .returned (.tuple #[.int .i64 (if (V 2).n = 0 then 0 else x), .int .i64 (if (V 2).n = 0 then 15 else 0)]) /\ w.Since w.heap.size w' := by
 have sA := sal w (.cells #[.int .i64 v0, .int .i64 (j : Int), .int .i64 v2, .int .i64 v3, .int .i64 v4, .slice a1 nv k1] 140); have hz : (j : Int) < (n : Int) := by omega
 obtain ⟨rfl, g0⟩ := (HD.keep sA) j hjn; rw [Nat.zero_add, hx] at g0; subst h4; obtain ⟨ea1, y1, y2, l1, l2, M⟩ := (HV.keep sA) 2 (by omega); subst ea1; have m0 := M.c0; have m1 := M.c1; have m2 := M.c2; have nA := Box6.new w (.int .i64 v0) (.int .i64 (j : Int)) (.int .i64 v2) (.int .i64 v3) (.int .i64 v4) (.slice (some ⟨bV, oV, none⟩) 4 k1) 140
 by_cases h : (V 2).n = 0
 . rw [if_pos h, if_pos h]
   have q : (((V 2).n : Int) == 0) = true := by simp [h]
   clear h; go_enter Tryz.func210, Tryz.ntmps210; go_wp2_with fail; generalize w.alloc (.cells #[.int .i64 v0, .int .i64 (j : Int), .int .i64 v2, .int .i64 v3, .int .i64 v4, .slice (some ⟨bV, oV, none⟩) 4 k1] 140) = wA at *; refine (xk9 (V 2).neg y1 y2 (V 2).n l1 (V 2).m l2 wA).mono ?_; rintro e w1 ⟨rfl, s1⟩; have N1 := nA.keep s1; have n1 := N1.c1; have S1 := sA.trans (sM s1 sA.size); have g1 : w1.cell? ⟨bD, j, none⟩ = some (.int .i64 x) := (s1.cell (a := ⟨bD, j, none⟩) (World.block_lt_of_cell? _ _ g0)).trans g0; clear m0 m1 m2 nA g0; go_wp2; go_ret2; exact ⟨rfl, S1⟩
 . rw [if_neg h, if_neg h]
   have q : (((V 2).n : Int) == 0) = false := by simp; omega
   clear h; go_enter Tryz.func210, Tryz.ntmps210; go_wp2_with fail; generalize w.alloc (.cells #[.int .i64 v0, .int .i64 (j : Int), .int .i64 v2, .int .i64 v3, .int .i64 v4, .slice (some ⟨bV, oV, none⟩) 4 k1] 140) = wA at *; refine (xk9 (V 2).neg y1 y2 (V 2).n l1 (V 2).m l2 wA).mono ?_; rintro e w1 ⟨rfl, s1⟩; have N1 := nA.keep s1; have n1 := N1.c1; have S1 := sA.trans (sM s1 sA.size); have g1 : w1.cell? ⟨bD, j, none⟩ = some (.int .i64 x) := (s1.cell (a := ⟨bD, j, none⟩) (World.block_lt_of_cell? _ _ g0)).trans g0; clear m0 m1 m2 nA g0; go_wp2; go_ret2; exact ⟨rfl, S1⟩
def xv7 (D : Nat -> Int) (n : Nat) (d : xq1) : Int := if xq4 D n d = 0 then xx4 D d else 0
theorem dimOf1 (v1 v2 v3 v4 : Int) (nv : Nat) (V : Nat -> RatD) (a1 : Option Addr) (lo k1 m : Nat) (aD : Option Addr) (bD n cD : Nat) (D : Nat -> Int) (w : World) (hw : 0 <= w.heap.size) (hT : Tab w) (K : xk6 w m) (hd : (xq1.mk 1 v1 v2 v3 v4 nv V).size <= 1048576) (H : NodL w lo (xq1.mk 1 v1 v2 v3 v4 nv V) a1 k1) (HD : Ints w aD bD 0 n D) (hD : Dok D n) :
 Calls Tryz.prog 54 #[.agg #[.int .i64 1, .int .i64 v1, .int .i64 v2, .int .i64 v3, .int .i64 v4, .slice a1 nv k1], .slice aD n cD, .map (some m)] w fun e w' => e = .returned (.tuple #[.int .i64 (xv7 D n (xq1.mk 1 v1 v2 v3 v4 nv V)), .int .i64 (xq4 D n (xq1.mk 1 v1 v2 v3 v4 nv V))]) /\ w.Since w.heap.size w' := by
 have sA := sal w (.cells #[.int .i64 1, .int .i64 v1, .int .i64 v2, .int .i64 v3, .int .i64 v4, .slice a1 nv k1] 84); have nA := Box6.new w (.int .i64 1) (.int .i64 v1) (.int .i64 v2) (.int .i64 v3) (.int .i64 v4) (.slice a1 nv k1) 84; have hm1 : ∀ w : World, (method 324 133 (.agg #[.int .i64 1, .int .i64 v1, .int .i64 v2, .int .i64 v3, .int .i64 v4, .slice a1 nv k1]) "loop.example/s0015/impl.form").run Tryz.prog w = .ok (192, .agg #[.int .i64 1, .int .i64 v1, .int .i64 v2, .int .i64 v3, .int .i64 v4, .slice a1 nv k1]) w := fun _ => by kernel_rfl
 have hm2 : ∀ w : World, (method 324 133 (.agg #[.int .i64 1, .int .i64 v1, .int .i64 v2, .int .i64 v3, .int .i64 v4, .slice a1 nv k1]) "loop.example/s0015/impl.dimension").run Tryz.prog w = .ok (191, .agg #[.int .i64 1, .int .i64 v1, .int .i64 v2, .int .i64 v3, .int .i64 v4, .slice a1 nv k1]) w := fun _ => by kernel_rfl
 go_enter Tryz.func54, Tryz.ntmps54; go_wp2_with fail; generalize w.alloc (.cells #[.int .i64 1, .int .i64 v1, .int .i64 v2, .int .i64 v3, .int .i64 v4, .slice a1 nv k1] 84) = wA at *; refine (operatorOf1 m v1 v2 v3 v4 a1 nv k1 wA (K.keep sA)).mono ?_; rintro e w1 ⟨rfl, s1⟩; have d1 := sdr w1; have S1 := sA.trans (sM s1 sA.size); have N1 := nA.keep s1; have J1 := form1 1 v1 v2 v3 v4 a1 nv k1 w1.drew; have q0 := N1.c0; have q1 := N1.c1; have q2 := N1.c2; have q3 := N1.c3; have q4 := N1.c4; have q5 := N1.c5; go_wp2_with fail
 go_region_held3 (fun w' => w'.cell? ⟨w.heap.size, 0, none⟩ = some (.int .i64 1) /\ w'.cell? ⟨w.heap.size, 1, none⟩ = some (.int .i64 v1) /\ w'.cell? ⟨w.heap.size, 2, none⟩ = some (.int .i64 v2) /\ w'.cell? ⟨w.heap.size, 3, none⟩ = some (.int .i64 v3) /\ w'.cell? ⟨w.heap.size, 4, none⟩ = some (.int .i64 v4) /\ w'.cell? ⟨w.heap.size, 5, none⟩ = some (.slice a1 nv k1)) (go_keep)
  (first
    | (go_at_call 192
       with_reducible refine J1.mono ?_
       rintro e w2 ⟨rfl, s2⟩; have u2 := d1.trans (sM s2 d1.size); have S2 := S1.trans (sM u2 S1.size); have N2 := N1.keep u2; have i0 := N2.c0; have i1 := N2.c1; have i2 := N2.c2; have i3 := N2.c3; have i4 := N2.c4; have i5 := N2.c5; have J2 := yw1 1 false true false (-1) (xq1.mk 1 v1 v2 v3 v4 nv V) a1 lo k1 w2 (Nat.zero_le _) (hT.stay hw S2) hd (H.keep S2)
       dsimp only at J2)
    | (go_at_call 94
       with_reducible refine J2.mono ?_
       rintro e w3 ⟨⟨r, rfl, hr⟩, s3⟩; have S3 := S2.trans (sM s3 S2.size); have N3 := N2.keep s3; have i0 := N3.c0; have i1 := N3.c1; have i2 := N3.c2; have i3 := N3.c3; have i4 := N3.c4; have i5 := N3.c5; have hF := hide (hr.trans (yw0 (d := (xq1.mk 1 v1 v2 v3 v4 nv V)) (z := 1) rfl (by decide) (by decide) rfl rfl rfl (.inl ⟨rfl, rfl, by decide, by decide⟩)).symm); clear hr))
 cases r
 . have E := hide (xx6 (D := D) (i := n) (d := (xq1.mk 1 v1 v2 v3 v4 nv V)) (fun h => by have := hF.out.2 h; cases this))
   clear hF; go_wp2; go_ret2; exact ⟨by rw [E.out]; unfold xv7; rw [E.out]; rfl, S3⟩
 have F := hide (hF.out.1 rfl); clear hF q0 q1 q2 q3 q4 q5; have d3 := sdr w3; have J3 := form1 1 v1 v2 v3 v4 a1 nv k1 w3.drew; go_wp2_with fail
 go_region_held3 (fun w' => w'.cell? ⟨w.heap.size, 0, none⟩ = some (.int .i64 1) /\ w'.cell? ⟨w.heap.size, 1, none⟩ = some (.int .i64 v1) /\ w'.cell? ⟨w.heap.size, 2, none⟩ = some (.int .i64 v2) /\ w'.cell? ⟨w.heap.size, 3, none⟩ = some (.int .i64 v3) /\ w'.cell? ⟨w.heap.size, 4, none⟩ = some (.int .i64 v4) /\ w'.cell? ⟨w.heap.size, 5, none⟩ = some (.slice a1 nv k1)) (go_keep)
  (first
    | (go_at_call 192
       with_reducible refine J3.mono ?_
       rintro e w4 ⟨rfl, s4⟩; have u4 := d3.trans (sM s4 d3.size); have S4 := S3.trans (sM u4 S3.size); have N4 := N3.keep u4; have j0 := N4.c0; have j1 := N4.c1; have j2 := N4.c2; have j3 := N4.c3; have j4 := N4.c4; have j5 := N4.c5; have J4 := yz3 1 false true false (-1) 1 v1 v2 v3 v4 a1 nv k1 n w4)
    | (go_at_call 95
       with_reducible refine J4.mono ?_
       rintro e w5 ⟨⟨r, rfl, hr⟩, s5⟩; have S5 := S4.trans (sM s5 S4.size); have N5 := N4.keep s5; have j0 := N5.c0; have j1 := N5.c1; have j2 := N5.c2; have j3 := N5.c3; have j4 := N5.c4; have j5 := N5.c5; have hS := hide hr; clear hr))
 cases r
 . have E := hide (xw0 (D := D) F.out (fun h => by have := hS.out.2 h; cases this))
   clear hS F; go_wp2; go_ret2; exact ⟨by rw [E.out]; unfold xv7; rw [E.out]; rfl, S5⟩
 have G := hide (show yw7 (xq1.mk 1 v1 v2 v3 v4 nv V) n from hS.out.1 rfl); clear hS; obtain ⟨j, hj⟩ : ∃ j : Nat, v1 = j := ⟨v1.toNat, by have h : 0 <= v1 := G.out.1; omega⟩; subst hj; have hjn : j < n := by have h : (j : Int) < n := G.out.2.1; omega
 obtain ⟨x, hx⟩ : ∃ x, D j = x := ⟨_, rfl⟩; have hDj := hD j hjn; rw [hx] at hDj; have hk : 0 <= v3 /\ v3 <= 1000 := by have h : 1 <= v3 /\ v3 <= 1000 := F.out.k; omega
 have hv : nv <= 1048576 := by have h : nv + szR V nv <= 1048576 := hd; omega
 have E1 : xq4 D n (xq1.mk 1 (j : Int) v2 v3 v4 nv V) = if (nv : Int) = v3 * (x + 1) then 0 else 14 := by
  rw [xz2 F.out G.out]
  by_cases h : (nv : Int) = v3 * (x + 1) <;> simp [xj3, hx, h]
 have E2 : xv7 D n (xq1.mk 1 (j : Int) v2 v3 v4 nv V) = if (nv : Int) = v3 * (x + 1) then v3 else 0 := by
  unfold xv7; rw [E1]
  by_cases h : (nv : Int) = v3 * (x + 1) <;> simp [xx4, h]
 have J5 := dim1 1 v2 v3 v4 x j a1 nv k1 aD bD n cD D w5 (HD.keep S5) hjn hx hDj.1 hDj.2 hk.1 hk.2 hv; rw [<- E1, <- E2] at J5; clear E1 E2; go_wp2_with fail; refine J5.mono ?_; rintro e w6 ⟨rfl, s6⟩; go_wp2; go_ret2; exact ⟨rfl, S5.trans (sM s6 S5.size)⟩
end Go.Proofs.YthaomfabdghfjaaGreat
