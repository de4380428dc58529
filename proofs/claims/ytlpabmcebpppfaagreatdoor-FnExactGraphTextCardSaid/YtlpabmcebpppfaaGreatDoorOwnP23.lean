import Derived.Test.YtlpabmcebpppfaaGreatDoorOwnP17
import Derived.Test.YtlpabmcebpppfaaGreatDoorOwnP22
namespace Go.Proofs.YtlpabmcebpppfaaGreatDoor
open Go.RowKit

theorem size_Node : (Tryz.prog.info? 56).map (·.size) = some 6 := by kernel_rfl
theorem size_Graph : (Tryz.prog.info? 31).map (·.size) = some 6 := by kernel_rfl
theorem info_Node : (Tryz.prog.info? 56).map (fun i => (i.zero, i.size, i.bytes)) = some (some (.agg #[.int .i64 0, .int .i64 0, .int .i64 0, .int .i64 0, .int .i64 0, .slice none 0 0]), 6, 64) := by kernel_rfl

set_option maxHeartbeats 3200000 in
set_option maxRecDepth 100000 in
/-- toNode, with what its copy owns. -/
theorem toNode_own (d : NodeD) (a1 : Option Addr) (lo k1 : Nat) (w : World) (hd : d.size ≤ 1048576) (H : NodL w lo d a1 k1) :
    Calls Tryz.prog 50 #[.agg #[.int .i64 d.op, .int .i64 d.a, .int .i64 d.b, .int .i64 d.k, .int .i64 d.s, .slice a1 d.nv k1]] w fun e w' => ∃ g1, e = .returned (.agg #[.int .i64 d.op, .int .i64 d.a, .int .i64 d.b, .int .i64 d.k, .int .i64 d.s, .slice (some ⟨g1, 0, none⟩) d.nv d.nv]) ∧ OwnL w' w.heap.size w'.heap.size g1 d.nv ∧
      NodL w' w.heap.size d (some ⟨g1, 0, none⟩) d.nv ∧ w.Since w.heap.size w' := by
  have ts := hd
  unfold NodeD.size at ts
  obtain ⟨wA, eA⟩ : ∃ wA : World, wA = (((w.alloc (.cells #[.int .i64 d.op, .int .i64 d.a, .int .i64 d.b, .int .i64 d.k, .int .i64 d.s, .slice a1 d.nv k1] 99)).alloc (.cells #[.int .i64 0, .int .i64 0, .int .i64 0, .int .i64 0, .int .i64 0, .slice none 0 0] 56)).alloc (.cells #[.int .i64 d.op, .int .i64 d.a, .int .i64 d.b, .int .i64 d.k, .int .i64 d.s, .slice none 0 0] 56)) := ⟨_, rfl⟩
  have sA : w.Since w.heap.size wA := by rw [eA]; exact (((World.Since.refl _ _).alloc (Nat.le_refl _) _).alloc (by simp) _).alloc (by simp; omega) _
  have zA : wA.heap.size = w.heap.size + 1 + 1 + 1 := by rw [eA]; simp
  have rA : Box6 wA (w.heap.size + 1) (.int .i64 0) (.int .i64 0) (.int .i64 0) (.int .i64 0) (.int .i64 0) (.slice none 0 0) := by
    rw [eA]
    have := (Box6.new (w.alloc (.cells #[.int .i64 d.op, .int .i64 d.a, .int .i64 d.b, .int .i64 d.k, .int .i64 d.s, .slice a1 d.nv k1] 99)) (.int .i64 0) (.int .i64 0) (.int .i64 0) (.int .i64 0) (.int .i64 0) (.slice none 0 0) 56).keep ((World.Since.refl _ _).alloc (Nat.le_refl _) (.cells #[.int .i64 d.op, .int .i64 d.a, .int .i64 d.b, .int .i64 d.k, .int .i64 d.s, .slice none 0 0] 56))
    simpa using this
  have oA : Box6 wA (w.heap.size + 1 + 1) (.int .i64 d.op) (.int .i64 d.a) (.int .i64 d.b) (.int .i64 d.k) (.int .i64 d.s) (.slice none 0 0) := by
    rw [eA]
    have := Box6.new ((w.alloc (.cells #[.int .i64 d.op, .int .i64 d.a, .int .i64 d.b, .int .i64 d.k, .int .i64 d.s, .slice a1 d.nv k1] 99)).alloc (.cells #[.int .i64 0, .int .i64 0, .int .i64 0, .int .i64 0, .int .i64 0, .slice none 0 0] 56)) (.int .i64 d.op) (.int .i64 d.a) (.int .i64 d.b) (.int .i64 d.k) (.int .i64 d.s) (.slice none 0 0) 56
    simpa using this
  obtain ⟨ba, oa, -, LV⟩ := (H.keep sA).LV
  have EA := hide eA
  clear eA
  go_enter Tryz.func50, Tryz.ntmps50
  go_wp2_with fail
  rw [← EA.out]
  refine (toRatS_own a1 lo ba oa d.nv k1 d.V wA (by omega) (by omega) LV).mono ?_
  rintro e w3 ⟨g1, rfl, l1, l1', U1, R1, s1⟩
  have S3 : w.Since w.heap.size w3 := sA.trans (sinceMono s1 sA.size)
  have Q3 := rA.keep s1
  have O3 := oA.keep s1
  have o0 := O3.c0
  have o1 := O3.c1
  have o2 := O3.c2
  have o3 := O3.c3
  have o4 := O3.c4
  have o5 := O3.c5
  have of5 := O3.f 5
  have q0 := Q3.c0
  have q1 := Q3.c1
  have q2 := Q3.c2
  have q3 := Q3.c3
  have q4 := Q3.c4
  have q5 := Q3.c5
  have qf0 := Q3.f 0
  have qf1 := Q3.f 1
  have qf2 := Q3.f 2
  have qf3 := Q3.f 3
  have qf4 := Q3.f 4
  have qf5 := Q3.f 5
  clear LV rA oA EA
  have M4 : Marked w3 (w3.setCell ⟨w.heap.size + 1 + 1, 5, none⟩ (.slice (some ⟨g1, 0, none⟩) d.nv d.nv)) (w.heap.size + 1 + 1) := (Marked.refl w3 _).setCell _ _
  go_wp2
  have Q4 := ((((((Q3.marked M4 (by omega)).set0 (.int .i64 d.op)).set1 (.int .i64 d.a)).set2 (.int .i64 d.b)).set3 (.int .i64 d.k)).set4 (.int .i64 d.s)).set5 (.slice (some ⟨g1, 0, none⟩) d.nv d.nv)
  refine bodyPost_ret (results_box6T rfl Tryz.underlying56 rfl size_Node _ _ _ _ _ _ _ _ _ rfl Q4) rfl ?_
  have M5 : Marked (w3.setCell ⟨w.heap.size + 1 + 1, 5, none⟩ (.slice (some ⟨g1, 0, none⟩) d.nv d.nv)) _ (w.heap.size + 1) := ((((((Marked.refl _ _).setCell 0 (.int .i64 d.op)).setCell 1 (.int .i64 d.a)).setCell 2 (.int .i64 d.b)).setCell 3 (.int .i64 d.k)).setCell 4 (.int .i64 d.s)).setCell 5 (.slice (some ⟨g1, 0, none⟩) d.nv d.nv)
  have z5 := M5.size
  have z4 := M4.size
  refine ⟨g1, rfl, ((U1.frame M4.fr (fun k h1 h2 h3 => by omega)).frame M5.fr (fun k h1 h2 h3 => by omega)).wide (by omega) (by omega), ⟨Nat.le_refl _, ⟨g1, 0, fun _ => by omega, ?_⟩, H.iop, H.ia, H.ib, H.ik, H.is, H.n63⟩, (S3.trans (M4.since (by omega))).trans (M5.since (by omega))⟩
  exact ((R1.marked M4 (by omega) (fun _ => by omega)).marked M5 (by omega) (fun _ => by omega)).down (by omega)

/-- A node of six cells whose list lies in memory of its own. -/
structure OwnD (w : World) (lo hi b off : Nat) (d : NodeD) (v0 v1 v2 v3 v4 : Value) (g1 : Nat) : Prop where
  c0 : w.cell? ⟨b, off, none⟩ = some v0
  c1 : w.cell? ⟨b, off + 1, none⟩ = some v1
  c2 : w.cell? ⟨b, off + 2, none⟩ = some v2
  c3 : w.cell? ⟨b, off + 3, none⟩ = some v3
  c4 : w.cell? ⟨b, off + 4, none⟩ = some v4
  c5 : w.cell? ⟨b, off + 5, none⟩ = some (.slice (some ⟨g1, 0, none⟩) d.nv d.nv)
  U1 : OwnL w lo hi g1 d.nv

section
variable {w w' : World} {lo hi b off : Nat} {d : NodeD} {v0 v1 v2 v3 v4 : Value} {g1 : Nat}
theorem OwnD.keep (r : OwnD w lo hi b off d v0 v1 v2 v3 v4 g1) (s : w.Since w.heap.size w') : OwnD w' lo hi b off d v0 v1 v2 v3 v4 g1 := by
  have lt : b < w.heap.size := World.block_lt_of_cell? _ _ r.c0
  exact ⟨(s.cell (a := ⟨b, off, none⟩) lt).trans r.c0, (s.cell (a := ⟨b, off + 1, none⟩) lt).trans r.c1, (s.cell (a := ⟨b, off + 2, none⟩) lt).trans r.c2, (s.cell (a := ⟨b, off + 3, none⟩) lt).trans r.c3, (s.cell (a := ⟨b, off + 4, none⟩) lt).trans r.c4, (s.cell (a := ⟨b, off + 5, none⟩) lt).trans r.c5, r.U1.keep s⟩
theorem OwnD.frame {S : Nat → Prop} (r : OwnD w lo hi b off d v0 v1 v2 v3 v4 g1) (F : Fra w w' S) (hS : ∀ k, lo ≤ k → k < hi → ¬ S k) (hc : ∀ o, off ≤ o → o < off + 6 → w'.cell? ⟨b, o, none⟩ = w.cell? ⟨b, o, none⟩) : OwnD w' lo hi b off d v0 v1 v2 v3 v4 g1 :=
  ⟨by rw [hc _ (by omega) (by omega)]; exact r.c0, by rw [hc _ (by omega) (by omega)]; exact r.c1, by rw [hc _ (by omega) (by omega)]; exact r.c2, by rw [hc _ (by omega) (by omega)]; exact r.c3, by rw [hc _ (by omega) (by omega)]; exact r.c4, by rw [hc _ (by omega) (by omega)]; exact r.c5,
    r.U1.frame F hS⟩
end

def OwnDs (w : World) (c k n : Nat) (E : Nat → Nat) (A : Nat → NodeD) : Prop := ∀ i, k ≤ i → i < n → ∃ v0 v1 v2 v3 v4 g1, OwnD w (E i) (E (i + 1)) c (i * 6) (A i) v0 v1 v2 v3 v4 g1

/-- A list of nodes that grows. -/
structure OwnDK (w : World) (c k : Nat) (E : Nat → Nat) (A : Nat → NodeD) : Prop where
  lo : c < E 0
  mono : ∀ i, i < k → E i ≤ E (i + 1)
  hi : E k ≤ w.heap.size
  own : OwnDs w c 0 k E A

theorem OwnDK.keep {w w' : World} {c k : Nat} {E : Nat → Nat} {A : Nat → NodeD} (H : OwnDK w c k E A) (s : w.Since w.heap.size w') : OwnDK w' c k E A :=
  ⟨H.lo, H.mono, Nat.le_trans H.hi s.size, fun i h1 h2 => by
    obtain ⟨v0, v1, v2, v3, v4, g1, r⟩ := H.own i h1 h2
    exact ⟨v0, v1, v2, v3, v4, g1, r.keep s⟩⟩

theorem OwnDK.put {w w' : World} {c k B g1 : Nat} {E : Nat → Nat} {A : Nat → NodeD} {v0 v1 v2 v3 v4 : Value} (H : OwnDK w c k E A) (hB : E k ≤ B) (M : Marked w w' c) (hc : ∀ o, o < k * 6 → w'.cell? ⟨c, o, none⟩ = w.cell? ⟨c, o, none⟩)
    (c0 : w'.cell? ⟨c, k * 6, none⟩ = some v0) (c1 : w'.cell? ⟨c, k * 6 + 1, none⟩ = some v1) (c2 : w'.cell? ⟨c, k * 6 + 2, none⟩ = some v2) (c3 : w'.cell? ⟨c, k * 6 + 3, none⟩ = some v3) (c4 : w'.cell? ⟨c, k * 6 + 4, none⟩ = some v4) (c5 : w'.cell? ⟨c, k * 6 + 5, none⟩ = some (.slice (some ⟨g1, 0, none⟩) (A k).nv (A k).nv))
    (U1 : OwnL w B w.heap.size g1 (A k).nv) : OwnDK w' c (k + 1) (fun i => if i ≤ k then E i else w.heap.size) A := by
  have b1 : c < E k := Nat.lt_of_lt_of_le H.lo (e_mono H.mono (Nat.zero_le _) (Nat.le_refl _))
  have p1 := U1.span
  refine ⟨by simpa using H.lo, fun i hi => ?_, ?_, fun i _ hi => ?_⟩
  · by_cases e : i = k
    · subst e
      simp only [Nat.le_refl, if_true, show ¬ i + 1 ≤ i by omega, if_false]
      exact H.hi
    · simp only [show i ≤ k by omega, show i + 1 ≤ k by omega, if_true]
      exact H.mono i (by omega)
  · simp only [show ¬ k + 1 ≤ k by omega, if_false]
    rw [M.size]; exact Nat.le_refl _
  · by_cases e : i = k
    · subst e
      simp only [Nat.le_refl, if_true, show ¬ i + 1 ≤ i by omega, if_false]
      exact ⟨v0, v1, v2, v3, v4, g1, c0, c1, c2, c3, c4, c5, (U1.frame M.fr (fun k h1 h2 h3 => by omega)).wide hB (Nat.le_refl _)⟩
    · simp only [show i ≤ k by omega, show i + 1 ≤ k by omega, if_true]
      obtain ⟨v0', v1', v2', v3', v4', g1', r'⟩ := H.own i (Nat.zero_le _) (by omega)
      have := e_mono H.mono (Nat.zero_le i) (show i ≤ k by omega)
      have := H.lo
      exact ⟨v0', v1', v2', v3', v4', g1', r'.frame M.fr (fun c h1 h2 h3 => by omega) (fun o h1 h2 => hc o (by omega))⟩

/-- A list of nodes whose memory lies from lo to hi, and may be written. -/
structure OwnN (w : World) (lo hi c n : Nat) (A : Nat → NodeD) : Prop where
  ex : ∃ E : Nat → Nat, lo ≤ c ∧ c < E 0 ∧ (∀ i, i < n → E i ≤ E (i + 1)) ∧ E n ≤ hi ∧ OwnDs w c 0 n E A
  f : ∀ o, w.frozen? ⟨c, o, none⟩ = false
  lt : c < w.heap.size

section
variable {w w' : World} {lo hi lo' hi' c n : Nat} {A : Nat → NodeD}
theorem OwnN.span (H : OwnN w lo hi c n A) : lo ≤ c ∧ c < hi := by
  obtain ⟨E, h1, h2, h3, h4, -⟩ := H.ex
  have := e_mono h3 (Nat.zero_le n) (Nat.le_refl _)
  exact ⟨h1, by omega⟩
theorem OwnN.wide (H : OwnN w lo hi c n A) (h1 : lo' ≤ lo) (h2 : hi ≤ hi') : OwnN w lo' hi' c n A := by
  obtain ⟨E, a, b, e, d, o⟩ := H.ex
  exact ⟨⟨E, by omega, b, e, by omega, o⟩, H.f, H.lt⟩
theorem OwnN.frame {S : Nat → Prop} (H : OwnN w lo hi c n A) (F : Fra w w' S) (hS : ∀ k, lo ≤ k → k < hi → ¬ S k) : OwnN w' lo hi c n A := by
  have sp := H.span
  obtain ⟨E, a, b, e, d, o⟩ := H.ex
  refine ⟨⟨E, a, b, e, d, fun i h1 h2 => ?_⟩, fun o => by rw [F.frozen]; exact H.f o, by rw [F.size]; exact H.lt⟩
  obtain ⟨v0, v1, v2, v3, v4, g1, r⟩ := o i h1 h2
  have x1 := e_mono e (Nat.zero_le i) (show i ≤ n by omega)
  have x2 := e_mono e (i := i + 1) (j := n) (by omega) (Nat.le_refl _)
  exact ⟨v0, v1, v2, v3, v4, g1, r.frame F (fun k h1 h2 => hS k (by omega) (by omega)) (fun o _ _ => F.cell (a := ⟨c, o, none⟩) (hS c sp.1 sp.2))⟩
end

set_option maxHeartbeats 1600000 in
set_option maxRecDepth 100000 in
/-- toNodeS, with what its copy owns. -/
theorem toNodeS_own (a : Option Addr) (lo b off n cap : Nat) (A : Nat → NodeD) (w : World) (hn : n ≤ 1048576) (hs : szN A n ≤ 1048576) (H : Nods w lo a b off n A) :
    Calls Tryz.prog 22 #[.slice a n cap] w fun e w' => ∃ c, e = .returned (.slice (some ⟨c, 0, none⟩) n n) ∧ w.heap.size ≤ c ∧ c < w'.heap.size ∧ OwnN w' w.heap.size w'.heap.size c n A ∧ Nods w' (c + 1) (some ⟨c, 0, none⟩) c 0 n A ∧ w.Since w.heap.size w' := by
  have hmk := run_make_wide (P := Tryz.prog) 29 56 _ 6 64 Tryz.underlying29 info_Node .i64 .i64 n (by omega) (by omega)
  have sA := (World.Since.refl w.heap.size w).alloc (Nat.le_refl _) (.cells (madeCells #[.int .i64 0, .int .i64 0, .int .i64 0, .int .i64 0, .int .i64 0, .slice none 0 0] (n * 6)) 56)
  have rA := Room.new w #[.int .i64 0, .int .i64 0, .int .i64 0, .int .i64 0, .int .i64 0, .slice none 0 0] (n * 6) 56
  go_enter Tryz.func22, Tryz.ntmps22
  go_wp2
  go_loopw [4] (fun i wr => ∃ (k : Nat) (E : Nat → Nat), OwnDK wr w.heap.size k E A ∧ k ≤ n ∧ i = .int .i64 k ∧ w.Since w.heap.size wr ∧ Room wr w.heap.size (n * 6) ∧ Nods wr (w.heap.size + 1) (some ⟨w.heap.size, 0, none⟩) w.heap.size 0 k A) (fun i _ => n - (intOf i).toNat)
  case atStart => exact ⟨0, fun _ => w.heap.size + 1, ⟨Nat.lt_succ_self _, fun i hi => absurd hi (by omega), by simp, fun i _ hi => absurd hi (by omega)⟩, Nat.zero_le _, rfl, sA, rA, fun i hi => absurd hi (by omega)⟩
  case round =>
    obtain ⟨k, E, ow, hk, rfl, s, r, T⟩ := hrel
    by_cases hlt : k < n
    · obtain ⟨rfl, a1, k1, M⟩ := H k hlt
      have M' := M.keep s
      have g0 := M'.c0
      have g1 := M'.c1
      have g2 := M'.c2
      have g3 := M'.c3
      have g4 := M'.c4
      have g5 := M'.c5
      have hz : (k : Int) < (n : Int) := by omega
      have hsz := szN_at (A := A) hlt
      go_wp2_with fail
      refine (toNode_own (A k) a1 lo k1 wr (by omega) M'.L).mono ?_
      rintro e w2 ⟨y1, rfl, U1, L2, s2⟩
      have r2 := r.keep s2
      have T2 := T.keep s2
      have S2 : w.Since w.heap.size w2 := s.trans (sinceMono s2 s.size)
      obtain ⟨v0, u0⟩ := r2.cell (k * 6) (by omega)
      obtain ⟨v1, u1⟩ := r2.cell (k * 6 + 1) (by omega)
      obtain ⟨v2, u2⟩ := r2.cell (k * 6 + 2) (by omega)
      obtain ⟨v3, u3⟩ := r2.cell (k * 6 + 3) (by omega)
      obtain ⟨v4, u4⟩ := r2.cell (k * 6 + 4) (by omega)
      obtain ⟨v5, u5⟩ := r2.cell (k * 6 + 5) (by omega)
      have f0 := r2.f (k * 6)
      have f1 := r2.f (k * 6 + 1)
      have f2 := r2.f (k * 6 + 2)
      have f3 := r2.f (k * 6 + 3)
      have f4 := r2.f (k * 6 + 4)
      have f5 := r2.f (k * 6 + 5)
      have rl := r.lt
      clear g0 g1 g2 g3 g4 g5
      go_wp2
      go_roundw
      case rel =>
        go_light
        obtain ⟨w3, e3, M3, R3, x0, x1, x2, x3, x4, x5, xo⟩ := put6 (q := k * 6) r2 (by omega) (.int .i64 (A k).op) (.int .i64 (A k).a) (.int .i64 (A k).b) (.int .i64 (A k).k) (.int .i64 (A k).s) (.slice (some ⟨y1, 0, none⟩) (A k).nv (A k).nv)
        rw [← e3]
        exact ⟨k + 1, _, (ow.keep s2).put ow.hi M3 (fun o ho => xo o (by omega)) x0 x1 x2 x3 x4 x5 U1, by omega, by go_num, S2.trans (M3.since (Nat.le_refl _)), R3, T2.put M3 (fun o ho => xo o (by omega)) (L2.down (by omega)) x0 x1 x2 x3 x4 x5⟩
      case measure => simp [intOf]; omega
    · have e : k = n := by omega
      subst e
      have rl := r.lt
      go_wp2
      go_ret
      exact ⟨w.heap.size, rfl, Nat.le_refl _, rl, ⟨⟨E, Nat.le_refl _, ow.lo, ow.mono, ow.hi, ow.own⟩, r.f, rl⟩, T, s⟩

/-- A graph whose memory lies from lo to hi, and may be written. -/
structure OwnG (w : World) (lo hi : Nat) (g : GraphD) (c1 c2 c3 : Nat) : Prop where
  ex : ∃ m1 m2, lo ≤ m1 ∧ m1 ≤ m2 ∧ m2 ≤ hi ∧ OwnL w lo m1 c1 g.nl ∧ OwnL w m1 m2 c2 g.nh ∧ OwnN w m2 hi c3 g.nn g.N

section
variable {w w' : World} {lo hi lo' hi' c1 c2 c3 : Nat} {g : GraphD}
end

set_option maxHeartbeats 3200000 in
set_option maxRecDepth 100000 in
/-- toGraph, with what its copy owns. -/
theorem toGraph_own (g : GraphD) (aL aH aN : Option Addr) (lo kL kH kN : Nat) (w : World) (hd : g.size ≤ 1048576) (H : GraL w lo g aL aH aN kL kH kN) :
    Calls Tryz.prog 7 #[.agg #[.int .i64 g.inn, .int .i64 g.rounds, .slice aL g.nl kL, .slice aH g.nh kH, .slice aN g.nn kN, .int .i64 g.out]] w fun e w' => ∃ c1 c2 c3, e = .returned (.agg #[.int .i64 g.inn, .int .i64 g.rounds, .slice (some ⟨c1, 0, none⟩) g.nl g.nl, .slice (some ⟨c2, 0, none⟩) g.nh g.nh, .slice (some ⟨c3, 0, none⟩) g.nn g.nn, .int .i64 g.out]) ∧ OwnG w' w.heap.size w'.heap.size g c1 c2 c3 ∧
      GraL w' w.heap.size g (some ⟨c1, 0, none⟩) (some ⟨c2, 0, none⟩) (some ⟨c3, 0, none⟩) g.nl g.nh g.nn ∧ w.Since w.heap.size w' := by
  have ts := hd
  unfold GraphD.size at ts
  obtain ⟨wA, eA⟩ : ∃ wA : World, wA = (((w.alloc (.cells #[.int .i64 g.inn, .int .i64 g.rounds, .slice aL g.nl kL, .slice aH g.nh kH, .slice aN g.nn kN, .int .i64 g.out] 25)).alloc (.cells #[.int .i64 0, .int .i64 0, .slice none 0 0, .slice none 0 0, .slice none 0 0, .int .i64 0] 31)).alloc (.cells #[.int .i64 g.inn, .int .i64 g.rounds, .slice none 0 0, .slice none 0 0, .slice none 0 0, .int .i64 0] 31)) := ⟨_, rfl⟩
  have sA : w.Since w.heap.size wA := by rw [eA]; exact (((World.Since.refl _ _).alloc (Nat.le_refl _) _).alloc (by simp) _).alloc (by simp; omega) _
  have zA : wA.heap.size = w.heap.size + 1 + 1 + 1 := by rw [eA]; simp
  have bA : Box6 wA w.heap.size (.int .i64 g.inn) (.int .i64 g.rounds) (.slice aL g.nl kL) (.slice aH g.nh kH) (.slice aN g.nn kN) (.int .i64 g.out) := by rw [eA]; exact ((Box6.new w _ _ _ _ _ _ _).keep ((World.Since.refl _ _).alloc (Nat.le_refl _) _)).keep ((World.Since.refl _ _).alloc (Nat.le_refl _) _)
  have rA : Box6 wA (w.heap.size + 1) (.int .i64 0) (.int .i64 0) (.slice none 0 0) (.slice none 0 0) (.slice none 0 0) (.int .i64 0) := by
    rw [eA]
    have := (Box6.new (w.alloc (.cells #[.int .i64 g.inn, .int .i64 g.rounds, .slice aL g.nl kL, .slice aH g.nh kH, .slice aN g.nn kN, .int .i64 g.out] 25)) (.int .i64 0) (.int .i64 0) (.slice none 0 0) (.slice none 0 0) (.slice none 0 0) (.int .i64 0) 31).keep ((World.Since.refl _ _).alloc (Nat.le_refl _) (.cells #[.int .i64 g.inn, .int .i64 g.rounds, .slice none 0 0, .slice none 0 0, .slice none 0 0, .int .i64 0] 31))
    simpa using this
  have oA : Box6 wA (w.heap.size + 1 + 1) (.int .i64 g.inn) (.int .i64 g.rounds) (.slice none 0 0) (.slice none 0 0) (.slice none 0 0) (.int .i64 0) := by
    rw [eA]
    have := Box6.new ((w.alloc (.cells #[.int .i64 g.inn, .int .i64 g.rounds, .slice aL g.nl kL, .slice aH g.nh kH, .slice aN g.nn kN, .int .i64 g.out] 25)).alloc (.cells #[.int .i64 0, .int .i64 0, .slice none 0 0, .slice none 0 0, .slice none 0 0, .int .i64 0] 31)) (.int .i64 g.inn) (.int .i64 g.rounds) (.slice none 0 0) (.slice none 0 0) (.slice none 0 0) (.int .i64 0) 31
    simpa using this
  obtain ⟨b1, o1, -, L1⟩ := (H.keep sA).LL
  have EA := hide eA
  clear eA
  go_enter Tryz.func7, Tryz.ntmps7
  go_wp2_with fail
  rw [← EA.out]
  refine (toRatS_own aL lo b1 o1 g.nl kL g.Lo wA (by omega) (by omega) L1).mono ?_
  rintro e w1 ⟨g1, rfl, l1, l1', U1, R1, s1⟩
  have S1 : w.Since w.heap.size w1 := sA.trans (sinceMono s1 sA.size)
  have B1 := bA.keep s1
  have Q1 := rA.keep s1
  have O1 := oA.keep s1
  have b3 := B1.c3
  have o2 := O1.c2
  have f2 := O1.f 2
  clear bA rA oA L1 EA
  go_wp2_with fail
  have M2 : Marked w1 (w1.setCell ⟨w.heap.size + 1 + 1, 2, none⟩ (.slice (some ⟨g1, 0, none⟩) g.nl g.nl)) (w.heap.size + 1 + 1) := (Marked.refl w1 _).setCell _ _
  have O2 := O1.set2 (.slice (some ⟨g1, 0, none⟩) g.nl g.nl)
  have Q2 := Q1.marked M2 (by omega)
  have B2 := B1.marked M2 (by omega)
  have R2 := R1.marked M2 (by omega) (fun _ => by omega)
  have S2 := S1.trans (M2.since (B := w.heap.size) (by omega))
  have z2 := M2.size
  have z1 := U1.span
  have U2 := U1.frame M2.fr (fun k h1 h2 h3 => by omega)
  clear U1 b3 o2 f2 B1 M2 O1 Q1 R1 S1
  generalize w1.setCell ⟨w.heap.size + 1 + 1, 2, none⟩ (.slice (some ⟨g1, 0, none⟩) g.nl g.nl) = w2 at *
  obtain ⟨b2, o2, -, L2⟩ := (H.keep S2).LH
  refine (toRatS_own aH lo b2 o2 g.nh kH g.Hi w2 (by omega) (by omega) L2).mono ?_
  rintro e w3 ⟨g2, rfl, l3, l3', V1, T1, s3⟩
  have S3 : w.Since w.heap.size w3 := S2.trans (sinceMono s3 S2.size)
  have B3 := B2.keep s3
  have Q3 := Q2.keep s3
  have O3 := O2.keep s3
  have R3 := R2.keep s3
  have U3 := U2.keep s3
  have b4 := B3.c4
  have o3 := O3.c3
  have f3 := O3.f 3
  clear B2 Q2 O2 R2 U2 L2
  go_wp2_with fail
  have M4 : Marked w3 (w3.setCell ⟨w.heap.size + 1 + 1, 3, none⟩ (.slice (some ⟨g2, 0, none⟩) g.nh g.nh)) (w.heap.size + 1 + 1) := (Marked.refl w3 _).setCell _ _
  have O4 := O3.set3 (.slice (some ⟨g2, 0, none⟩) g.nh g.nh)
  have Q4 := Q3.marked M4 (by omega)
  have B4 := B3.marked M4 (by omega)
  have R4 := R3.marked M4 (by omega) (fun _ => by omega)
  have T4 := T1.marked M4 (by omega) (fun _ => by omega)
  have S4 := S3.trans (M4.since (B := w.heap.size) (by omega))
  have z4 := M4.size
  have z3 := V1.span
  have U4 := U3.frame M4.fr (fun k h1 h2 h3 => by omega)
  have V4 := V1.frame M4.fr (fun k h1 h2 h3 => by omega)
  clear U3 V1 b4 o3 f3 B3 M4 O3 Q3 R3 T1 S3
  generalize w3.setCell ⟨w.heap.size + 1 + 1, 3, none⟩ (.slice (some ⟨g2, 0, none⟩) g.nh g.nh) = w4 at *
  obtain ⟨b3, o3, -, L3⟩ := (H.keep S4).LN
  refine (toNodeS_own aN lo b3 o3 g.nn kN g.N w4 (by omega) (by omega) L3).mono ?_
  rintro e w5 ⟨g3, rfl, l5, l5', W1, X1, s5⟩
  have S5 : w.Since w.heap.size w5 := S4.trans (sinceMono s5 S4.size)
  have Q5 := Q4.keep s5
  have B5 := B4.keep s5
  have O5 := O4.keep s5
  have R5 := R4.keep s5
  have T5 := T4.keep s5
  have U5 := U4.keep s5
  have V5 := V4.keep s5
  have z5 := W1.span
  have o0 := O5.c0
  have o1 := O5.c1
  have o2 := O5.c2
  have o3 := O5.c3
  have o4 := O5.c4
  have o5 := O5.c5
  have of4 := O5.f 4
  have of5 := O5.f 5
  have q0 := Q5.c0
  have q1 := Q5.c1
  have q2 := Q5.c2
  have q3 := Q5.c3
  have q4 := Q5.c4
  have q5 := Q5.c5
  have qf0 := Q5.f 0
  have qf1 := Q5.f 1
  have qf2 := Q5.f 2
  have qf3 := Q5.f 3
  have qf4 := Q5.f 4
  have qf5 := Q5.f 5
  clear Q4 O4 R4 T4 U4 V4 L3 S4 B4
  have M6 : Marked w5 ((w5.setCell ⟨w.heap.size + 1 + 1, 4, none⟩ (.slice (some ⟨g3, 0, none⟩) g.nn g.nn)).setCell ⟨w.heap.size + 1 + 1, 5, none⟩ (.int .i64 g.out)) (w.heap.size + 1 + 1) := ((Marked.refl w5 _).setCell _ _).setCell _ _
  have b5 := B5.c5
  go_wp2
  have Q6 := ((((((Q5.marked M6 (by omega)).set0 (.int .i64 g.inn)).set1 (.int .i64 g.rounds)).set2 (.slice (some ⟨g1, 0, none⟩) g.nl g.nl)).set3 (.slice (some ⟨g2, 0, none⟩) g.nh g.nh)).set4 (.slice (some ⟨g3, 0, none⟩) g.nn g.nn)).set5 (.int .i64 g.out)
  refine bodyPost_ret (results_box6T rfl Tryz.underlying31 rfl size_Graph _ _ _ _ _ _ _ _ _ rfl Q6) rfl ?_
  have M7 : Marked ((w5.setCell ⟨w.heap.size + 1 + 1, 4, none⟩ (.slice (some ⟨g3, 0, none⟩) g.nn g.nn)).setCell ⟨w.heap.size + 1 + 1, 5, none⟩ (.int .i64 g.out)) _ (w.heap.size + 1) := ((((((Marked.refl _ _).setCell 0 (.int .i64 g.inn)).setCell 1 (.int .i64 g.rounds)).setCell 2 (.slice (some ⟨g1, 0, none⟩) g.nl g.nl)).setCell 3 (.slice (some ⟨g2, 0, none⟩) g.nh g.nh)).setCell 4 (.slice (some ⟨g3, 0, none⟩) g.nn g.nn)).setCell 5 (.int .i64 g.out)
  have z7 := M7.size
  have z6 := M6.size
  refine ⟨g1, g2, g3, rfl, ⟨w1.heap.size, w3.heap.size, by omega, by omega, by omega, ((U5.frame M6.fr (fun k h1 h2 h3 => by omega)).frame M7.fr (fun k h1 h2 h3 => by omega)).wide (by omega) (Nat.le_refl _), ((V5.frame M6.fr (fun k h1 h2 h3 => by omega)).frame M7.fr (fun k h1 h2 h3 => by omega)).wide (by omega) (Nat.le_refl _), ((W1.frame M6.fr (fun k h1 h2 h3 => by omega)).frame M7.fr (fun k h1 h2 h3 => by omega)).wide (by omega) (by omega)⟩,
    ⟨Nat.le_refl _, Nat.le_refl _, Nat.le_refl _, ⟨g1, 0, fun _ => by omega, ?_⟩, ⟨g2, 0, fun _ => by omega, ?_⟩, ⟨g3, 0, fun _ => by omega, ?_⟩, H.ii, H.ir, H.io, H.l63, H.h63, H.n63⟩, (S5.trans (M6.since (by omega))).trans (M7.since (by omega))⟩
  · exact ((R5.marked M6 (by omega) (fun _ => by omega)).marked M7 (by omega) (fun _ => by omega)).down (by omega)
  · exact ((T5.marked M6 (by omega) (fun _ => by omega)).marked M7 (by omega) (fun _ => by omega)).down (by omega)
  · exact ((X1.marked M6 (by omega) (fun _ => by omega)).marked M7 (by omega) (fun _ => by omega)).down (by omega)

end Go.Proofs.YtlpabmcebpppfaaGreatDoor
