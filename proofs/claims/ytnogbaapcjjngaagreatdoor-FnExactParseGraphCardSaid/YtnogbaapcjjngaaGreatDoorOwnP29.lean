import Derived.Test.YtnogbaapcjjngaaGreatDoorOwnP28
namespace Go.Proofs.YtnogbaapcjjngaaGreatDoor
open Go.RowKit

/-- How l2NodeOf ends. -/
def NofR (w w' : World) (op a b k s : Int) (ns : List ByteArray) (e : Ending) : Prop :=
  ∃ ad cap xV, e = .returned (.agg #[.int .i64 op, .int .i64 a, .int .i64 b, .int .i64 k, .int .i64 s, .slice ad ns.length cap]) ∧ OutR w' w.heap.size (.slice ad ns.length cap) ns.length (wd ns) (fun _ q => w.heap.size ≤ q) xV ∧ w.Since w.heap.size w'

/-- A node in the making, in block g + 1; the answer's box; the empty list in block g. -/
structure Nst (w wi : World) (g : Nat) (op a b k s : Int) (v : Value) : Prop where
  n : Box6 wi (g + 1) (.int .i64 op) (.int .i64 a) (.int .i64 b) (.int .i64 k) (.int .i64 s) v
  r : Box6 wi w.heap.size (.int .i64 0) (.int .i64 0) (.int .i64 0) (.int .i64 0) (.int .i64 0) (.slice none 0 0)
  S : w.Since w.heap.size wi
  E : wi.ownsRow w.heap.size 61 3 (.slice (some ⟨g, 0, none⟩) 0 0) 0 []
  l : w.heap.size < g

section
variable {w wi wj : World} {g : Nat} {op a b k s : Int} {v : Value}
theorem Nst.keep (h : Nst w wi g op a b k s v) (q : wi.Since wi.heap.size wj) : Nst w wj g op a b k s v :=
  ⟨h.n.keep q, h.r.keep q, h.S.trans (sinceMono q h.S.size), own_keep' h.E q, h.l⟩
theorem Nst.put (h : Nst w wi g op a b k s v) {f : Nat} {x : Value} {op' a' b' k' s' : Int} {v' : Value} (n : Box6 (wi.setCell ⟨g + 1, f, none⟩ x) (g + 1) (.int .i64 op') (.int .i64 a') (.int .i64 b') (.int .i64 k') (.int .i64 s') v') : Nst w (wi.setCell ⟨g + 1, f, none⟩ x) g op' a' b' k' s' v' := by
  have BS : But (g + 1) wi (wi.setCell ⟨g + 1, f, none⟩ x) := (But.refl _ wi).set f x
  have l := h.l
  exact ⟨n, h.r.but BS (by omega), since_set h.S (by omega), own_blk' h.E (fun q e => BS.block q (h.E.lt q e).2 (by simp [Value.ownBlock] at e; simp; omega)), l⟩
theorem Nst.set0 (h : Nst w wi g op a b k s v) (x : Int) : Nst w (wi.setCell ⟨g + 1, 0, none⟩ (.int .i64 x)) g x a b k s v := h.put (h.n.set0 _)
theorem Nst.set2 (h : Nst w wi g op a b k s v) (x : Int) : Nst w (wi.setCell ⟨g + 1, 2, none⟩ (.int .i64 x)) g op a x k s v := h.put (h.n.set2 _)
theorem Nst.set3 (h : Nst w wi g op a b k s v) (x : Int) : Nst w (wi.setCell ⟨g + 1, 3, none⟩ (.int .i64 x)) g op a b x s v := h.put (h.n.set3 _)
theorem Nst.set4 (h : Nst w wi g op a b k s v) (x : Int) : Nst w (wi.setCell ⟨g + 1, 4, none⟩ (.int .i64 x)) g op a b k x v := h.put (h.n.set4 _)
theorem Nst.set5 (h : Nst w wi g op a b k s v) (x : Value) : Nst w (wi.setCell ⟨g + 1, 5, none⟩ x) g op a b k s x := h.put (h.n.set5 _)
end

set_option maxHeartbeats 6400000 in
set_option maxRecDepth 100000 in
theorem nodeOf1 (q cq : Nat) (x1 x2 : ByteArray) (ns : List ByteArray) (w : World) (hC : LinC w q cq (⟨#[100, 101, 110, 115, 101]⟩ :: x1 :: x2 :: ns)) (i1 : isInt x1) (i2 : isInt x2) :
    Calls Tryz.prog 33 #[.slice (some ⟨q, 0, none⟩) (ns.length + 1 + 1 + 1) cq] w fun e w' => NofR w w' 1 ((dv x1 x1.size : Nat) : Int) 0 ((dv x2 x2.size : Nat) : Int) 0 ns e := by
  have hl := hC.l
  have hcap := hC.cap
  have c0 := hC.c 0 _ rfl
  have hq : q < w.heap.size := World.block_lt_of_cell? _ _ c0
  have HCC : Hid (∀ w', w.Since w.heap.size w' → w'.cell? ⟨q, 0, none⟩ = some (.string ⟨#[100, 101, 110, 115, 101]⟩) ∧ w'.cell? ⟨q, 1, none⟩ = some (.string x1) ∧ w'.cell? ⟨q, 2, none⟩ = some (.string x2)) := hide (fun w' s => ⟨(s.cell (a := ⟨q, 0, none⟩) hq).trans (hC.c 0 _ rfl), (s.cell (a := ⟨q, 1, none⟩) hq).trans (hC.c 1 _ rfl), (s.cell (a := ⟨q, 2, none⟩) hq).trans (hC.c 2 _ rfl)⟩)
  simp only [List.length_cons] at hl hcap
  obtain ⟨V1, hV1⟩ : ∃ V, dv x1 x1.size = V := ⟨_, rfl⟩
  have J1 : ∀ w', Calls Tryz.prog 21 #[.string x1] w' fun e w'' => e = .returned (.int .i64 (V1 : Int)) ∧ w'.Since w'.heap.size w'' := fun w' => by rw [← hV1]; exact l2Int_d x1 w' i1
  rw [hV1]
  obtain ⟨V2, hV2⟩ : ∃ V, dv x2 x2.size = V := ⟨_, rfl⟩
  have J2 : ∀ w', Calls Tryz.prog 21 #[.string x2] w' fun e w'' => e = .returned (.int .i64 (V2 : Int)) ∧ w'.Since w'.heap.size w'' := fun w' => by rw [← hV2]; exact l2Int_d x2 w' i2
  rw [hV2]
  clear hV1 i1 hV2 i2
  have HN : Hid (∀ w', w.Since w.heap.size w' → ∀ (a : Option Addr) (cap : Nat), (0 < ns.length → a = some ⟨q, 3, none⟩) → Calls Tryz.prog 54 #[.slice a ns.length cap] w' fun e w'' => NumsO w' w'' ns e) := hide (fun w' s a cap ha => l2Nums_q a q 3 cap ns w' (fun j x hx => ⟨ha (by have := (List.getElem?_eq_some_iff.1 hx).1; omega), by
    have h9 := hC.c (3 + j) x (by rw [Nat.add_comm]; exact hx)
    exact (s.cell (a := ⟨q, 3 + j, none⟩) hq).trans h9⟩) (fun x hx => hC.z x (by simp [hx])) (by omega))
  clear hC c0
  have sA : w.Since w.heap.size (w.alloc (.cells #[.int .i64 0, .int .i64 0, .int .i64 0, .int .i64 0, .int .i64 0, .slice none 0 0] 64)) := (World.Since.refl _ _).alloc (Nat.le_refl _) _
  have bA := Box6.new w (.int .i64 0) (.int .i64 0) (.int .i64 0) (.int .i64 0) (.int .i64 0) (.slice none 0 0) 64
  have ZA := hide (show (w.alloc (.cells #[.int .i64 0, .int .i64 0, .int .i64 0, .int .i64 0, .int .i64 0, .slice none 0 0] 64)).heap.size = w.heap.size + 1 by simp)
  obtain ⟨c0, c1, c2⟩ := HCC.out _ sA
  go_enter Tryz.func33, Tryz.ntmps33
  go_wp2_with fail
  generalize w.alloc (.cells #[.int .i64 0, .int .i64 0, .int .i64 0, .int .i64 0, .int .i64 0, .slice none 0 0] 64) = wA at *
  refine (J1 wA).mono ?_
  rintro e w1 ⟨rfl, s1⟩
  clear c0 c1 c2
  have S1 := sA.trans (sinceMono s1 sA.size)
  have z1 := s1.size
  have sE : w1.Since w1.heap.size (w1.alloc (.cells #[] 61)) := (World.Since.refl _ _).alloc (Nat.le_refl _) _
  have sN : (w1.alloc (.cells #[] 61)).Since (w1.alloc (.cells #[] 61)).heap.size ((w1.alloc (.cells #[] 61)).alloc (.cells #[.int .i64 0, .int .i64 (V1 : Int), .int .i64 0, .int .i64 0, .int .i64 0, .slice (some ⟨w1.heap.size, 0, none⟩) 0 0] 64)) := (World.Since.refl _ _).alloc (Nat.le_refl _) _
  have OE := own_keep' (World.ownsRow_made (base := w.heap.size) (size := 3) (e := 61) w1 #[] 0 (by have := S1.size; omega) (Nat.zero_le _) rfl) sN
  have nN := Box6.new (w1.alloc (.cells #[] 61)) (.int .i64 0) (.int .i64 (V1 : Int)) (.int .i64 0) (.int .i64 0) (.int .i64 0) (.slice (some ⟨w1.heap.size, 0, none⟩) 0 0) 64
  rw [show (w1.alloc (.cells #[] 61)).heap.size = w1.heap.size + 1 by simp] at nN
  have N2 : Nst w ((w1.alloc (.cells #[] 61)).alloc (.cells #[.int .i64 0, .int .i64 (V1 : Int), .int .i64 0, .int .i64 0, .int .i64 0, .slice (some ⟨w1.heap.size, 0, none⟩) 0 0] 64)) w1.heap.size 0 V1 0 0 0 (.slice (some ⟨w1.heap.size, 0, none⟩) 0 0) := ⟨nN, ((bA.keep s1).keep sE).keep sN, (S1.trans (sinceMono sE S1.size)).trans (sinceMono sN (by have := S1.size; simp; omega)), OE, by have := ZA.out; omega⟩
  have gl := N2.l
  clear sE sN OE nN bA sA
  go_upto_region 2 with fail
  generalize (w1.alloc (.cells #[] 61)).alloc (.cells #[.int .i64 0, .int .i64 (V1 : Int), .int .i64 0, .int .i64 0, .int .i64 0, .slice (some ⟨w1.heap.size, 0, none⟩) 0 0] 64) = w2 at *
  generalize w1.heap.size = g1 at *
  have hqn : ¬ q = g1 + 1 := by omega
  by_cases hcq : cq = 3
  · have hn0 : ns = [] := List.length_eq_zero_iff.1 (by omega)
    subst hcq hn0
    obtain ⟨c0, c1, c2⟩ := HCC.out _ N2.S
    have m0 := N2.n.c0
    have f0 := N2.n.f 0
    have N3 := N2.set0 1
    go_wp2_with fail
    generalize (w2.setCell ⟨g1 + 1, 0, none⟩ (.int .i64 1)) = w3 at *
    refine (J2 w3).mono ?_
    rintro e w4 ⟨rfl, s4⟩
    clear c0 c1 c2 m0 f0
    have N4 := N3.keep s4
    obtain ⟨c0, c1, c2⟩ := HCC.out _ N4.S
    have m3 := N4.n.c3
    have f3 := N4.n.f 3
    have N5 := N4.set3 (V2 : Int)
    go_wp2_with fail
    generalize (w4.setCell ⟨g1 + 1, 3, none⟩ (.int .i64 (V2 : Int))) = w5 at *
    refine (HN.out w5 N5.S (some ⟨q, 0, none⟩) 0 (fun h9 => absurd h9 (by simp))).mono ?_
    rintro e w6 ⟨gV, cV, xV, rfl, OV, s6⟩
    clear c0 c1 c2 m3 f3
    have zV := s6.size
    have hVz := N5.S.size
    have N6 := N5.keep s6
    have gVl := OV.own.lt gV rfl
    have gnl := N5.n.lt
    obtain ⟨c0, c1, c2⟩ := HCC.out _ N6.S
    have m5 := N6.n.c5
    have f5 := N6.n.f 5
    have N7 := N6.set5 (.slice (some ⟨gV, 0, none⟩) 0 cV)
    have BSV : But (g1 + 1) w6 (w6.setCell ⟨g1 + 1, 5, none⟩ (.slice (some ⟨gV, 0, none⟩) 0 cV)) := (But.refl _ w6).set 5 _
    have OV2 := hide ((OV.but BSV (by omega) (fun _ _ hp => hp)).lower hVz)
    have y0 := N7.n.c0
    have r0 := N7.r.c0
    have rf0 := N7.r.f 0
    have y1 := N7.n.c1
    have r1 := N7.r.c1
    have rf1 := N7.r.f 1
    have y2 := N7.n.c2
    have r2 := N7.r.c2
    have rf2 := N7.r.f 2
    have y3 := N7.n.c3
    have r3 := N7.r.c3
    have rf3 := N7.r.f 3
    have y4 := N7.n.c4
    have r4 := N7.r.c4
    have rf4 := N7.r.f 4
    have y5 := N7.n.c5
    have r5 := N7.r.c5
    have rf5 := N7.r.f 5
    have hqr : ¬ q = w.heap.size := by omega
    go_wp2
    have rC := ((((((N7.r.set0 (.int .i64 1)).set1 (.int .i64 (V1 : Int))).set2 (.int .i64 0)).set3 (.int .i64 (V2 : Int))).set4 (.int .i64 0)).set5 (.slice (some ⟨gV, 0, none⟩) 0 cV))
    refine bodyPost_ret (results_box6T rfl Tryz.underlying64 rfl size_node _ _ _ _ _ _ _ _ _ rfl rC) rfl ?_
    have BT := (((((((But.refl w.heap.size (w6.setCell ⟨g1 + 1, 5, none⟩ (.slice (some ⟨gV, 0, none⟩) 0 cV))).set 0 (.int .i64 1)).set 1 (.int .i64 (V1 : Int))).set 2 (.int .i64 0)).set 3 (.int .i64 (V2 : Int))).set 4 (.int .i64 0)).set 5 (.slice (some ⟨gV, 0, none⟩) 0 cV))
    have SF := since_chg N7.S (Nat.le_refl _) BT.c (fun q hq e => by omega)
    exact ⟨_, _, _, rfl, (OV2.out.blocks BT.size (fun q e => BT.block q (OV2.out.own.lt q e).2 (by simp [Value.ownBlock] at e; simp; omega)) (fun _ q _ hq hp => BT.block q hq (by simp; omega))).imp' (fun _ _ _ _ hp => Nat.le_trans hVz hp), SF⟩
  · have hcq1 : (3 : Int) ≤ (cq : Int) := by omega
    have hcq2 : (ns.length : Int) + 1 + 1 + 1 ≤ (cq : Int) := by omega
    obtain ⟨c0, c1, c2⟩ := HCC.out _ N2.S
    have m0 := N2.n.c0
    have f0 := N2.n.f 0
    have N3 := N2.set0 1
    go_wp2_with fail
    generalize (w2.setCell ⟨g1 + 1, 0, none⟩ (.int .i64 1)) = w3 at *
    refine (J2 w3).mono ?_
    rintro e w4 ⟨rfl, s4⟩
    clear c0 c1 c2 m0 f0
    have N4 := N3.keep s4
    obtain ⟨c0, c1, c2⟩ := HCC.out _ N4.S
    have m3 := N4.n.c3
    have f3 := N4.n.f 3
    have N5 := N4.set3 (V2 : Int)
    go_wp2_with fail
    generalize (w4.setCell ⟨g1 + 1, 3, none⟩ (.int .i64 (V2 : Int))) = w5 at *
    refine (HN.out w5 N5.S (some ⟨q, 3, none⟩) (cq - 3) (fun _ => rfl)).mono ?_
    rintro e w6 ⟨gV, cV, xV, rfl, OV, s6⟩
    clear c0 c1 c2 m3 f3
    have zV := s6.size
    have hVz := N5.S.size
    have N6 := N5.keep s6
    have gVl := OV.own.lt gV rfl
    have gnl := N5.n.lt
    obtain ⟨c0, c1, c2⟩ := HCC.out _ N6.S
    have m5 := N6.n.c5
    have f5 := N6.n.f 5
    have N7 := N6.set5 (.slice (some ⟨gV, 0, none⟩) ns.length cV)
    have BSV : But (g1 + 1) w6 (w6.setCell ⟨g1 + 1, 5, none⟩ (.slice (some ⟨gV, 0, none⟩) ns.length cV)) := (But.refl _ w6).set 5 _
    have OV2 := hide ((OV.but BSV (by omega) (fun _ _ hp => hp)).lower hVz)
    have y0 := N7.n.c0
    have r0 := N7.r.c0
    have rf0 := N7.r.f 0
    have y1 := N7.n.c1
    have r1 := N7.r.c1
    have rf1 := N7.r.f 1
    have y2 := N7.n.c2
    have r2 := N7.r.c2
    have rf2 := N7.r.f 2
    have y3 := N7.n.c3
    have r3 := N7.r.c3
    have rf3 := N7.r.f 3
    have y4 := N7.n.c4
    have r4 := N7.r.c4
    have rf4 := N7.r.f 4
    have y5 := N7.n.c5
    have r5 := N7.r.c5
    have rf5 := N7.r.f 5
    have hqr : ¬ q = w.heap.size := by omega
    go_wp2
    have rC := ((((((N7.r.set0 (.int .i64 1)).set1 (.int .i64 (V1 : Int))).set2 (.int .i64 0)).set3 (.int .i64 (V2 : Int))).set4 (.int .i64 0)).set5 (.slice (some ⟨gV, 0, none⟩) ns.length cV))
    refine bodyPost_ret (results_box6T rfl Tryz.underlying64 rfl size_node _ _ _ _ _ _ _ _ _ rfl rC) rfl ?_
    have BT := (((((((But.refl w.heap.size (w6.setCell ⟨g1 + 1, 5, none⟩ (.slice (some ⟨gV, 0, none⟩) ns.length cV))).set 0 (.int .i64 1)).set 1 (.int .i64 (V1 : Int))).set 2 (.int .i64 0)).set 3 (.int .i64 (V2 : Int))).set 4 (.int .i64 0)).set 5 (.slice (some ⟨gV, 0, none⟩) ns.length cV))
    have SF := since_chg N7.S (Nat.le_refl _) BT.c (fun q hq e => by omega)
    exact ⟨_, _, _, rfl, (OV2.out.blocks BT.size (fun q e => BT.block q (OV2.out.own.lt q e).2 (by simp [Value.ownBlock] at e; simp; omega)) (fun _ q _ hq hp => BT.block q hq (by simp; omega))).imp' (fun _ _ _ _ hp => Nat.le_trans hVz hp), SF⟩

set_option maxHeartbeats 6400000 in
set_option maxRecDepth 100000 in
theorem nodeOf2 (q cq : Nat) (x1 : ByteArray) (w : World) (hC : LinC w q cq (⟨#[114, 101, 108, 117]⟩ :: x1 :: [])) (i1 : isInt x1) :
    Calls Tryz.prog 33 #[.slice (some ⟨q, 0, none⟩) 2 cq] w fun e w' => NofR w w' 2 ((dv x1 x1.size : Nat) : Int) 0 0 0 [] e := by
  have hl := hC.l
  have hcap := hC.cap
  have c0 := hC.c 0 _ rfl
  have hq : q < w.heap.size := World.block_lt_of_cell? _ _ c0
  have HCC : Hid (∀ w', w.Since w.heap.size w' → w'.cell? ⟨q, 0, none⟩ = some (.string ⟨#[114, 101, 108, 117]⟩) ∧ w'.cell? ⟨q, 1, none⟩ = some (.string x1)) := hide (fun w' s => ⟨(s.cell (a := ⟨q, 0, none⟩) hq).trans (hC.c 0 _ rfl), (s.cell (a := ⟨q, 1, none⟩) hq).trans (hC.c 1 _ rfl)⟩)
  simp only [List.length_cons, List.length_nil] at hl hcap
  obtain ⟨V1, hV1⟩ : ∃ V, dv x1 x1.size = V := ⟨_, rfl⟩
  have J1 : ∀ w', Calls Tryz.prog 21 #[.string x1] w' fun e w'' => e = .returned (.int .i64 (V1 : Int)) ∧ w'.Since w'.heap.size w'' := fun w' => by rw [← hV1]; exact l2Int_d x1 w' i1
  rw [hV1]
  clear hV1 i1
  clear hC c0
  have sA : w.Since w.heap.size (w.alloc (.cells #[.int .i64 0, .int .i64 0, .int .i64 0, .int .i64 0, .int .i64 0, .slice none 0 0] 64)) := (World.Since.refl _ _).alloc (Nat.le_refl _) _
  have bA := Box6.new w (.int .i64 0) (.int .i64 0) (.int .i64 0) (.int .i64 0) (.int .i64 0) (.slice none 0 0) 64
  have ZA := hide (show (w.alloc (.cells #[.int .i64 0, .int .i64 0, .int .i64 0, .int .i64 0, .int .i64 0, .slice none 0 0] 64)).heap.size = w.heap.size + 1 by simp)
  obtain ⟨c0, c1⟩ := HCC.out _ sA
  go_enter Tryz.func33, Tryz.ntmps33
  go_wp2_with fail
  generalize w.alloc (.cells #[.int .i64 0, .int .i64 0, .int .i64 0, .int .i64 0, .int .i64 0, .slice none 0 0] 64) = wA at *
  refine (J1 wA).mono ?_
  rintro e w1 ⟨rfl, s1⟩
  clear c0 c1
  have S1 := sA.trans (sinceMono s1 sA.size)
  have z1 := s1.size
  have sE : w1.Since w1.heap.size (w1.alloc (.cells #[] 61)) := (World.Since.refl _ _).alloc (Nat.le_refl _) _
  have sN : (w1.alloc (.cells #[] 61)).Since (w1.alloc (.cells #[] 61)).heap.size ((w1.alloc (.cells #[] 61)).alloc (.cells #[.int .i64 0, .int .i64 (V1 : Int), .int .i64 0, .int .i64 0, .int .i64 0, .slice (some ⟨w1.heap.size, 0, none⟩) 0 0] 64)) := (World.Since.refl _ _).alloc (Nat.le_refl _) _
  have OE := own_keep' (World.ownsRow_made (base := w.heap.size) (size := 3) (e := 61) w1 #[] 0 (by have := S1.size; omega) (Nat.zero_le _) rfl) sN
  have nN := Box6.new (w1.alloc (.cells #[] 61)) (.int .i64 0) (.int .i64 (V1 : Int)) (.int .i64 0) (.int .i64 0) (.int .i64 0) (.slice (some ⟨w1.heap.size, 0, none⟩) 0 0) 64
  rw [show (w1.alloc (.cells #[] 61)).heap.size = w1.heap.size + 1 by simp] at nN
  have N2 : Nst w ((w1.alloc (.cells #[] 61)).alloc (.cells #[.int .i64 0, .int .i64 (V1 : Int), .int .i64 0, .int .i64 0, .int .i64 0, .slice (some ⟨w1.heap.size, 0, none⟩) 0 0] 64)) w1.heap.size 0 V1 0 0 0 (.slice (some ⟨w1.heap.size, 0, none⟩) 0 0) := ⟨nN, ((bA.keep s1).keep sE).keep sN, (S1.trans (sinceMono sE S1.size)).trans (sinceMono sN (by have := S1.size; simp; omega)), OE, by have := ZA.out; omega⟩
  have gl := N2.l
  clear sE sN OE nN bA sA
  go_upto_region 2 with fail
  generalize (w1.alloc (.cells #[] 61)).alloc (.cells #[.int .i64 0, .int .i64 (V1 : Int), .int .i64 0, .int .i64 0, .int .i64 0, .slice (some ⟨w1.heap.size, 0, none⟩) 0 0] 64) = w2 at *
  generalize w1.heap.size = g1 at *
  have hqn : ¬ q = g1 + 1 := by omega
  obtain ⟨c0, c1⟩ := HCC.out _ N2.S
  have m0 := N2.n.c0
  have f0 := N2.n.f 0
  have N3 := N2.set0 2
  have HE := hide N3.E
  have y0 := N3.n.c0
  have r0 := N3.r.c0
  have rf0 := N3.r.f 0
  have y1 := N3.n.c1
  have r1 := N3.r.c1
  have rf1 := N3.r.f 1
  have y2 := N3.n.c2
  have r2 := N3.r.c2
  have rf2 := N3.r.f 2
  have y3 := N3.n.c3
  have r3 := N3.r.c3
  have rf3 := N3.r.f 3
  have y4 := N3.n.c4
  have r4 := N3.r.c4
  have rf4 := N3.r.f 4
  have y5 := N3.n.c5
  have r5 := N3.r.c5
  have rf5 := N3.r.f 5
  have hqr : ¬ q = w.heap.size := by omega
  go_wp2
  have rC := ((((((N3.r.set0 (.int .i64 2)).set1 (.int .i64 (V1 : Int))).set2 (.int .i64 0)).set3 (.int .i64 0)).set4 (.int .i64 0)).set5 (.slice (some ⟨g1, 0, none⟩) 0 0))
  refine bodyPost_ret (results_box6T rfl Tryz.underlying64 rfl size_node _ _ _ _ _ _ _ _ _ rfl rC) rfl ?_
  have BT := (((((((But.refl w.heap.size (w2.setCell ⟨g1 + 1, 0, none⟩ (.int .i64 2))).set 0 (.int .i64 2)).set 1 (.int .i64 (V1 : Int))).set 2 (.int .i64 0)).set 3 (.int .i64 0)).set 4 (.int .i64 0)).set 5 (.slice (some ⟨g1, 0, none⟩) 0 0))
  have SF := since_chg N3.S (Nat.le_refl _) BT.c (fun q hq e => by omega)
  exact ⟨_, _, [], rfl, ⟨own_blk' HE.out (fun q e => BT.block q (HE.out.lt q e).2 (by simp [Value.ownBlock] at e; simp; omega)), fun i hi => absurd hi (by simp)⟩, SF⟩

set_option maxHeartbeats 6400000 in
set_option maxRecDepth 100000 in
theorem nodeOf3 (q cq : Nat) (x1 : ByteArray) (ns : List ByteArray) (w : World) (hC : LinC w q cq (⟨#[108, 101, 97, 107, 121]⟩ :: x1 :: ns)) (i1 : isInt x1) :
    Calls Tryz.prog 33 #[.slice (some ⟨q, 0, none⟩) (ns.length + 1 + 1) cq] w fun e w' => NofR w w' 3 ((dv x1 x1.size : Nat) : Int) 0 0 0 ns e := by
  have hl := hC.l
  have hcap := hC.cap
  have c0 := hC.c 0 _ rfl
  have hq : q < w.heap.size := World.block_lt_of_cell? _ _ c0
  have HCC : Hid (∀ w', w.Since w.heap.size w' → w'.cell? ⟨q, 0, none⟩ = some (.string ⟨#[108, 101, 97, 107, 121]⟩) ∧ w'.cell? ⟨q, 1, none⟩ = some (.string x1)) := hide (fun w' s => ⟨(s.cell (a := ⟨q, 0, none⟩) hq).trans (hC.c 0 _ rfl), (s.cell (a := ⟨q, 1, none⟩) hq).trans (hC.c 1 _ rfl)⟩)
  simp only [List.length_cons] at hl hcap
  obtain ⟨V1, hV1⟩ : ∃ V, dv x1 x1.size = V := ⟨_, rfl⟩
  have J1 : ∀ w', Calls Tryz.prog 21 #[.string x1] w' fun e w'' => e = .returned (.int .i64 (V1 : Int)) ∧ w'.Since w'.heap.size w'' := fun w' => by rw [← hV1]; exact l2Int_d x1 w' i1
  rw [hV1]
  clear hV1 i1
  have HN : Hid (∀ w', w.Since w.heap.size w' → ∀ (a : Option Addr) (cap : Nat), (0 < ns.length → a = some ⟨q, 2, none⟩) → Calls Tryz.prog 54 #[.slice a ns.length cap] w' fun e w'' => NumsO w' w'' ns e) := hide (fun w' s a cap ha => l2Nums_q a q 2 cap ns w' (fun j x hx => ⟨ha (by have := (List.getElem?_eq_some_iff.1 hx).1; omega), by
    have h9 := hC.c (2 + j) x (by rw [Nat.add_comm]; exact hx)
    exact (s.cell (a := ⟨q, 2 + j, none⟩) hq).trans h9⟩) (fun x hx => hC.z x (by simp [hx])) (by omega))
  clear hC c0
  have sA : w.Since w.heap.size (w.alloc (.cells #[.int .i64 0, .int .i64 0, .int .i64 0, .int .i64 0, .int .i64 0, .slice none 0 0] 64)) := (World.Since.refl _ _).alloc (Nat.le_refl _) _
  have bA := Box6.new w (.int .i64 0) (.int .i64 0) (.int .i64 0) (.int .i64 0) (.int .i64 0) (.slice none 0 0) 64
  have ZA := hide (show (w.alloc (.cells #[.int .i64 0, .int .i64 0, .int .i64 0, .int .i64 0, .int .i64 0, .slice none 0 0] 64)).heap.size = w.heap.size + 1 by simp)
  obtain ⟨c0, c1⟩ := HCC.out _ sA
  go_enter Tryz.func33, Tryz.ntmps33
  go_wp2_with fail
  generalize w.alloc (.cells #[.int .i64 0, .int .i64 0, .int .i64 0, .int .i64 0, .int .i64 0, .slice none 0 0] 64) = wA at *
  refine (J1 wA).mono ?_
  rintro e w1 ⟨rfl, s1⟩
  clear c0 c1
  have S1 := sA.trans (sinceMono s1 sA.size)
  have z1 := s1.size
  have sE : w1.Since w1.heap.size (w1.alloc (.cells #[] 61)) := (World.Since.refl _ _).alloc (Nat.le_refl _) _
  have sN : (w1.alloc (.cells #[] 61)).Since (w1.alloc (.cells #[] 61)).heap.size ((w1.alloc (.cells #[] 61)).alloc (.cells #[.int .i64 0, .int .i64 (V1 : Int), .int .i64 0, .int .i64 0, .int .i64 0, .slice (some ⟨w1.heap.size, 0, none⟩) 0 0] 64)) := (World.Since.refl _ _).alloc (Nat.le_refl _) _
  have OE := own_keep' (World.ownsRow_made (base := w.heap.size) (size := 3) (e := 61) w1 #[] 0 (by have := S1.size; omega) (Nat.zero_le _) rfl) sN
  have nN := Box6.new (w1.alloc (.cells #[] 61)) (.int .i64 0) (.int .i64 (V1 : Int)) (.int .i64 0) (.int .i64 0) (.int .i64 0) (.slice (some ⟨w1.heap.size, 0, none⟩) 0 0) 64
  rw [show (w1.alloc (.cells #[] 61)).heap.size = w1.heap.size + 1 by simp] at nN
  have N2 : Nst w ((w1.alloc (.cells #[] 61)).alloc (.cells #[.int .i64 0, .int .i64 (V1 : Int), .int .i64 0, .int .i64 0, .int .i64 0, .slice (some ⟨w1.heap.size, 0, none⟩) 0 0] 64)) w1.heap.size 0 V1 0 0 0 (.slice (some ⟨w1.heap.size, 0, none⟩) 0 0) := ⟨nN, ((bA.keep s1).keep sE).keep sN, (S1.trans (sinceMono sE S1.size)).trans (sinceMono sN (by have := S1.size; simp; omega)), OE, by have := ZA.out; omega⟩
  have gl := N2.l
  clear sE sN OE nN bA sA
  go_upto_region 2 with fail
  generalize (w1.alloc (.cells #[] 61)).alloc (.cells #[.int .i64 0, .int .i64 (V1 : Int), .int .i64 0, .int .i64 0, .int .i64 0, .slice (some ⟨w1.heap.size, 0, none⟩) 0 0] 64) = w2 at *
  generalize w1.heap.size = g1 at *
  have hqn : ¬ q = g1 + 1 := by omega
  by_cases hcq : cq = 2
  · have hn0 : ns = [] := List.length_eq_zero_iff.1 (by omega)
    subst hcq hn0
    obtain ⟨c0, c1⟩ := HCC.out _ N2.S
    have m0 := N2.n.c0
    have f0 := N2.n.f 0
    have N3 := N2.set0 3
    go_wp2_with fail
    generalize (w2.setCell ⟨g1 + 1, 0, none⟩ (.int .i64 3)) = w3 at *
    refine (HN.out w3 N3.S (some ⟨q, 0, none⟩) 0 (fun h9 => absurd h9 (by simp))).mono ?_
    rintro e w4 ⟨gV, cV, xV, rfl, OV, s4⟩
    clear c0 c1 m0 f0
    have zV := s4.size
    have hVz := N3.S.size
    have N4 := N3.keep s4
    have gVl := OV.own.lt gV rfl
    have gnl := N3.n.lt
    obtain ⟨c0, c1⟩ := HCC.out _ N4.S
    have m5 := N4.n.c5
    have f5 := N4.n.f 5
    have N5 := N4.set5 (.slice (some ⟨gV, 0, none⟩) 0 cV)
    have BSV : But (g1 + 1) w4 (w4.setCell ⟨g1 + 1, 5, none⟩ (.slice (some ⟨gV, 0, none⟩) 0 cV)) := (But.refl _ w4).set 5 _
    have OV2 := hide ((OV.but BSV (by omega) (fun _ _ hp => hp)).lower hVz)
    have y0 := N5.n.c0
    have r0 := N5.r.c0
    have rf0 := N5.r.f 0
    have y1 := N5.n.c1
    have r1 := N5.r.c1
    have rf1 := N5.r.f 1
    have y2 := N5.n.c2
    have r2 := N5.r.c2
    have rf2 := N5.r.f 2
    have y3 := N5.n.c3
    have r3 := N5.r.c3
    have rf3 := N5.r.f 3
    have y4 := N5.n.c4
    have r4 := N5.r.c4
    have rf4 := N5.r.f 4
    have y5 := N5.n.c5
    have r5 := N5.r.c5
    have rf5 := N5.r.f 5
    have hqr : ¬ q = w.heap.size := by omega
    go_wp2
    have rC := ((((((N5.r.set0 (.int .i64 3)).set1 (.int .i64 (V1 : Int))).set2 (.int .i64 0)).set3 (.int .i64 0)).set4 (.int .i64 0)).set5 (.slice (some ⟨gV, 0, none⟩) 0 cV))
    refine bodyPost_ret (results_box6T rfl Tryz.underlying64 rfl size_node _ _ _ _ _ _ _ _ _ rfl rC) rfl ?_
    have BT := (((((((But.refl w.heap.size (w4.setCell ⟨g1 + 1, 5, none⟩ (.slice (some ⟨gV, 0, none⟩) 0 cV))).set 0 (.int .i64 3)).set 1 (.int .i64 (V1 : Int))).set 2 (.int .i64 0)).set 3 (.int .i64 0)).set 4 (.int .i64 0)).set 5 (.slice (some ⟨gV, 0, none⟩) 0 cV))
    have SF := since_chg N5.S (Nat.le_refl _) BT.c (fun q hq e => by omega)
    exact ⟨_, _, _, rfl, (OV2.out.blocks BT.size (fun q e => BT.block q (OV2.out.own.lt q e).2 (by simp [Value.ownBlock] at e; simp; omega)) (fun _ q _ hq hp => BT.block q hq (by simp; omega))).imp' (fun _ _ _ _ hp => Nat.le_trans hVz hp), SF⟩
  · have hcq1 : (2 : Int) ≤ (cq : Int) := by omega
    have hcq2 : (ns.length : Int) + 1 + 1 ≤ (cq : Int) := by omega
    obtain ⟨c0, c1⟩ := HCC.out _ N2.S
    have m0 := N2.n.c0
    have f0 := N2.n.f 0
    have N3 := N2.set0 3
    go_wp2_with fail
    generalize (w2.setCell ⟨g1 + 1, 0, none⟩ (.int .i64 3)) = w3 at *
    refine (HN.out w3 N3.S (some ⟨q, 2, none⟩) (cq - 2) (fun _ => rfl)).mono ?_
    rintro e w4 ⟨gV, cV, xV, rfl, OV, s4⟩
    clear c0 c1 m0 f0
    have zV := s4.size
    have hVz := N3.S.size
    have N4 := N3.keep s4
    have gVl := OV.own.lt gV rfl
    have gnl := N3.n.lt
    obtain ⟨c0, c1⟩ := HCC.out _ N4.S
    have m5 := N4.n.c5
    have f5 := N4.n.f 5
    have N5 := N4.set5 (.slice (some ⟨gV, 0, none⟩) ns.length cV)
    have BSV : But (g1 + 1) w4 (w4.setCell ⟨g1 + 1, 5, none⟩ (.slice (some ⟨gV, 0, none⟩) ns.length cV)) := (But.refl _ w4).set 5 _
    have OV2 := hide ((OV.but BSV (by omega) (fun _ _ hp => hp)).lower hVz)
    have y0 := N5.n.c0
    have r0 := N5.r.c0
    have rf0 := N5.r.f 0
    have y1 := N5.n.c1
    have r1 := N5.r.c1
    have rf1 := N5.r.f 1
    have y2 := N5.n.c2
    have r2 := N5.r.c2
    have rf2 := N5.r.f 2
    have y3 := N5.n.c3
    have r3 := N5.r.c3
    have rf3 := N5.r.f 3
    have y4 := N5.n.c4
    have r4 := N5.r.c4
    have rf4 := N5.r.f 4
    have y5 := N5.n.c5
    have r5 := N5.r.c5
    have rf5 := N5.r.f 5
    have hqr : ¬ q = w.heap.size := by omega
    go_wp2
    have rC := ((((((N5.r.set0 (.int .i64 3)).set1 (.int .i64 (V1 : Int))).set2 (.int .i64 0)).set3 (.int .i64 0)).set4 (.int .i64 0)).set5 (.slice (some ⟨gV, 0, none⟩) ns.length cV))
    refine bodyPost_ret (results_box6T rfl Tryz.underlying64 rfl size_node _ _ _ _ _ _ _ _ _ rfl rC) rfl ?_
    have BT := (((((((But.refl w.heap.size (w4.setCell ⟨g1 + 1, 5, none⟩ (.slice (some ⟨gV, 0, none⟩) ns.length cV))).set 0 (.int .i64 3)).set 1 (.int .i64 (V1 : Int))).set 2 (.int .i64 0)).set 3 (.int .i64 0)).set 4 (.int .i64 0)).set 5 (.slice (some ⟨gV, 0, none⟩) ns.length cV))
    have SF := since_chg N5.S (Nat.le_refl _) BT.c (fun q hq e => by omega)
    exact ⟨_, _, _, rfl, (OV2.out.blocks BT.size (fun q e => BT.block q (OV2.out.own.lt q e).2 (by simp [Value.ownBlock] at e; simp; omega)) (fun _ q _ hq hp => BT.block q hq (by simp; omega))).imp' (fun _ _ _ _ hp => Nat.le_trans hVz hp), SF⟩

set_option maxHeartbeats 6400000 in
set_option maxRecDepth 100000 in
theorem nodeOf4 (q cq : Nat) (x1 x2 : ByteArray) (w : World) (hC : LinC w q cq (⟨#[97, 100, 100]⟩ :: x1 :: x2 :: [])) (i1 : isInt x1) (i2 : isInt x2) :
    Calls Tryz.prog 33 #[.slice (some ⟨q, 0, none⟩) 3 cq] w fun e w' => NofR w w' 4 ((dv x1 x1.size : Nat) : Int) ((dv x2 x2.size : Nat) : Int) 0 0 [] e := by
  have hl := hC.l
  have hcap := hC.cap
  have c0 := hC.c 0 _ rfl
  have hq : q < w.heap.size := World.block_lt_of_cell? _ _ c0
  have HCC : Hid (∀ w', w.Since w.heap.size w' → w'.cell? ⟨q, 0, none⟩ = some (.string ⟨#[97, 100, 100]⟩) ∧ w'.cell? ⟨q, 1, none⟩ = some (.string x1) ∧ w'.cell? ⟨q, 2, none⟩ = some (.string x2)) := hide (fun w' s => ⟨(s.cell (a := ⟨q, 0, none⟩) hq).trans (hC.c 0 _ rfl), (s.cell (a := ⟨q, 1, none⟩) hq).trans (hC.c 1 _ rfl), (s.cell (a := ⟨q, 2, none⟩) hq).trans (hC.c 2 _ rfl)⟩)
  simp only [List.length_cons, List.length_nil] at hl hcap
  obtain ⟨V1, hV1⟩ : ∃ V, dv x1 x1.size = V := ⟨_, rfl⟩
  have J1 : ∀ w', Calls Tryz.prog 21 #[.string x1] w' fun e w'' => e = .returned (.int .i64 (V1 : Int)) ∧ w'.Since w'.heap.size w'' := fun w' => by rw [← hV1]; exact l2Int_d x1 w' i1
  rw [hV1]
  obtain ⟨V2, hV2⟩ : ∃ V, dv x2 x2.size = V := ⟨_, rfl⟩
  have J2 : ∀ w', Calls Tryz.prog 21 #[.string x2] w' fun e w'' => e = .returned (.int .i64 (V2 : Int)) ∧ w'.Since w'.heap.size w'' := fun w' => by rw [← hV2]; exact l2Int_d x2 w' i2
  rw [hV2]
  clear hV1 i1 hV2 i2
  clear hC c0
  have sA : w.Since w.heap.size (w.alloc (.cells #[.int .i64 0, .int .i64 0, .int .i64 0, .int .i64 0, .int .i64 0, .slice none 0 0] 64)) := (World.Since.refl _ _).alloc (Nat.le_refl _) _
  have bA := Box6.new w (.int .i64 0) (.int .i64 0) (.int .i64 0) (.int .i64 0) (.int .i64 0) (.slice none 0 0) 64
  have ZA := hide (show (w.alloc (.cells #[.int .i64 0, .int .i64 0, .int .i64 0, .int .i64 0, .int .i64 0, .slice none 0 0] 64)).heap.size = w.heap.size + 1 by simp)
  obtain ⟨c0, c1, c2⟩ := HCC.out _ sA
  go_enter Tryz.func33, Tryz.ntmps33
  go_wp2_with fail
  generalize w.alloc (.cells #[.int .i64 0, .int .i64 0, .int .i64 0, .int .i64 0, .int .i64 0, .slice none 0 0] 64) = wA at *
  refine (J1 wA).mono ?_
  rintro e w1 ⟨rfl, s1⟩
  clear c0 c1 c2
  have S1 := sA.trans (sinceMono s1 sA.size)
  have z1 := s1.size
  have sE : w1.Since w1.heap.size (w1.alloc (.cells #[] 61)) := (World.Since.refl _ _).alloc (Nat.le_refl _) _
  have sN : (w1.alloc (.cells #[] 61)).Since (w1.alloc (.cells #[] 61)).heap.size ((w1.alloc (.cells #[] 61)).alloc (.cells #[.int .i64 0, .int .i64 (V1 : Int), .int .i64 0, .int .i64 0, .int .i64 0, .slice (some ⟨w1.heap.size, 0, none⟩) 0 0] 64)) := (World.Since.refl _ _).alloc (Nat.le_refl _) _
  have OE := own_keep' (World.ownsRow_made (base := w.heap.size) (size := 3) (e := 61) w1 #[] 0 (by have := S1.size; omega) (Nat.zero_le _) rfl) sN
  have nN := Box6.new (w1.alloc (.cells #[] 61)) (.int .i64 0) (.int .i64 (V1 : Int)) (.int .i64 0) (.int .i64 0) (.int .i64 0) (.slice (some ⟨w1.heap.size, 0, none⟩) 0 0) 64
  rw [show (w1.alloc (.cells #[] 61)).heap.size = w1.heap.size + 1 by simp] at nN
  have N2 : Nst w ((w1.alloc (.cells #[] 61)).alloc (.cells #[.int .i64 0, .int .i64 (V1 : Int), .int .i64 0, .int .i64 0, .int .i64 0, .slice (some ⟨w1.heap.size, 0, none⟩) 0 0] 64)) w1.heap.size 0 V1 0 0 0 (.slice (some ⟨w1.heap.size, 0, none⟩) 0 0) := ⟨nN, ((bA.keep s1).keep sE).keep sN, (S1.trans (sinceMono sE S1.size)).trans (sinceMono sN (by have := S1.size; simp; omega)), OE, by have := ZA.out; omega⟩
  have gl := N2.l
  clear sE sN OE nN bA sA
  go_upto_region 2 with fail
  generalize (w1.alloc (.cells #[] 61)).alloc (.cells #[.int .i64 0, .int .i64 (V1 : Int), .int .i64 0, .int .i64 0, .int .i64 0, .slice (some ⟨w1.heap.size, 0, none⟩) 0 0] 64) = w2 at *
  generalize w1.heap.size = g1 at *
  have hqn : ¬ q = g1 + 1 := by omega
  obtain ⟨c0, c1, c2⟩ := HCC.out _ N2.S
  have m0 := N2.n.c0
  have f0 := N2.n.f 0
  have N3 := N2.set0 4
  go_wp2_with fail
  generalize (w2.setCell ⟨g1 + 1, 0, none⟩ (.int .i64 4)) = w3 at *
  refine (J2 w3).mono ?_
  rintro e w4 ⟨rfl, s4⟩
  clear c0 c1 c2 m0 f0
  have N4 := N3.keep s4
  obtain ⟨c0, c1, c2⟩ := HCC.out _ N4.S
  have m2 := N4.n.c2
  have f2 := N4.n.f 2
  have N5 := N4.set2 (V2 : Int)
  have HE := hide N5.E
  have y0 := N5.n.c0
  have r0 := N5.r.c0
  have rf0 := N5.r.f 0
  have y1 := N5.n.c1
  have r1 := N5.r.c1
  have rf1 := N5.r.f 1
  have y2 := N5.n.c2
  have r2 := N5.r.c2
  have rf2 := N5.r.f 2
  have y3 := N5.n.c3
  have r3 := N5.r.c3
  have rf3 := N5.r.f 3
  have y4 := N5.n.c4
  have r4 := N5.r.c4
  have rf4 := N5.r.f 4
  have y5 := N5.n.c5
  have r5 := N5.r.c5
  have rf5 := N5.r.f 5
  have hqr : ¬ q = w.heap.size := by omega
  go_wp2
  have rC := ((((((N5.r.set0 (.int .i64 4)).set1 (.int .i64 (V1 : Int))).set2 (.int .i64 (V2 : Int))).set3 (.int .i64 0)).set4 (.int .i64 0)).set5 (.slice (some ⟨g1, 0, none⟩) 0 0))
  refine bodyPost_ret (results_box6T rfl Tryz.underlying64 rfl size_node _ _ _ _ _ _ _ _ _ rfl rC) rfl ?_
  have BT := (((((((But.refl w.heap.size (w4.setCell ⟨g1 + 1, 2, none⟩ (.int .i64 (V2 : Int)))).set 0 (.int .i64 4)).set 1 (.int .i64 (V1 : Int))).set 2 (.int .i64 (V2 : Int))).set 3 (.int .i64 0)).set 4 (.int .i64 0)).set 5 (.slice (some ⟨g1, 0, none⟩) 0 0))
  have SF := since_chg N5.S (Nat.le_refl _) BT.c (fun q hq e => by omega)
  exact ⟨_, _, [], rfl, ⟨own_blk' HE.out (fun q e => BT.block q (HE.out.lt q e).2 (by simp [Value.ownBlock] at e; simp; omega)), fun i hi => absurd hi (by simp)⟩, SF⟩

set_option maxHeartbeats 6400000 in
set_option maxRecDepth 100000 in
theorem nodeOf5 (q cq : Nat) (x1 x2 : ByteArray) (w : World) (hC : LinC w q cq (⟨#[109, 97, 120, 112, 111, 111, 108]⟩ :: x1 :: x2 :: [])) (i1 : isInt x1) (i2 : isInt x2) :
    Calls Tryz.prog 33 #[.slice (some ⟨q, 0, none⟩) 3 cq] w fun e w' => NofR w w' 5 ((dv x1 x1.size : Nat) : Int) 0 ((dv x2 x2.size : Nat) : Int) 0 [] e := by
  have hl := hC.l
  have hcap := hC.cap
  have c0 := hC.c 0 _ rfl
  have hq : q < w.heap.size := World.block_lt_of_cell? _ _ c0
  have HCC : Hid (∀ w', w.Since w.heap.size w' → w'.cell? ⟨q, 0, none⟩ = some (.string ⟨#[109, 97, 120, 112, 111, 111, 108]⟩) ∧ w'.cell? ⟨q, 1, none⟩ = some (.string x1) ∧ w'.cell? ⟨q, 2, none⟩ = some (.string x2)) := hide (fun w' s => ⟨(s.cell (a := ⟨q, 0, none⟩) hq).trans (hC.c 0 _ rfl), (s.cell (a := ⟨q, 1, none⟩) hq).trans (hC.c 1 _ rfl), (s.cell (a := ⟨q, 2, none⟩) hq).trans (hC.c 2 _ rfl)⟩)
  simp only [List.length_cons, List.length_nil] at hl hcap
  obtain ⟨V1, hV1⟩ : ∃ V, dv x1 x1.size = V := ⟨_, rfl⟩
  have J1 : ∀ w', Calls Tryz.prog 21 #[.string x1] w' fun e w'' => e = .returned (.int .i64 (V1 : Int)) ∧ w'.Since w'.heap.size w'' := fun w' => by rw [← hV1]; exact l2Int_d x1 w' i1
  rw [hV1]
  obtain ⟨V2, hV2⟩ : ∃ V, dv x2 x2.size = V := ⟨_, rfl⟩
  have J2 : ∀ w', Calls Tryz.prog 21 #[.string x2] w' fun e w'' => e = .returned (.int .i64 (V2 : Int)) ∧ w'.Since w'.heap.size w'' := fun w' => by rw [← hV2]; exact l2Int_d x2 w' i2
  rw [hV2]
  clear hV1 i1 hV2 i2
  clear hC c0
  have sA : w.Since w.heap.size (w.alloc (.cells #[.int .i64 0, .int .i64 0, .int .i64 0, .int .i64 0, .int .i64 0, .slice none 0 0] 64)) := (World.Since.refl _ _).alloc (Nat.le_refl _) _
  have bA := Box6.new w (.int .i64 0) (.int .i64 0) (.int .i64 0) (.int .i64 0) (.int .i64 0) (.slice none 0 0) 64
  have ZA := hide (show (w.alloc (.cells #[.int .i64 0, .int .i64 0, .int .i64 0, .int .i64 0, .int .i64 0, .slice none 0 0] 64)).heap.size = w.heap.size + 1 by simp)
  obtain ⟨c0, c1, c2⟩ := HCC.out _ sA
  go_enter Tryz.func33, Tryz.ntmps33
  go_wp2_with fail
  generalize w.alloc (.cells #[.int .i64 0, .int .i64 0, .int .i64 0, .int .i64 0, .int .i64 0, .slice none 0 0] 64) = wA at *
  refine (J1 wA).mono ?_
  rintro e w1 ⟨rfl, s1⟩
  clear c0 c1 c2
  have S1 := sA.trans (sinceMono s1 sA.size)
  have z1 := s1.size
  have sE : w1.Since w1.heap.size (w1.alloc (.cells #[] 61)) := (World.Since.refl _ _).alloc (Nat.le_refl _) _
  have sN : (w1.alloc (.cells #[] 61)).Since (w1.alloc (.cells #[] 61)).heap.size ((w1.alloc (.cells #[] 61)).alloc (.cells #[.int .i64 0, .int .i64 (V1 : Int), .int .i64 0, .int .i64 0, .int .i64 0, .slice (some ⟨w1.heap.size, 0, none⟩) 0 0] 64)) := (World.Since.refl _ _).alloc (Nat.le_refl _) _
  have OE := own_keep' (World.ownsRow_made (base := w.heap.size) (size := 3) (e := 61) w1 #[] 0 (by have := S1.size; omega) (Nat.zero_le _) rfl) sN
  have nN := Box6.new (w1.alloc (.cells #[] 61)) (.int .i64 0) (.int .i64 (V1 : Int)) (.int .i64 0) (.int .i64 0) (.int .i64 0) (.slice (some ⟨w1.heap.size, 0, none⟩) 0 0) 64
  rw [show (w1.alloc (.cells #[] 61)).heap.size = w1.heap.size + 1 by simp] at nN
  have N2 : Nst w ((w1.alloc (.cells #[] 61)).alloc (.cells #[.int .i64 0, .int .i64 (V1 : Int), .int .i64 0, .int .i64 0, .int .i64 0, .slice (some ⟨w1.heap.size, 0, none⟩) 0 0] 64)) w1.heap.size 0 V1 0 0 0 (.slice (some ⟨w1.heap.size, 0, none⟩) 0 0) := ⟨nN, ((bA.keep s1).keep sE).keep sN, (S1.trans (sinceMono sE S1.size)).trans (sinceMono sN (by have := S1.size; simp; omega)), OE, by have := ZA.out; omega⟩
  have gl := N2.l
  clear sE sN OE nN bA sA
  go_upto_region 2 with fail
  generalize (w1.alloc (.cells #[] 61)).alloc (.cells #[.int .i64 0, .int .i64 (V1 : Int), .int .i64 0, .int .i64 0, .int .i64 0, .slice (some ⟨w1.heap.size, 0, none⟩) 0 0] 64) = w2 at *
  generalize w1.heap.size = g1 at *
  have hqn : ¬ q = g1 + 1 := by omega
  obtain ⟨c0, c1, c2⟩ := HCC.out _ N2.S
  have m0 := N2.n.c0
  have f0 := N2.n.f 0
  have N3 := N2.set0 5
  go_wp2_with fail
  generalize (w2.setCell ⟨g1 + 1, 0, none⟩ (.int .i64 5)) = w3 at *
  refine (J2 w3).mono ?_
  rintro e w4 ⟨rfl, s4⟩
  clear c0 c1 c2 m0 f0
  have N4 := N3.keep s4
  obtain ⟨c0, c1, c2⟩ := HCC.out _ N4.S
  have m3 := N4.n.c3
  have f3 := N4.n.f 3
  have N5 := N4.set3 (V2 : Int)
  have HE := hide N5.E
  have y0 := N5.n.c0
  have r0 := N5.r.c0
  have rf0 := N5.r.f 0
  have y1 := N5.n.c1
  have r1 := N5.r.c1
  have rf1 := N5.r.f 1
  have y2 := N5.n.c2
  have r2 := N5.r.c2
  have rf2 := N5.r.f 2
  have y3 := N5.n.c3
  have r3 := N5.r.c3
  have rf3 := N5.r.f 3
  have y4 := N5.n.c4
  have r4 := N5.r.c4
  have rf4 := N5.r.f 4
  have y5 := N5.n.c5
  have r5 := N5.r.c5
  have rf5 := N5.r.f 5
  have hqr : ¬ q = w.heap.size := by omega
  go_wp2
  have rC := ((((((N5.r.set0 (.int .i64 5)).set1 (.int .i64 (V1 : Int))).set2 (.int .i64 0)).set3 (.int .i64 (V2 : Int))).set4 (.int .i64 0)).set5 (.slice (some ⟨g1, 0, none⟩) 0 0))
  refine bodyPost_ret (results_box6T rfl Tryz.underlying64 rfl size_node _ _ _ _ _ _ _ _ _ rfl rC) rfl ?_
  have BT := (((((((But.refl w.heap.size (w4.setCell ⟨g1 + 1, 3, none⟩ (.int .i64 (V2 : Int)))).set 0 (.int .i64 5)).set 1 (.int .i64 (V1 : Int))).set 2 (.int .i64 0)).set 3 (.int .i64 (V2 : Int))).set 4 (.int .i64 0)).set 5 (.slice (some ⟨g1, 0, none⟩) 0 0))
  have SF := since_chg N5.S (Nat.le_refl _) BT.c (fun q hq e => by omega)
  exact ⟨_, _, [], rfl, ⟨own_blk' HE.out (fun q e => BT.block q (HE.out.lt q e).2 (by simp [Value.ownBlock] at e; simp; omega)), fun i hi => absurd hi (by simp)⟩, SF⟩

set_option maxHeartbeats 6400000 in
set_option maxRecDepth 100000 in
theorem nodeOf6 (q cq : Nat) (x1 x2 x3 : ByteArray) (ns : List ByteArray) (w : World) (hC : LinC w q cq (⟨#[99, 111, 110, 118]⟩ :: x1 :: x2 :: x3 :: ns)) (i1 : isInt x1) (i2 : isInt x2) (i3 : isInt x3) :
    Calls Tryz.prog 33 #[.slice (some ⟨q, 0, none⟩) (ns.length + 1 + 1 + 1 + 1) cq] w fun e w' => NofR w w' 6 ((dv x1 x1.size : Nat) : Int) 0 ((dv x2 x2.size : Nat) : Int) ((dv x3 x3.size : Nat) : Int) ns e := by
  have hl := hC.l
  have hcap := hC.cap
  have c0 := hC.c 0 _ rfl
  have hq : q < w.heap.size := World.block_lt_of_cell? _ _ c0
  have HCC : Hid (∀ w', w.Since w.heap.size w' → w'.cell? ⟨q, 0, none⟩ = some (.string ⟨#[99, 111, 110, 118]⟩) ∧ w'.cell? ⟨q, 1, none⟩ = some (.string x1) ∧ w'.cell? ⟨q, 2, none⟩ = some (.string x2) ∧ w'.cell? ⟨q, 3, none⟩ = some (.string x3)) := hide (fun w' s => ⟨(s.cell (a := ⟨q, 0, none⟩) hq).trans (hC.c 0 _ rfl), (s.cell (a := ⟨q, 1, none⟩) hq).trans (hC.c 1 _ rfl), (s.cell (a := ⟨q, 2, none⟩) hq).trans (hC.c 2 _ rfl), (s.cell (a := ⟨q, 3, none⟩) hq).trans (hC.c 3 _ rfl)⟩)
  simp only [List.length_cons] at hl hcap
  obtain ⟨V1, hV1⟩ : ∃ V, dv x1 x1.size = V := ⟨_, rfl⟩
  have J1 : ∀ w', Calls Tryz.prog 21 #[.string x1] w' fun e w'' => e = .returned (.int .i64 (V1 : Int)) ∧ w'.Since w'.heap.size w'' := fun w' => by rw [← hV1]; exact l2Int_d x1 w' i1
  rw [hV1]
  obtain ⟨V2, hV2⟩ : ∃ V, dv x2 x2.size = V := ⟨_, rfl⟩
  have J2 : ∀ w', Calls Tryz.prog 21 #[.string x2] w' fun e w'' => e = .returned (.int .i64 (V2 : Int)) ∧ w'.Since w'.heap.size w'' := fun w' => by rw [← hV2]; exact l2Int_d x2 w' i2
  rw [hV2]
  obtain ⟨V3, hV3⟩ : ∃ V, dv x3 x3.size = V := ⟨_, rfl⟩
  have J3 : ∀ w', Calls Tryz.prog 21 #[.string x3] w' fun e w'' => e = .returned (.int .i64 (V3 : Int)) ∧ w'.Since w'.heap.size w'' := fun w' => by rw [← hV3]; exact l2Int_d x3 w' i3
  rw [hV3]
  clear hV1 i1 hV2 i2 hV3 i3
  have HN : Hid (∀ w', w.Since w.heap.size w' → ∀ (a : Option Addr) (cap : Nat), (0 < ns.length → a = some ⟨q, 4, none⟩) → Calls Tryz.prog 54 #[.slice a ns.length cap] w' fun e w'' => NumsO w' w'' ns e) := hide (fun w' s a cap ha => l2Nums_q a q 4 cap ns w' (fun j x hx => ⟨ha (by have := (List.getElem?_eq_some_iff.1 hx).1; omega), by
    have h9 := hC.c (4 + j) x (by rw [Nat.add_comm]; exact hx)
    exact (s.cell (a := ⟨q, 4 + j, none⟩) hq).trans h9⟩) (fun x hx => hC.z x (by simp [hx])) (by omega))
  clear hC c0
  have sA : w.Since w.heap.size (w.alloc (.cells #[.int .i64 0, .int .i64 0, .int .i64 0, .int .i64 0, .int .i64 0, .slice none 0 0] 64)) := (World.Since.refl _ _).alloc (Nat.le_refl _) _
  have bA := Box6.new w (.int .i64 0) (.int .i64 0) (.int .i64 0) (.int .i64 0) (.int .i64 0) (.slice none 0 0) 64
  have ZA := hide (show (w.alloc (.cells #[.int .i64 0, .int .i64 0, .int .i64 0, .int .i64 0, .int .i64 0, .slice none 0 0] 64)).heap.size = w.heap.size + 1 by simp)
  obtain ⟨c0, c1, c2, c3⟩ := HCC.out _ sA
  go_enter Tryz.func33, Tryz.ntmps33
  go_wp2_with fail
  generalize w.alloc (.cells #[.int .i64 0, .int .i64 0, .int .i64 0, .int .i64 0, .int .i64 0, .slice none 0 0] 64) = wA at *
  refine (J1 wA).mono ?_
  rintro e w1 ⟨rfl, s1⟩
  clear c0 c1 c2 c3
  have S1 := sA.trans (sinceMono s1 sA.size)
  have z1 := s1.size
  have sE : w1.Since w1.heap.size (w1.alloc (.cells #[] 61)) := (World.Since.refl _ _).alloc (Nat.le_refl _) _
  have sN : (w1.alloc (.cells #[] 61)).Since (w1.alloc (.cells #[] 61)).heap.size ((w1.alloc (.cells #[] 61)).alloc (.cells #[.int .i64 0, .int .i64 (V1 : Int), .int .i64 0, .int .i64 0, .int .i64 0, .slice (some ⟨w1.heap.size, 0, none⟩) 0 0] 64)) := (World.Since.refl _ _).alloc (Nat.le_refl _) _
  have OE := own_keep' (World.ownsRow_made (base := w.heap.size) (size := 3) (e := 61) w1 #[] 0 (by have := S1.size; omega) (Nat.zero_le _) rfl) sN
  have nN := Box6.new (w1.alloc (.cells #[] 61)) (.int .i64 0) (.int .i64 (V1 : Int)) (.int .i64 0) (.int .i64 0) (.int .i64 0) (.slice (some ⟨w1.heap.size, 0, none⟩) 0 0) 64
  rw [show (w1.alloc (.cells #[] 61)).heap.size = w1.heap.size + 1 by simp] at nN
  have N2 : Nst w ((w1.alloc (.cells #[] 61)).alloc (.cells #[.int .i64 0, .int .i64 (V1 : Int), .int .i64 0, .int .i64 0, .int .i64 0, .slice (some ⟨w1.heap.size, 0, none⟩) 0 0] 64)) w1.heap.size 0 V1 0 0 0 (.slice (some ⟨w1.heap.size, 0, none⟩) 0 0) := ⟨nN, ((bA.keep s1).keep sE).keep sN, (S1.trans (sinceMono sE S1.size)).trans (sinceMono sN (by have := S1.size; simp; omega)), OE, by have := ZA.out; omega⟩
  have gl := N2.l
  clear sE sN OE nN bA sA
  go_upto_region 2 with fail
  generalize (w1.alloc (.cells #[] 61)).alloc (.cells #[.int .i64 0, .int .i64 (V1 : Int), .int .i64 0, .int .i64 0, .int .i64 0, .slice (some ⟨w1.heap.size, 0, none⟩) 0 0] 64) = w2 at *
  generalize w1.heap.size = g1 at *
  have hqn : ¬ q = g1 + 1 := by omega
  by_cases hcq : cq = 4
  · have hn0 : ns = [] := List.length_eq_zero_iff.1 (by omega)
    subst hcq hn0
    obtain ⟨c0, c1, c2, c3⟩ := HCC.out _ N2.S
    have m0 := N2.n.c0
    have f0 := N2.n.f 0
    have N3 := N2.set0 6
    go_wp2_with fail
    generalize (w2.setCell ⟨g1 + 1, 0, none⟩ (.int .i64 6)) = w3 at *
    refine (J2 w3).mono ?_
    rintro e w4 ⟨rfl, s4⟩
    clear c0 c1 c2 c3 m0 f0
    have N4 := N3.keep s4
    obtain ⟨c0, c1, c2, c3⟩ := HCC.out _ N4.S
    have m3 := N4.n.c3
    have f3 := N4.n.f 3
    have N5 := N4.set3 (V2 : Int)
    go_wp2_with fail
    generalize (w4.setCell ⟨g1 + 1, 3, none⟩ (.int .i64 (V2 : Int))) = w5 at *
    refine (J3 w5).mono ?_
    rintro e w6 ⟨rfl, s6⟩
    clear c0 c1 c2 c3 m3 f3
    have N6 := N5.keep s6
    obtain ⟨c0, c1, c2, c3⟩ := HCC.out _ N6.S
    have m4 := N6.n.c4
    have f4 := N6.n.f 4
    have N7 := N6.set4 (V3 : Int)
    go_wp2_with fail
    generalize (w6.setCell ⟨g1 + 1, 4, none⟩ (.int .i64 (V3 : Int))) = w7 at *
    refine (HN.out w7 N7.S (some ⟨q, 0, none⟩) 0 (fun h9 => absurd h9 (by simp))).mono ?_
    rintro e w8 ⟨gV, cV, xV, rfl, OV, s8⟩
    clear c0 c1 c2 c3 m4 f4
    have zV := s8.size
    have hVz := N7.S.size
    have N8 := N7.keep s8
    have gVl := OV.own.lt gV rfl
    have gnl := N7.n.lt
    obtain ⟨c0, c1, c2, c3⟩ := HCC.out _ N8.S
    have m5 := N8.n.c5
    have f5 := N8.n.f 5
    have N9 := N8.set5 (.slice (some ⟨gV, 0, none⟩) 0 cV)
    have BSV : But (g1 + 1) w8 (w8.setCell ⟨g1 + 1, 5, none⟩ (.slice (some ⟨gV, 0, none⟩) 0 cV)) := (But.refl _ w8).set 5 _
    have OV2 := hide ((OV.but BSV (by omega) (fun _ _ hp => hp)).lower hVz)
    have y0 := N9.n.c0
    have r0 := N9.r.c0
    have rf0 := N9.r.f 0
    have y1 := N9.n.c1
    have r1 := N9.r.c1
    have rf1 := N9.r.f 1
    have y2 := N9.n.c2
    have r2 := N9.r.c2
    have rf2 := N9.r.f 2
    have y3 := N9.n.c3
    have r3 := N9.r.c3
    have rf3 := N9.r.f 3
    have y4 := N9.n.c4
    have r4 := N9.r.c4
    have rf4 := N9.r.f 4
    have y5 := N9.n.c5
    have r5 := N9.r.c5
    have rf5 := N9.r.f 5
    have hqr : ¬ q = w.heap.size := by omega
    go_wp2
    have rC := ((((((N9.r.set0 (.int .i64 6)).set1 (.int .i64 (V1 : Int))).set2 (.int .i64 0)).set3 (.int .i64 (V2 : Int))).set4 (.int .i64 (V3 : Int))).set5 (.slice (some ⟨gV, 0, none⟩) 0 cV))
    refine bodyPost_ret (results_box6T rfl Tryz.underlying64 rfl size_node _ _ _ _ _ _ _ _ _ rfl rC) rfl ?_
    have BT := (((((((But.refl w.heap.size (w8.setCell ⟨g1 + 1, 5, none⟩ (.slice (some ⟨gV, 0, none⟩) 0 cV))).set 0 (.int .i64 6)).set 1 (.int .i64 (V1 : Int))).set 2 (.int .i64 0)).set 3 (.int .i64 (V2 : Int))).set 4 (.int .i64 (V3 : Int))).set 5 (.slice (some ⟨gV, 0, none⟩) 0 cV))
    have SF := since_chg N9.S (Nat.le_refl _) BT.c (fun q hq e => by omega)
    exact ⟨_, _, _, rfl, (OV2.out.blocks BT.size (fun q e => BT.block q (OV2.out.own.lt q e).2 (by simp [Value.ownBlock] at e; simp; omega)) (fun _ q _ hq hp => BT.block q hq (by simp; omega))).imp' (fun _ _ _ _ hp => Nat.le_trans hVz hp), SF⟩
  · have hcq1 : (4 : Int) ≤ (cq : Int) := by omega
    have hcq2 : (ns.length : Int) + 1 + 1 + 1 + 1 ≤ (cq : Int) := by omega
    obtain ⟨c0, c1, c2, c3⟩ := HCC.out _ N2.S
    have m0 := N2.n.c0
    have f0 := N2.n.f 0
    have N3 := N2.set0 6
    go_wp2_with fail
    generalize (w2.setCell ⟨g1 + 1, 0, none⟩ (.int .i64 6)) = w3 at *
    refine (J2 w3).mono ?_
    rintro e w4 ⟨rfl, s4⟩
    clear c0 c1 c2 c3 m0 f0
    have N4 := N3.keep s4
    obtain ⟨c0, c1, c2, c3⟩ := HCC.out _ N4.S
    have m3 := N4.n.c3
    have f3 := N4.n.f 3
    have N5 := N4.set3 (V2 : Int)
    go_wp2_with fail
    generalize (w4.setCell ⟨g1 + 1, 3, none⟩ (.int .i64 (V2 : Int))) = w5 at *
    refine (J3 w5).mono ?_
    rintro e w6 ⟨rfl, s6⟩
    clear c0 c1 c2 c3 m3 f3
    have N6 := N5.keep s6
    obtain ⟨c0, c1, c2, c3⟩ := HCC.out _ N6.S
    have m4 := N6.n.c4
    have f4 := N6.n.f 4
    have N7 := N6.set4 (V3 : Int)
    go_wp2_with fail
    generalize (w6.setCell ⟨g1 + 1, 4, none⟩ (.int .i64 (V3 : Int))) = w7 at *
    refine (HN.out w7 N7.S (some ⟨q, 4, none⟩) (cq - 4) (fun _ => rfl)).mono ?_
    rintro e w8 ⟨gV, cV, xV, rfl, OV, s8⟩
    clear c0 c1 c2 c3 m4 f4
    have zV := s8.size
    have hVz := N7.S.size
    have N8 := N7.keep s8
    have gVl := OV.own.lt gV rfl
    have gnl := N7.n.lt
    obtain ⟨c0, c1, c2, c3⟩ := HCC.out _ N8.S
    have m5 := N8.n.c5
    have f5 := N8.n.f 5
    have N9 := N8.set5 (.slice (some ⟨gV, 0, none⟩) ns.length cV)
    have BSV : But (g1 + 1) w8 (w8.setCell ⟨g1 + 1, 5, none⟩ (.slice (some ⟨gV, 0, none⟩) ns.length cV)) := (But.refl _ w8).set 5 _
    have OV2 := hide ((OV.but BSV (by omega) (fun _ _ hp => hp)).lower hVz)
    have y0 := N9.n.c0
    have r0 := N9.r.c0
    have rf0 := N9.r.f 0
    have y1 := N9.n.c1
    have r1 := N9.r.c1
    have rf1 := N9.r.f 1
    have y2 := N9.n.c2
    have r2 := N9.r.c2
    have rf2 := N9.r.f 2
    have y3 := N9.n.c3
    have r3 := N9.r.c3
    have rf3 := N9.r.f 3
    have y4 := N9.n.c4
    have r4 := N9.r.c4
    have rf4 := N9.r.f 4
    have y5 := N9.n.c5
    have r5 := N9.r.c5
    have rf5 := N9.r.f 5
    have hqr : ¬ q = w.heap.size := by omega
    go_wp2
    have rC := ((((((N9.r.set0 (.int .i64 6)).set1 (.int .i64 (V1 : Int))).set2 (.int .i64 0)).set3 (.int .i64 (V2 : Int))).set4 (.int .i64 (V3 : Int))).set5 (.slice (some ⟨gV, 0, none⟩) ns.length cV))
    refine bodyPost_ret (results_box6T rfl Tryz.underlying64 rfl size_node _ _ _ _ _ _ _ _ _ rfl rC) rfl ?_
    have BT := (((((((But.refl w.heap.size (w8.setCell ⟨g1 + 1, 5, none⟩ (.slice (some ⟨gV, 0, none⟩) ns.length cV))).set 0 (.int .i64 6)).set 1 (.int .i64 (V1 : Int))).set 2 (.int .i64 0)).set 3 (.int .i64 (V2 : Int))).set 4 (.int .i64 (V3 : Int))).set 5 (.slice (some ⟨gV, 0, none⟩) ns.length cV))
    have SF := since_chg N9.S (Nat.le_refl _) BT.c (fun q hq e => by omega)
    exact ⟨_, _, _, rfl, (OV2.out.blocks BT.size (fun q e => BT.block q (OV2.out.own.lt q e).2 (by simp [Value.ownBlock] at e; simp; omega)) (fun _ q _ hq hp => BT.block q hq (by simp; omega))).imp' (fun _ _ _ _ hp => Nat.le_trans hVz hp), SF⟩

set_option maxHeartbeats 6400000 in
set_option maxRecDepth 100000 in
theorem nodeOf7 (q cq : Nat) (x1 : ByteArray) (ns : List ByteArray) (w : World) (hC : LinC w q cq (⟨#[110, 111, 114, 109]⟩ :: x1 :: ns)) (i1 : isInt x1) :
    Calls Tryz.prog 33 #[.slice (some ⟨q, 0, none⟩) (ns.length + 1 + 1) cq] w fun e w' => NofR w w' 7 ((dv x1 x1.size : Nat) : Int) 0 0 0 ns e := by
  have hl := hC.l
  have hcap := hC.cap
  have c0 := hC.c 0 _ rfl
  have hq : q < w.heap.size := World.block_lt_of_cell? _ _ c0
  have HCC : Hid (∀ w', w.Since w.heap.size w' → w'.cell? ⟨q, 0, none⟩ = some (.string ⟨#[110, 111, 114, 109]⟩) ∧ w'.cell? ⟨q, 1, none⟩ = some (.string x1)) := hide (fun w' s => ⟨(s.cell (a := ⟨q, 0, none⟩) hq).trans (hC.c 0 _ rfl), (s.cell (a := ⟨q, 1, none⟩) hq).trans (hC.c 1 _ rfl)⟩)
  simp only [List.length_cons] at hl hcap
  obtain ⟨V1, hV1⟩ : ∃ V, dv x1 x1.size = V := ⟨_, rfl⟩
  have J1 : ∀ w', Calls Tryz.prog 21 #[.string x1] w' fun e w'' => e = .returned (.int .i64 (V1 : Int)) ∧ w'.Since w'.heap.size w'' := fun w' => by rw [← hV1]; exact l2Int_d x1 w' i1
  rw [hV1]
  clear hV1 i1
  have HN : Hid (∀ w', w.Since w.heap.size w' → ∀ (a : Option Addr) (cap : Nat), (0 < ns.length → a = some ⟨q, 2, none⟩) → Calls Tryz.prog 54 #[.slice a ns.length cap] w' fun e w'' => NumsO w' w'' ns e) := hide (fun w' s a cap ha => l2Nums_q a q 2 cap ns w' (fun j x hx => ⟨ha (by have := (List.getElem?_eq_some_iff.1 hx).1; omega), by
    have h9 := hC.c (2 + j) x (by rw [Nat.add_comm]; exact hx)
    exact (s.cell (a := ⟨q, 2 + j, none⟩) hq).trans h9⟩) (fun x hx => hC.z x (by simp [hx])) (by omega))
  clear hC c0
  have sA : w.Since w.heap.size (w.alloc (.cells #[.int .i64 0, .int .i64 0, .int .i64 0, .int .i64 0, .int .i64 0, .slice none 0 0] 64)) := (World.Since.refl _ _).alloc (Nat.le_refl _) _
  have bA := Box6.new w (.int .i64 0) (.int .i64 0) (.int .i64 0) (.int .i64 0) (.int .i64 0) (.slice none 0 0) 64
  have ZA := hide (show (w.alloc (.cells #[.int .i64 0, .int .i64 0, .int .i64 0, .int .i64 0, .int .i64 0, .slice none 0 0] 64)).heap.size = w.heap.size + 1 by simp)
  obtain ⟨c0, c1⟩ := HCC.out _ sA
  go_enter Tryz.func33, Tryz.ntmps33
  go_wp2_with fail
  generalize w.alloc (.cells #[.int .i64 0, .int .i64 0, .int .i64 0, .int .i64 0, .int .i64 0, .slice none 0 0] 64) = wA at *
  refine (J1 wA).mono ?_
  rintro e w1 ⟨rfl, s1⟩
  clear c0 c1
  have S1 := sA.trans (sinceMono s1 sA.size)
  have z1 := s1.size
  have sE : w1.Since w1.heap.size (w1.alloc (.cells #[] 61)) := (World.Since.refl _ _).alloc (Nat.le_refl _) _
  have sN : (w1.alloc (.cells #[] 61)).Since (w1.alloc (.cells #[] 61)).heap.size ((w1.alloc (.cells #[] 61)).alloc (.cells #[.int .i64 0, .int .i64 (V1 : Int), .int .i64 0, .int .i64 0, .int .i64 0, .slice (some ⟨w1.heap.size, 0, none⟩) 0 0] 64)) := (World.Since.refl _ _).alloc (Nat.le_refl _) _
  have OE := own_keep' (World.ownsRow_made (base := w.heap.size) (size := 3) (e := 61) w1 #[] 0 (by have := S1.size; omega) (Nat.zero_le _) rfl) sN
  have nN := Box6.new (w1.alloc (.cells #[] 61)) (.int .i64 0) (.int .i64 (V1 : Int)) (.int .i64 0) (.int .i64 0) (.int .i64 0) (.slice (some ⟨w1.heap.size, 0, none⟩) 0 0) 64
  rw [show (w1.alloc (.cells #[] 61)).heap.size = w1.heap.size + 1 by simp] at nN
  have N2 : Nst w ((w1.alloc (.cells #[] 61)).alloc (.cells #[.int .i64 0, .int .i64 (V1 : Int), .int .i64 0, .int .i64 0, .int .i64 0, .slice (some ⟨w1.heap.size, 0, none⟩) 0 0] 64)) w1.heap.size 0 V1 0 0 0 (.slice (some ⟨w1.heap.size, 0, none⟩) 0 0) := ⟨nN, ((bA.keep s1).keep sE).keep sN, (S1.trans (sinceMono sE S1.size)).trans (sinceMono sN (by have := S1.size; simp; omega)), OE, by have := ZA.out; omega⟩
  have gl := N2.l
  clear sE sN OE nN bA sA
  go_upto_region 2 with fail
  generalize (w1.alloc (.cells #[] 61)).alloc (.cells #[.int .i64 0, .int .i64 (V1 : Int), .int .i64 0, .int .i64 0, .int .i64 0, .slice (some ⟨w1.heap.size, 0, none⟩) 0 0] 64) = w2 at *
  generalize w1.heap.size = g1 at *
  have hqn : ¬ q = g1 + 1 := by omega
  by_cases hcq : cq = 2
  · have hn0 : ns = [] := List.length_eq_zero_iff.1 (by omega)
    subst hcq hn0
    obtain ⟨c0, c1⟩ := HCC.out _ N2.S
    have m0 := N2.n.c0
    have f0 := N2.n.f 0
    have N3 := N2.set0 7
    go_wp2_with fail
    generalize (w2.setCell ⟨g1 + 1, 0, none⟩ (.int .i64 7)) = w3 at *
    refine (HN.out w3 N3.S (some ⟨q, 0, none⟩) 0 (fun h9 => absurd h9 (by simp))).mono ?_
    rintro e w4 ⟨gV, cV, xV, rfl, OV, s4⟩
    clear c0 c1 m0 f0
    have zV := s4.size
    have hVz := N3.S.size
    have N4 := N3.keep s4
    have gVl := OV.own.lt gV rfl
    have gnl := N3.n.lt
    obtain ⟨c0, c1⟩ := HCC.out _ N4.S
    have m5 := N4.n.c5
    have f5 := N4.n.f 5
    have N5 := N4.set5 (.slice (some ⟨gV, 0, none⟩) 0 cV)
    have BSV : But (g1 + 1) w4 (w4.setCell ⟨g1 + 1, 5, none⟩ (.slice (some ⟨gV, 0, none⟩) 0 cV)) := (But.refl _ w4).set 5 _
    have OV2 := hide ((OV.but BSV (by omega) (fun _ _ hp => hp)).lower hVz)
    have y0 := N5.n.c0
    have r0 := N5.r.c0
    have rf0 := N5.r.f 0
    have y1 := N5.n.c1
    have r1 := N5.r.c1
    have rf1 := N5.r.f 1
    have y2 := N5.n.c2
    have r2 := N5.r.c2
    have rf2 := N5.r.f 2
    have y3 := N5.n.c3
    have r3 := N5.r.c3
    have rf3 := N5.r.f 3
    have y4 := N5.n.c4
    have r4 := N5.r.c4
    have rf4 := N5.r.f 4
    have y5 := N5.n.c5
    have r5 := N5.r.c5
    have rf5 := N5.r.f 5
    have hqr : ¬ q = w.heap.size := by omega
    go_wp2
    have rC := ((((((N5.r.set0 (.int .i64 7)).set1 (.int .i64 (V1 : Int))).set2 (.int .i64 0)).set3 (.int .i64 0)).set4 (.int .i64 0)).set5 (.slice (some ⟨gV, 0, none⟩) 0 cV))
    refine bodyPost_ret (results_box6T rfl Tryz.underlying64 rfl size_node _ _ _ _ _ _ _ _ _ rfl rC) rfl ?_
    have BT := (((((((But.refl w.heap.size (w4.setCell ⟨g1 + 1, 5, none⟩ (.slice (some ⟨gV, 0, none⟩) 0 cV))).set 0 (.int .i64 7)).set 1 (.int .i64 (V1 : Int))).set 2 (.int .i64 0)).set 3 (.int .i64 0)).set 4 (.int .i64 0)).set 5 (.slice (some ⟨gV, 0, none⟩) 0 cV))
    have SF := since_chg N5.S (Nat.le_refl _) BT.c (fun q hq e => by omega)
    exact ⟨_, _, _, rfl, (OV2.out.blocks BT.size (fun q e => BT.block q (OV2.out.own.lt q e).2 (by simp [Value.ownBlock] at e; simp; omega)) (fun _ q _ hq hp => BT.block q hq (by simp; omega))).imp' (fun _ _ _ _ hp => Nat.le_trans hVz hp), SF⟩
  · have hcq1 : (2 : Int) ≤ (cq : Int) := by omega
    have hcq2 : (ns.length : Int) + 1 + 1 ≤ (cq : Int) := by omega
    obtain ⟨c0, c1⟩ := HCC.out _ N2.S
    have m0 := N2.n.c0
    have f0 := N2.n.f 0
    have N3 := N2.set0 7
    go_wp2_with fail
    generalize (w2.setCell ⟨g1 + 1, 0, none⟩ (.int .i64 7)) = w3 at *
    refine (HN.out w3 N3.S (some ⟨q, 2, none⟩) (cq - 2) (fun _ => rfl)).mono ?_
    rintro e w4 ⟨gV, cV, xV, rfl, OV, s4⟩
    clear c0 c1 m0 f0
    have zV := s4.size
    have hVz := N3.S.size
    have N4 := N3.keep s4
    have gVl := OV.own.lt gV rfl
    have gnl := N3.n.lt
    obtain ⟨c0, c1⟩ := HCC.out _ N4.S
    have m5 := N4.n.c5
    have f5 := N4.n.f 5
    have N5 := N4.set5 (.slice (some ⟨gV, 0, none⟩) ns.length cV)
    have BSV : But (g1 + 1) w4 (w4.setCell ⟨g1 + 1, 5, none⟩ (.slice (some ⟨gV, 0, none⟩) ns.length cV)) := (But.refl _ w4).set 5 _
    have OV2 := hide ((OV.but BSV (by omega) (fun _ _ hp => hp)).lower hVz)
    have y0 := N5.n.c0
    have r0 := N5.r.c0
    have rf0 := N5.r.f 0
    have y1 := N5.n.c1
    have r1 := N5.r.c1
    have rf1 := N5.r.f 1
    have y2 := N5.n.c2
    have r2 := N5.r.c2
    have rf2 := N5.r.f 2
    have y3 := N5.n.c3
    have r3 := N5.r.c3
    have rf3 := N5.r.f 3
    have y4 := N5.n.c4
    have r4 := N5.r.c4
    have rf4 := N5.r.f 4
    have y5 := N5.n.c5
    have r5 := N5.r.c5
    have rf5 := N5.r.f 5
    have hqr : ¬ q = w.heap.size := by omega
    go_wp2
    have rC := ((((((N5.r.set0 (.int .i64 7)).set1 (.int .i64 (V1 : Int))).set2 (.int .i64 0)).set3 (.int .i64 0)).set4 (.int .i64 0)).set5 (.slice (some ⟨gV, 0, none⟩) ns.length cV))
    refine bodyPost_ret (results_box6T rfl Tryz.underlying64 rfl size_node _ _ _ _ _ _ _ _ _ rfl rC) rfl ?_
    have BT := (((((((But.refl w.heap.size (w4.setCell ⟨g1 + 1, 5, none⟩ (.slice (some ⟨gV, 0, none⟩) ns.length cV))).set 0 (.int .i64 7)).set 1 (.int .i64 (V1 : Int))).set 2 (.int .i64 0)).set 3 (.int .i64 0)).set 4 (.int .i64 0)).set 5 (.slice (some ⟨gV, 0, none⟩) ns.length cV))
    have SF := since_chg N5.S (Nat.le_refl _) BT.c (fun q hq e => by omega)
    exact ⟨_, _, _, rfl, (OV2.out.blocks BT.size (fun q e => BT.block q (OV2.out.own.lt q e).2 (by simp [Value.ownBlock] at e; simp; omega)) (fun _ q _ hq hp => BT.block q hq (by simp; omega))).imp' (fun _ _ _ _ hp => Nat.le_trans hVz hp), SF⟩

end Go.Proofs.YtnogbaapcjjngaaGreatDoor

namespace Go.Proofs.YtnogbaapcjjngaaGreatDoor
open Go.RowKit

theorem list0 {α : Type} {l : List α} (h : l.length = 0) : l = [] := List.length_eq_zero_iff.1 h

/-- spec.l2NodeOf at a node's line. -/
theorem l2NodeOf_q (q cq : Nat) (ws : List ByteArray) (w : World) (hC : LinC w q cq ws) (h : nodeOk ws) :
    Calls Tryz.prog 33 #[.slice (some ⟨q, 0, none⟩) ws.length cq] w fun e w' => NofR w w' (nD ws).op (nD ws).a (nD ws).b (nD ws).k (nD ws).s (vw ws) e := by
  obtain ⟨hk, ho⟩ := kdOf_ok h
  unfold nD vw
  obtain ⟨kd, e⟩ : ∃ kd, kdOf ws = kd := ⟨_, rfl⟩
  rw [e] at hk ho ⊢
  obtain ⟨is, ns, ew, h1, h2, h3, h4, h5⟩ := shape_iff.1 ho
  rcases hk with rfl | rfl | rfl | rfl | rfl | rfl | rfl
  · match is, h1, h2 with
    | [x1, x2], _, h2 =>
      subst ew
      exact (nodeOf1 q cq x1 x2 ns w hC (h2 x1 (by simp)) (h2 x2 (by simp))).mono (fun _ _ hh => hh)
  · have hn := list0 (l := ns) (by have := h5 (by decide); simp [kd2] at this; simpa using this)
    subst hn
    match is, h1, h2 with
    | [x1], _, h2 =>
      subst ew
      exact (nodeOf2 q cq x1 w hC (h2 x1 (by simp))).mono (fun _ _ hh => hh)
  · match is, h1, h2 with
    | [x1], _, h2 =>
      subst ew
      exact (nodeOf3 q cq x1 ns w hC (h2 x1 (by simp))).mono (fun _ _ hh => hh)
  · have hn := list0 (l := ns) (by have := h5 (by decide); simp [kd4] at this; simpa using this)
    subst hn
    match is, h1, h2 with
    | [x1, x2], _, h2 =>
      subst ew
      exact (nodeOf4 q cq x1 x2 w hC (h2 x1 (by simp)) (h2 x2 (by simp))).mono (fun _ _ hh => hh)
  · have hn := list0 (l := ns) (by have := h5 (by decide); simp [kd5] at this; simpa using this)
    subst hn
    match is, h1, h2 with
    | [x1, x2], _, h2 =>
      subst ew
      exact (nodeOf5 q cq x1 x2 w hC (h2 x1 (by simp)) (h2 x2 (by simp))).mono (fun _ _ hh => hh)
  · match is, h1, h2 with
    | [x1, x2, x3], _, h2 =>
      subst ew
      exact (nodeOf6 q cq x1 x2 x3 ns w hC (h2 x1 (by simp)) (h2 x2 (by simp)) (h2 x3 (by simp))).mono (fun _ _ hh => hh)
  · match is, h1, h2 with
    | [x1], _, h2 =>
      subst ew
      exact (nodeOf7 q cq x1 ns w hC (h2 x1 (by simp))).mono (fun _ _ hh => hh)

end Go.Proofs.YtnogbaapcjjngaaGreatDoor

namespace Go.Proofs.YtnogbaapcjjngaaGreatDoor
open Go.RowKit

theorem takeNode_q (c bl wb t m : Nat) (L ws : List ByteArray) (w : World) (h : Rdr w c bl wb L t ws) (h0 : 0 < ws.length) (K : Kinds w m) (hmc : m ≠ c) :
    Calls Tryz.prog 73 #[.pointer (some ⟨c, 0, none⟩), .map (some m)] w fun e w' => But c w w' ∧ ((¬ nodeOk ws ∧ e = Wrong t) ∨
      (nodeOk ws ∧ ∃ a cap F xs, e = .returned (.agg #[.int .i64 (nD ws).op, .int .i64 (nD ws).a, .int .i64 (nD ws).b, .int .i64 (nD ws).k, .int .i64 (nD ws).s, .slice a (vw ws).length cap]) ∧ OutF w' w.heap.size (.slice a (vw ws).length cap) (vw ws).length (wd (vw ws)) F xs ∧ Rdr w' c bl wb L t [])) := by
  match ws, h0, h with
  | x :: r, _, h =>
    by_cases hx : ∃ kd, isKd kd ∧ kd.word = x
    · obtain ⟨kd, hk, rfl⟩ := hx
      refine (takeNode_k kd hk c bl wb t m L r w h K hmc).mono ?_
      rintro e w' ⟨B, ⟨hno, he⟩ | ⟨ho, a, cap, F, xs, he, O, R⟩⟩
      · refine ⟨B, Or.inl ⟨fun hn => ?_, he⟩⟩
        obtain ⟨kd', hk', e1, ho'⟩ := hn.head
        have e2 : kd.word = kd'.word := by simpa using e1
        exact hno (by rw [hk.one hk' e2] at ho' ⊢; exact ho')
      · have e1 := kdOf_eq hk ho
        have e2 : vw (kd.word :: r) = r.drop kd.fs.length := by
          unfold vw
          rw [e1, Nat.add_comm, List.drop_succ_cons]
        refine ⟨B, Or.inr ⟨⟨kd, hk, ho⟩, a, cap, F, xs, ?_, ?_, R⟩⟩
        · rw [e2]
          unfold nD
          rw [e1]
          exact he
        · rw [e2]; exact O
    · refine (takeNode_no c bl wb t m L x r w h K hmc (fun kd hk e => hx ⟨kd, hk, e⟩)).mono ?_
      rintro e w' ⟨B, he⟩
      refine ⟨B, Or.inl ⟨fun hn => ?_, he⟩⟩
      obtain ⟨kd', hk', e1, -⟩ := hn.head
      exact hx ⟨kd', hk', by simpa using e1.symm⟩

theorem lnsF_gt {t : Nat} {L : List ByteArray} {r : Nat × List ByteArray} (h : r ∈ lnsF t L) : t < r.1 := by
  induction L generalizing t with
  | nil => simp [lnsF] at h
  | cons x xs ih =>
    rw [lnsF] at h
    split at h
    · have := ih h; omega
    · rcases List.mem_cons.1 h with rfl | h
      · simp
      · have := ih h; omega

theorem infoNode : ∃ i, Tryz.prog.info? 64 = some i ∧ i.zero = some (.agg #[.int .i64 0, .int .i64 0, .int .i64 0, .int .i64 0, .int .i64 0, .slice none 0 0]) ∧ i.size = 6 ∧ i.bytes = 64 := by
  have h : (Tryz.prog.info? 64).map (fun i => (i.zero, i.size, i.bytes)) = some (some (.agg #[.int .i64 0, .int .i64 0, .int .i64 0, .int .i64 0, .int .i64 0, .slice none 0 0]), 6, 64) := by kernel_rfl
  obtain ⟨i, hi, h⟩ := Option.map_eq_some_iff.1 h
  simp only [Prod.mk.injEq] at h
  exact ⟨i, hi, h.1, h.2.1, h.2.2⟩
theorem newN (w : World) (x y z u v r : Value) (t : TypeId) : ∀ j q, ([x, y, z, u, v, r] : List Value)[j]? = some q → (w.alloc (.cells #[x, y, z, u, v, r] t)).cell? ((⟨w.heap.size, 0, none⟩ : Addr).add j) = some q := fun j q hu => by
  rw [Go.WideShapes.add_plain, Nat.zero_add]
  have B := Box6.new w x y z u v r t
  rcases j with _ | _ | _ | _ | _ | _ | j
  · simp at hu; subst hu; exact B.c0
  · simp at hu; subst hu; exact B.c1
  · simp at hu; subst hu; exact B.c2
  · simp at hu; subst hu; exact B.c3
  · simp at hu; subst hu; exact B.c4
  · simp at hu; subst hu; exact B.c5
  · simp at hu
theorem oneN (a b c d e : Int) (x : Option Addr) (n k : Nat) : ∀ u ∈ ([.int .i64 a, .int .i64 b, .int .i64 c, .int .i64 d, .int .i64 e, .slice x n k] : List Value), u.oneCell' = true := by
  intro u hu
  simp at hu
  rcases hu with rfl | rfl | rfl | rfl | rfl | rfl <;> rfl
theorem size_graph : (Tryz.prog.info? 33).map (·.size) = some 6 := by kernel_rfl
theorem Box6.chg {w w' : World} {R : Nat → Prop} {d : Nat} {x y z u v t : Value} (h : Box6 w d x y z u v t) (k : Chg R w w') (hn : ¬ R d) : Box6 w' d x y z u v t := h.blk9 (k.block d h.lt hn)
theorem Kinds.chg {w w' : World} {R : Nat → Prop} {m : Nat} (h : Kinds w m) (k : Chg R w w') (hn : ¬ R m) : Kinds w' m := by
  unfold Kinds
  rw [k.block m h.lt hn]
  exact h

theorem But.chg2 {c d : Nat} {w w1 w2 : World} (h : But c w w1) (k : But2 c d w1 w2) (hd : w.heap.size ≤ d := by omega) : But c w w2 :=
  ⟨k.os.trans h.os, k.tape.trans h.tape, k.output.trans h.output, Nat.le_trans h.size k.size, fun q hq hn => (k.block q (Nat.lt_of_lt_of_le hq h.size) (fun e => by simp at hn; rcases e with e | e <;> omega)).trans (h.block q hq hn)⟩
theorem But.chg3 {c d lo : Nat} {w w1 w2 : World} (h : But c w w1) (k : Chg (fun q => q = c ∨ q = d ∨ lo ≤ q) w1 w2) (hd : w.heap.size ≤ d := by omega) (hl : w.heap.size ≤ lo := by omega) : But c w w2 :=
  ⟨k.os.trans h.os, k.tape.trans h.tape, k.output.trans h.output, Nat.le_trans h.size k.size, fun q hq hn => (k.block q (Nat.lt_of_lt_of_le hq h.size) (fun e => by simp at hn; rcases e with e | e | e <;> omega)).trans (h.block q hq hn)⟩

/-- The words of line number i. -/
def lw (ns : List (Nat × List ByteArray)) (i : Nat) : List ByteArray := (ns.getD i (0, [])).2
theorem lw_left {ns : List (Nat × List ByteArray)} {x : Nat × List ByteArray} {i : Nat} (h : i < ns.length) : lw (ns ++ [x]) i = lw ns i := by
  unfold lw
  rw [List.getD_eq_getElem?_getD, List.getD_eq_getElem?_getD, List.getElem?_append_left h]
theorem lw_right (ns : List (Nat × List ByteArray)) (x : Nat × List ByteArray) : lw (ns ++ [x]) ns.length = x.2 := by
  unfold lw
  rw [List.getD_eq_getElem?_getD, List.getElem?_append_right (Nat.le_refl _), Nat.sub_self]
  rfl

/-- The words of the sides. -/
def sL (bs : List (Nat × List ByteArray)) : List ByteArray := bs.map fun b => wd b.2 1
def sH (bs : List (Nat × List ByteArray)) : List ByteArray := bs.map fun b => wd b.2 2

/-- How takeGraph ends. -/
def GraE (w w' : World) (ls : List (Nat × List ByteArray)) (T : Nat) (e : Ending) : Prop :=
  (∃ p : Nat, BadAt ls p ∧ e = Wrong p) ∨ (EndBad ls ∧ e = Wrong ((T : Int) + 1)) ∨
  ∃ x1 x2 xo bs ns aL cL aH cH aN cN xL xH xN zs lo hi d, GoodS ls x1 x2 xo bs ns ∧ e = .returned (.agg #[.int .i64 (dv x1 x1.size : Nat), .int .i64 (dv x2 x2.size : Nat), .slice aL bs.length cL, .slice aH bs.length cH, .slice aN ns.length cN, .int .i64 (dv xo xo.size : Nat)]) ∧ w.heap.size ≤ lo ∧ lo ≤ hi ∧
    SideQ w' lo hi d (.slice aL bs.length cL) (.slice aH bs.length cH) (sL bs) (sH bs) xL xH ∧ OutN w' hi (.slice aN ns.length cN) ns.length (lw ns) xN zs ∧ ∃ hi', Apt hi hi' zs.flatten

set_option maxHeartbeats 12800000 in
set_option maxRecDepth 100000 in
theorem takeGraph_q (c bl wb t : Nat) (L ws0 : List ByteArray) (w : World) (h : Rdr w c bl wb L t ws0) :
    Calls Tryz.prog 35 #[.pointer (some ⟨c, 0, none⟩)] w fun e w' => But c w w' ∧ GraE w w' (lnsF t (L.drop t)) L.length e := by
  obtain ⟨i0, hi, hz0, hz1, hz2⟩ := infoNode
  have hcl := h.lt
  have hbl := h.lb
  have hll := h.ll
  obtain ⟨LS, hLS⟩ : ∃ LS, LS = lnsF t (L.drop t) := ⟨_, rfl⟩
  have HLS := hide hLS
  have HLL : Hid (LS.length ≤ L.length) := hide (by rw [hLS]; have := lnsF_len t (L.drop t); rw [List.length_drop] at this; omega)
  rw [← hLS]
  clear hLS
  have sA : w.Since w.heap.size ((w.alloc (.cells #[.int .i64 0, .int .i64 0, .slice none 0 0, .slice none 0 0, .slice none 0 0, .int .i64 0] 33)).alloc (.cells #[.int .i64 0, .int .i64 0, .slice none 0 0, .slice none 0 0, .slice none 0 0, .int .i64 0] 33)) := ((World.Since.refl _ _).alloc (Nat.le_refl _) _).alloc (by simp) _
  have sA1 : (w.alloc (.cells #[.int .i64 0, .int .i64 0, .slice none 0 0, .slice none 0 0, .slice none 0 0, .int .i64 0] 33)).Since (w.alloc (.cells #[.int .i64 0, .int .i64 0, .slice none 0 0, .slice none 0 0, .slice none 0 0, .int .i64 0] 33)).heap.size ((w.alloc (.cells #[.int .i64 0, .int .i64 0, .slice none 0 0, .slice none 0 0, .slice none 0 0, .int .i64 0] 33)).alloc (.cells #[.int .i64 0, .int .i64 0, .slice none 0 0, .slice none 0 0, .slice none 0 0, .int .i64 0] 33)) := (World.Since.refl _ _).alloc (Nat.le_refl _) _
  have b0 := (Box6.new w (.int .i64 0) (.int .i64 0) (.slice none 0 0) (.slice none 0 0) (.slice none 0 0) (.int .i64 0) 33).keep sA1
  have g0 := Box6.new (w.alloc (.cells #[.int .i64 0, .int .i64 0, .slice none 0 0, .slice none 0 0, .slice none 0 0, .int .i64 0] 33)) (.int .i64 0) (.int .i64 0) (.slice none 0 0) (.slice none 0 0) (.slice none 0 0) (.int .i64 0) 33
  rw [show (w.alloc (.cells #[.int .i64 0, .int .i64 0, .slice none 0 0, .slice none 0 0, .slice none 0 0, .int .i64 0] 33)).heap.size = w.heap.size + 1 by simp] at g0
  have ZA := hide (show ((w.alloc (.cells #[.int .i64 0, .int .i64 0, .slice none 0 0, .slice none 0 0, .slice none 0 0, .int .i64 0] 33)).alloc (.cells #[.int .i64 0, .int .i64 0, .slice none 0 0, .slice none 0 0, .slice none 0 0, .int .i64 0] 33)).heap.size = w.heap.size + 1 + 1 by simp)
  clear sA1
  go_enter Tryz.func35, Tryz.ntmps35
  go_wp2_with fail
  generalize (w.alloc (.cells #[.int .i64 0, .int .i64 0, .slice none 0 0, .slice none 0 0, .slice none 0 0, .int .i64 0] 33)).alloc (.cells #[.int .i64 0, .int .i64 0, .slice none 0 0, .slice none 0 0, .slice none 0 0, .int .i64 0] 33) = wA at *
  have CA : But c w wA := But.of sA
  refine (takeHead_q c bl wb t (w.heap.size + 1) L ws0 0 0 _ _ _ _ wA (h.keep sA) g0 (by omega) (by omega)).mono ?_
  rintro e w1 ⟨B1, ⟨e1, rfl⟩ | ⟨n0, l, rest1, e1, ⟨hno, rfl⟩ | ⟨x1, x2, wb1, rfl, i1, i2, rfl, R1, hw1, e2, g1⟩⟩⟩
  · have C1 : But c w w1 := CA.chg2 B1
    have HE : Hid (EndBad LS) := hide (by rw [HLS.out, e1]; exact ⟨AllMay.nil, fun x hx => by simp at hx⟩)
    clear e1
    unfold Wrong
    go_wp2
    exact ⟨rfl, C1, Or.inr (Or.inl ⟨HE.out, rfl⟩)⟩
  · have C1 : But c w w1 := CA.chg2 B1
    have HE : Hid (BadAt LS n0) := hide (by rw [HLS.out, e1]; exact ⟨[], l, rest1, rfl, AllMay.nil, fun hm => hno (may_head.1 hm)⟩)
    clear e1 hno
    unfold Wrong
    go_wp2
    exact ⟨rfl, C1, Or.inl ⟨n0, HE.out, rfl⟩⟩
  have C1 : But c w w1 := CA.chg2 B1
  have hzB1 := B1.size
  have hza := ZA.out
  have b1 := b0.chg B1 (by omega)
  have E1 : Hid (LS = (n0, [graphW, x1, x2]) :: lnsF n0 (L.drop n0)) := hide (by rw [HLS.out, e1, e2])
  have hI := isInt_lim i1
  obtain ⟨I, eI⟩ : ∃ I, dv x1 x1.size = I := ⟨_, rfl⟩
  obtain ⟨RD, eR⟩ : ∃ I, dv x2 x2.size = I := ⟨_, rfl⟩
  rw [eI] at hI g1
  rw [eR] at g1
  have EI := hide eI
  have ER := hide eR
  have I1 := hide i1
  have I2 := hide i2
  have c0 := g1.c0
  have O1 : SideO w1 (w.heap.size + 1 + 1) (w.heap.size + 1) (.slice none 0 0) (.slice none 0 0) [] [] [] [] := ⟨⟨⟨World.ownsRow_nil _ _ _ _, fun i hi => absurd hi (by simp)⟩, ⟨World.ownsRow_nil _ _ _ _, fun i hi => absurd hi (by simp)⟩, fun g e => by simp [Value.ownBlock] at e, by simp [Value.ownBlock], by simp [Value.ownBlock]⟩, Apt.nil _ _⟩
  clear e1 e2 eI eR i1 i2 B1 b0 g0
  go_wp2_with fail
  clear c0
  go_loopw [10] (fun i wr => ∃ (j nj wbj cL cH : Nat) (aL aH : Option Addr) (bs : List (Nat × List ByteArray)) (xL xH : List Value), j ≤ I ∧ i = .int .i64 (j : Int) ∧ But c w wr ∧ w.heap.size + 1 + 1 ≤ wr.heap.size ∧ Hid (Box6 wr w.heap.size (.int .i64 0) (.int .i64 0) (.slice none 0 0) (.slice none 0 0) (.slice none 0 0) (.int .i64 0)) ∧ Hid (Box6 wr (w.heap.size + 1) (.int .i64 (I : Int)) (.int .i64 (RD : Int)) (.slice aL j cL) (.slice aH j cH) (.slice none 0 0) (.int .i64 0)) ∧ Hid (SideO wr (w.heap.size + 1 + 1) (w.heap.size + 1) (.slice aL j cL) (.slice aH j cH) (sL bs) (sH bs) xL xH) ∧ Hid (Rdr wr c bl wbj L nj []) ∧ Hid (LS = (n0, [graphW, x1, x2]) :: (bs ++ lnsF nj (L.drop nj))) ∧ Hid (bs.length = j) ∧ Hid (BoxS bs)) (fun i _ => I - (intOf i).toNat)
  case atStart => exact ⟨0, n0, wb1, 0, 0, none, none, [], [], [], Nat.zero_le _, rfl, C1, by omega, hide b1, hide g1, hide O1, hide R1, E1, hide rfl, hide (fun b hb => by simp at hb)⟩
  case round =>
    clear C1 b1 g1 O1 R1 E1
    obtain ⟨j, nj, wbj, cL, cH, aL, aH, bs, xL, xH, hj, rfl, C, hzr, BX, GX, SO, RX, EL, HL, HB⟩ := hrel
    have HPRE : Hid (AllMay ((n0, [graphW, x1, x2]) :: bs)) := hide (by
      have := pre_may (n0 := n0) (ns := []) I1.out I2.out HB.out (fun x hx => by simp at hx) (by rw [HL.out, EI.out]; exact hj) (fun h => absurd rfl h)
      rw [List.append_nil] at this
      exact this)
    have HLP : Hid (∀ x, ((n0, [graphW, x1, x2]) :: bs).getLast? = some x → x.2.head? ≠ some outputW) := hide (by
      have := last_pre (n0 := n0) (x1 := x1) (x2 := x2) (ns := []) HB.out (fun x hx => by simp at hx)
      rw [List.append_nil] at this
      exact this)
    by_cases hlt : j < I
    · have hzj : (j : Int) < (I : Int) := by omega
      go_wp2_with fail
      refine (takeSide_q c bl wbj nj (w.heap.size + 1) (w.heap.size + 1 + 1) j j cL cH aL aH L [] _ _ (sL bs) (sH bs) xL xH _ _ wr RX.out GX.out SO.out (by unfold sL; rw [List.length_map]; exact HL.out) (by unfold sH; rw [List.length_map]; exact HL.out) (by omega) (by omega) (by omega) (by omega) (by omega) hzr (by omega) (by omega)).mono ?_
      rintro e w2 ⟨B2, ⟨e2, rfl⟩ | ⟨n2, l2, rest2, e2, ⟨hno, rfl⟩ | ⟨y1, y2, wb2, aL2, cL2, aH2, cH2, xL2, xH2, rfl, k1, k2, rfl, R2, hw2, e2', g2, SO2⟩⟩⟩
      · have C2 : But c w w2 := C.chg3 B2
        have HE : Hid (EndBad LS) := hide (by
          rw [EL.out, e2, List.append_nil]
          exact ⟨HPRE.out, HLP.out⟩)
        clear e2
        unfold Wrong
        go_wp2
        exact ⟨rfl, C2, Or.inr (Or.inl ⟨HE.out, rfl⟩)⟩
      · have C2 : But c w w2 := C.chg3 B2
        have HE : Hid (BadAt LS n2) := hide (by
          rw [EL.out, e2]
          exact ⟨(n0, [graphW, x1, x2]) :: bs, l2, rest2, rfl, HPRE.out, fun hm => hno ((may_box (by rw [HL.out, EI.out]; exact hlt)).1 hm)⟩)
        clear e2 hno
        unfold Wrong
        go_wp2
        exact ⟨rfl, C2, Or.inl ⟨n2, HE.out, rfl⟩⟩
      have C2 : But c w w2 := C.chg3 B2
      have z2 := B2.size
      have BX2 := hide (BX.out.chg B2 (by omega))
      have elL : (sL bs).length = j := by unfold sL; rw [List.length_map]; exact HL.out
      have elH : (sH bs).length = j := by unfold sH; rw [List.length_map]; exact HL.out
      rw [elL, elH] at g2 SO2
      have GX2 := hide g2
      have SO2' : Hid (SideO w2 (w.heap.size + 1 + 1) (w.heap.size + 1) (.slice aL2 (j + 1) cL2) (.slice aH2 (j + 1) cH2) (sL (bs ++ [(n2, [boxW, y1, y2])])) (sH (bs ++ [(n2, [boxW, y1, y2])])) xL2 xH2) := hide (by
        unfold sL sH at SO2 ⊢
        rw [List.map_append, List.map_append]
        exact SO2)
      have EL2 : Hid (LS = (n0, [graphW, x1, x2]) :: ((bs ++ [(n2, [boxW, y1, y2])]) ++ lnsF n2 (L.drop n2))) := hide (by rw [EL.out, e2, e2']; simp)
      have HL2 : Hid ((bs ++ [(n2, [boxW, y1, y2])]).length = j + 1) := hide (by simp; exact HL.out)
      have HB2 : Hid (BoxS (bs ++ [(n2, [boxW, y1, y2])])) := hide (fun b hb => by
        rcases List.mem_append.1 hb with hb | hb
        · exact HB.out b hb
        · simp at hb; subst hb; exact ⟨y1, y2, rfl, k1, k2⟩)
      have RX2 := hide R2
      have hzr2 : w.heap.size + 1 + 1 ≤ w2.heap.size := by omega
      clear e2 e2' R2 g2 SO2 B2 elL elH
      go_wp2
      go_roundw
      case rel => exact ⟨j + 1, n2, wb2, cL2, cH2, aL2, aH2, bs ++ [(n2, [boxW, y1, y2])], xL2, xH2, by omega, by go_num, C2, hzr2, BX2, GX2, SO2', RX2, EL2, HL2, HB2⟩
      case measure => simp [intOf]; omega
    · have e : j = I := by omega
      subst e
      have hzj : ¬ ((j : Int) < (j : Int)) := by omega
      go_wp2_with fail
      refine (allKinds_any wr).mono ?_
      rintro e w2 ⟨rfl, K2, s2⟩
      have C2 := C.since' s2
      have z2 := s2.size
      obtain ⟨H, hH⟩ : ∃ H, wr.heap.size = H := ⟨_, rfl⟩
      have SQ2 : Hid (SideQ w2 (w.heap.size + 1 + 1) H (w.heap.size + 1) (.slice aL j cL) (.slice aH j cH) (sL bs) (sH bs) xL xH) := hide (by rw [← hH]; exact SO.out.q.keep s2)
      have BX2 := BX.out.keep s2
      have GX2 := GX.out.keep s2
      have RX2 := RX.out.keep s2
      have hKl := K2.lt
      rw [hH] at K2 hKl z2 hzr ⊢
      have HKK := hide K2
      clear hH SO BX GX RX K2 s2
      go_wp2_with fail
      refine (needLine_q c bl wbj nj L [] w2 RX2).mono ?_
      rintro e w3 ⟨B3, ⟨e3, rfl⟩ | ⟨n3, l3, rest3, wb3, e3, rfl, R3, hw3, e3', hl3⟩⟩
      · have HE : Hid (EndBad LS) := hide (by
          rw [EL.out, e3, List.append_nil]
          exact ⟨HPRE.out, HLP.out⟩)
        clear e3
        unfold Wrong
        go_wp2
        exact ⟨rfl, C2.trans B3, Or.inr (Or.inl ⟨HE.out, rfl⟩)⟩
      have z3 := B3.size
      have C3 := C2.trans B3
      have BX3 := hide (BX2.but B3 (by omega))
      have GX3 := hide (GX2.but B3 (by omega))
      have SQ3 := hide (SQ2.out.chg B3.c (fun q e => by omega))
      have K3 := hide (HKK.out.but B3 (by omega))
      have EL3 : Hid (LS = ((n0, [graphW, x1, x2]) :: (bs ++ [])) ++ (n3, l3) :: lnsF n3 (L.drop n3)) := hide (by rw [EL.out, e3, e3']; simp)
      have O3 : Hid (OutN w3 H (.slice none 0 0) 0 (lw []) [] []) := hide ⟨rfl, World.ownsRow_nil _ _ _ _, fun i hi => absurd hi (by omega)⟩
      have R3' := hide R3
      have hH3 : H < w3.heap.size := by omega
      have hwb3 : H ≤ wb3 := by omega
      clear e3 e3' R3 BX2 GX2 RX2 SQ2 HKK
      go_wp2_with fail
      go_loopw [] (fun wr => ∃ (n wbk kN cN : Nat) (aN : Option Addr) (ws : List ByteArray) (ns : List (Nat × List ByteArray)) (xN : List Value) (zs : List (List Value)), But c w wr ∧ H < wr.heap.size ∧ H ≤ wbk ∧ 0 < ws.length ∧ Hid (Box6 wr w.heap.size (.int .i64 0) (.int .i64 0) (.slice none 0 0) (.slice none 0 0) (.slice none 0 0) (.int .i64 0)) ∧ Hid (Box6 wr (w.heap.size + 1) (.int .i64 (j : Int)) (.int .i64 (RD : Int)) (.slice aL j cL) (.slice aH j cH) (.slice aN kN cN) (.int .i64 0)) ∧ Hid (SideQ wr (w.heap.size + 1 + 1) H (w.heap.size + 1) (.slice aL j cL) (.slice aH j cH) (sL bs) (sH bs) xL xH) ∧ Hid (OutN wr H (.slice aN kN cN) kN (lw ns) xN zs) ∧ Hid (Apt H wr.heap.size zs.flatten) ∧ Hid (Kinds wr H) ∧ Hid (Rdr wr c bl wbk L n ws) ∧ Hid (∀ g, (Value.slice aN kN cN).ownBlock = some g → g ≠ wbk ∧ H < g) ∧ Hid (LS = ((n0, [graphW, x1, x2]) :: (bs ++ ns)) ++ (n, ws) :: lnsF n (L.drop n)) ∧ Hid (ns.length = kN) ∧ Hid (NodS ns)) (fun wr => L.length - (intOf ((wr.cell? ⟨c, 1, none⟩).getD undef)).toNat)
      case atStart => exact ⟨n3, wb3, 0, 0, none, l3, [], [], [], C3, hH3, hwb3, hl3, BX3, GX3, SQ3, O3, hide (Apt.nil _ _), K3, R3', hide (fun g e => by simp [Value.ownBlock] at e), EL3, hide rfl, hide (fun x hx => by simp at hx)⟩
      case round =>
        clear C3 hH3 hwb3 hl3 BX3 GX3 SQ3 O3 K3 R3' EL3 z3 B3 C C2
        obtain ⟨n, wbk, kN, cN, aN, ws, ns, xN, zs, C, hHr, hHw, hws, BX, GX, SQ, ON, AP, KX, RX, HG, EL2, HKN, HNS⟩ := hrel
        have HPRE : Hid (AllMay ((n0, [graphW, x1, x2]) :: (bs ++ ns))) := hide (pre_may I1.out I2.out HB.out HNS.out (by rw [HL.out, EI.out]; exact Nat.le_refl _) (fun _ => by rw [HL.out, EI.out]))
        have HLP := hide (last_pre (n0 := n0) (x1 := x1) (x2 := x2) HB.out HNS.out)
        have HNJ : Hid (¬ (bs ++ ns).length < dv x1 x1.size) := hide (by rw [List.length_append, HL.out, EI.out]; omega)
        have hkN : kN ≤ 100001 := by
          have h9 := congrArg List.length EL2.out
          rw [List.length_append, List.length_cons, List.length_append, HKN.out] at h9
          have := HLL.out
          omega
        have hnL := RX.out.tl
        match ws, hws, RX, EL2 with
        | x :: r, _, RX, EL2 =>
        obtain ⟨vv, q2, av, offv, capv, rfl, hcapv, hcv⟩ := RX.out.c2
        obtain ⟨rfl, hx0⟩ := hcv 0 x rfl
        have hx0 : wr.cell? ⟨wbk, offv, none⟩ = some (.string x) := hx0
        have q2 : wr.cell? ⟨c, 2, none⟩ = some (.slice (some ⟨wbk, offv, none⟩) (r.length + 1) capv) := q2
        have hrl : (0 : Int) < (r.length : Int) + 1 := by omega
        clear hcv hcapv
        by_cases hx : x.toList = (⟨#[111, 117, 116, 112, 117, 116]⟩ : ByteArray).toList
        · have hx' : x.toList = [111, 117, 116, 112, 117, 116] := by rw [hx]; decide +kernel
          have hbe : (x.toList == (⟨#[111, 117, 116, 112, 117, 116]⟩ : ByteArray).toList) = true := by simpa using hx
          have hbe2 : (x.toList == [111, 117, 116, 112, 117, 116]) = true := by simpa using hx'
          have HX : Hid (x = outputW) := hide (str_eq.1 hx)
          clear hx
          go_wp2_with fail
          refine (takeThe_q outputW c bl wbk n L (x :: r) wr RX.out).mono ?_
          rintro e w4 ⟨B4, ⟨h4, -⟩ | ⟨r4, h4, rfl, R4⟩⟩
          · exact absurd (by rw [HX.out]) (h4 r)
          simp only [List.cons.injEq] at h4
          obtain ⟨-, rfl⟩ := h4
          clear q2 hx0
          go_wp2_with fail
          refine (takeInt_q c bl wbk n L r w4 R4).mono ?_
          rintro e w5 ⟨B5, ⟨h5, rfl⟩ | ⟨xo, r5, h5, io, rfl, R5⟩⟩
          · have HE : Hid (BadAt LS n) := hide ⟨_, _, _, EL2.out, HPRE.out, fun hm => by
              rcases (may_rest HNJ.out HLP.out).1 hm with hq | hq
              · exact hq.nout (by rw [HX.out]; rfl)
              · obtain ⟨y, e, jy⟩ := shape_out.1 hq
                simp only [List.cons.injEq] at e
                exact h5 y [] e.2 jy⟩
            have C5 := (C.trans B4).trans B5
            clear h5
            unfold Wrong
            go_wp2
            exact ⟨rfl, C5, Or.inl ⟨n, HE.out, rfl⟩⟩
          subst h5
          have g5 := (GX.out.but B4 (by omega)).but B5 (by omega)
          obtain ⟨V, hV⟩ : ∃ V, dv xo xo.size = V := ⟨_, rfl⟩
          rw [hV]
          have HV := hide hV
          have IXO := hide io
          have m5 := g5.c5
          have f5 := g5.f 5
          have BS : But (w.heap.size + 1) w5 (w5.setCell ⟨w.heap.size + 1, 5, none⟩ (.int .i64 (V : Int))) := (But.refl _ w5).set 5 _
          have g6 := g5.set5 (.int .i64 (V : Int))
          have R6 := R5.oth BS (by omega) (by omega) (by omega)
          have z4 := B4.size
          have z5 := B5.size
          have z6 := BS.size
          have C6 : But c w (w5.setCell ⟨w.heap.size + 1, 5, none⟩ (.int .i64 (V : Int))) := ((C.trans B4).trans B5).chg BS.c (fun q e => by omega)
          have SQ6 := hide (((SQ.out.chg B4.c (fun q e => by omega)).chg B5.c (fun q e => by omega)).chg BS.c (fun q e => by omega))
          have ON6 := hide (((ON.out.chg B4.c (fun q e => by omega)).chg B5.c (fun q e => by omega)).chg BS.c (fun q e => by omega))
          have BX6 := ((BX.out.but B4 (by omega)).but B5 (by omega)).but BS (by omega)
          clear hV io
          go_wp2_with fail
          generalize w5.setCell ⟨w.heap.size + 1, 5, none⟩ (.int .i64 (V : Int)) = w6 at *
          refine (endLine_q c bl wbk n L r5 w6 R6).mono ?_
          rintro e w7 ⟨rfl, ⟨h7, rfl⟩ | ⟨h7, rfl⟩⟩
          rotate_left
          · have HE : Hid (BadAt LS n) := hide ⟨_, _, _, EL2.out, HPRE.out, fun hm => by
              rcases (may_rest HNJ.out HLP.out).1 hm with hq | hq
              · exact hq.nout (by rw [HX.out]; rfl)
              · obtain ⟨y, e, jy⟩ := shape_out.1 hq
                simp only [List.cons.injEq] at e
                exact h7 e.2.2⟩
            clear h7
            unfold Wrong
            go_wp2
            exact ⟨rfl, C6, Or.inl ⟨n, HE.out, rfl⟩⟩
          subst h7
          have HGO : Hid (AllMay (((n0, [graphW, x1, x2]) :: (bs ++ ns)) ++ [(n, [x, xo])])) := hide (HPRE.out.snoc ((may_rest HNJ.out HLP.out).2 (Or.inr (shape_out.2 ⟨xo, by rw [HX.out], IXO.out⟩))))
          clear m5 f5
          go_wp2_with fail
          refine (endText_q c bl wbk n L [] w7 R6).mono ?_
          rintro e w8 ⟨B8, ⟨e8, rfl⟩ | ⟨n8, x8, r8, e8, rfl⟩⟩
          rotate_left
          · have HE : Hid (BadAt LS n8) := hide (by
              refine ⟨((n0, [graphW, x1, x2]) :: (bs ++ ns)) ++ [(n, [x, xo])], x8, r8, ?_, HGO.out, ?_⟩
              · rw [EL2.out, e8]; simp
              · rw [List.cons_append]
                exact may_end (by rw [List.length_append]; have := HNJ.out; omega) (by rw [HX.out]; rfl))
            clear e8
            unfold Wrong
            go_wp2
            exact ⟨rfl, C6.trans B8, Or.inl ⟨n8, HE.out, rfl⟩⟩
          have HGOOD : Hid (GoodS LS x1 x2 xo bs ns) := hide ⟨⟨n0, n, by rw [EL2.out, e8, HX.out]; simp⟩, I1.out, I2.out, IXO.out, by rw [HL.out, EI.out], HB.out, HNS.out⟩
          have g8 := g6.but B8 (by omega)
          have b8 := BX6.but B8 (by omega)
          have z8 := B8.size
          have SQ8 := hide (SQ6.out.chg B8.c (fun q e => by omega))
          have ON8 := hide (ON6.out.chg B8.c (fun q e => by omega))
          have C8 := C6.trans B8
          have m0 := g8.c0
          have m1 := g8.c1
          have m2 := g8.c2
          have m3 := g8.c3
          have m4 := g8.c4
          have m5 := g8.c5
          have k0 := b8.c0
          have k1 := b8.c1
          have k2 := b8.c2
          have k3 := b8.c3
          have k4 := b8.c4
          have k5 := b8.c5
          have l0 := b8.f 0
          have l1 := b8.f 1
          have l2 := b8.f 2
          have l3 := b8.f 3
          have l4 := b8.f 4
          have l5 := b8.f 5
          clear e8 SQ6 ON6 SQ ON
          go_wp2
          have rC := (((((b8.set0 (.int .i64 (j : Int))).set1 (.int .i64 (RD : Int))).set2 (.slice aL j cL)).set3 (.slice aH j cH)).set4 (.slice aN kN cN)).set5 (.int .i64 (V : Int))
          refine bodyPost_ret (results_box6T rfl Tryz.underlying33 rfl size_graph _ _ _ _ _ _ _ _ _ rfl rC) rfl ?_
          have M : Marked w8 _ w.heap.size := ((((((Marked.refl w8 _).setCell 0 (.int .i64 (j : Int))).setCell 1 (.int .i64 (RD : Int))).setCell 2 (.slice aL j cL)).setCell 3 (.slice aH j cH)).setCell 4 (.slice aN kN cN)).setCell 5 (.int .i64 (V : Int))
          have BT := ((((((But.refl w.heap.size w8).set 0 (.int .i64 (j : Int))).set 1 (.int .i64 (RD : Int))).set 2 (.slice aL j cL)).set 3 (.slice aH j cH)).set 4 (.slice aN kN cN)).set 5 (.int .i64 (V : Int))
          refine ⟨C8.marked M (Nat.le_refl _), Or.inr (Or.inr ⟨x1, x2, xo, bs, ns, aL, cL, aH, cH, aN, cN, xL, xH, xN, zs, w.heap.size + 1 + 1, H, w.heap.size + 1, HGOOD.out, ?_, by omega, hzr, ?_, ?_, _, AP.out⟩)⟩
          · rw [HL.out, HKN.out, HV.out, ER.out, EI.out]
          · rw [HL.out]
            exact SQ8.out.chg BT.c (fun q e => by omega)
          · rw [HKN.out]
            exact ON8.out.chg BT.c (fun q e => by omega)
        · have hx' : ¬ x.toList = [111, 117, 116, 112, 117, 116] := fun e => hx (by rw [e]; decide +kernel)
          have hbe : (x.toList == (⟨#[111, 117, 116, 112, 117, 116]⟩ : ByteArray).toList) = false := by simpa using hx
          have hbe2 : (x.toList == [111, 117, 116, 112, 117, 116]) = false := by simpa using hx'
          have HX : Hid (x ≠ outputW) := hide (fun e => hx (str_eq.2 e))
          clear hx
          have p4 := GX.out.c4
          by_cases hnd : nodeOk (x :: r)
          rotate_left
          · have JP : Calls Tryz.prog 73 #[.pointer (some ⟨c, 0, none⟩), .map (some H)] wr.drew fun e w' => But c wr w' ∧ e = Wrong n := by
              have dr : wr.Since wr.heap.size wr.drew := (World.Since.refl _ _).drew
              refine (takeNode_q c bl wbk n H L (x :: r) wr.drew (RX.out.keep dr) (by simp) (KX.out.keep dr) (by omega)).mono ?_
              rintro e w' ⟨Bq, ⟨-, he⟩ | ⟨hn, -⟩⟩
              · exact ⟨(But.of dr).trans Bq, he⟩
              · exact absurd hn hnd
            have HE : Hid (BadAt LS n) := hide ⟨_, _, _, EL2.out, HPRE.out, fun hm => by
              rcases (may_rest HNJ.out HLP.out).1 hm with hq | hq
              · exact hnd hq
              · obtain ⟨y, e, jy⟩ := shape_out.1 hq
                simp only [List.cons.injEq] at e
                exact HX.out e.1⟩
            clear hnd
            go_wp2_with fail
            refine wp_region_held_drew (S := fun w' => w'.cell? ⟨w.heap.size + 1, 4, none⟩ = some (.slice aN kN cN)) (by kernel_rfl) ?_ (fun hHeld => ?_)
            · simpa using p4
            refine take_at 0 (some 25) (.pointer (some ⟨w.heap.size + 1, 4, none⟩)) rfl (by kernel_rfl) (by kernel_rfl) (by kernel_rfl) (by kernel_rfl) (fun _ _ _ h => h) (by kernel_rfl) (by assumption) ?_ ?_
            · intro w' hSw
              try dsimp only at hSw
              go_simp
            simp only [Act.put, List.setIfInBounds_toArray, List.set_cons_zero, List.set_cons_succ]
            refine take_at 1 (some 26) (.slice aN kN cN) rfl (by kernel_rfl) (by kernel_rfl) (by kernel_rfl) (by kernel_rfl) (fun _ _ _ h => h) (by kernel_rfl) (by assumption) ?_ ?_
            · intro w' hSw
              try dsimp only at hSw
              go_simp
            simp only [Act.put, List.setIfInBounds_toArray, List.set_cons_zero, List.set_cons_succ]
            refine take_at 2 (some 27) (.pointer (some ⟨c, 0, none⟩)) rfl (by kernel_rfl) (by kernel_rfl) (by kernel_rfl) (by kernel_rfl) (fun _ _ _ h => h) (by kernel_rfl) (by assumption) ?_ ?_
            · intro w' hSw
              try dsimp only at hSw
              go_simp
            simp only [Act.put, List.setIfInBounds_toArray, List.set_cons_zero, List.set_cons_succ]
            refine take_at 3 (some 28) (.map (some H)) rfl (by kernel_rfl) (by kernel_rfl) (by kernel_rfl) (by kernel_rfl) (fun _ _ _ h => h) (by kernel_rfl) (by assumption) ?_ ?_
            · intro w' hSw
              try dsimp only at hSw
              go_simp
            simp only [Act.put, List.setIfInBounds_toArray, List.set_cons_zero, List.set_cons_succ]
            refine wpAnyH_ready (rs := [4]) (by kernel_rfl) (by simp) ?_
            refine AllReadyH.cons rfl (fun K hK => ?_) AllReadyH.nil
            go_simp
            refine JP.mono ?_
            rintro e w4 ⟨B4, rfl⟩
            unfold Wrong
            have C4 := C.trans B4
            clear JP
            go_wp2
            exact ⟨rfl, C4, Or.inl ⟨n, HE.out, rfl⟩⟩
          have dr : wr.Since wr.heap.size wr.drew := (World.Since.refl _ _).drew
          have HND := hide hnd
          have JO : Calls Tryz.prog 73 #[.pointer (some ⟨c, 0, none⟩), .map (some H)] wr.drew fun e w' => But c wr w' ∧ ∃ a cap F xs, e = .returned (.agg #[.int .i64 (nD (x :: r)).op, .int .i64 (nD (x :: r)).a, .int .i64 (nD (x :: r)).b, .int .i64 (nD (x :: r)).k, .int .i64 (nD (x :: r)).s, .slice a (vw (x :: r)).length cap]) ∧ OutF w' wr.heap.size (.slice a (vw (x :: r)).length cap) (vw (x :: r)).length (wd (vw (x :: r))) F xs ∧ Rdr w' c bl wbk L n [] := by
            refine (takeNode_q c bl wbk n H L (x :: r) wr.drew (RX.out.keep dr) (by simp) (KX.out.keep dr) (by omega)).mono ?_
            rintro e w' ⟨Bq, ⟨hn, -⟩ | ⟨-, a, cap, F, xs, he, hO, hR⟩⟩
            · exact absurd HND.out hn
            · exact ⟨(But.of dr).trans Bq, a, cap, F, xs, he, hO, hR⟩
          obtain ⟨zo, hzo⟩ : ∃ z, (nD (x :: r)).op = z := ⟨_, rfl⟩
          obtain ⟨za, hza'⟩ : ∃ z, (nD (x :: r)).a = z := ⟨_, rfl⟩
          obtain ⟨zb, hzb⟩ : ∃ z, (nD (x :: r)).b = z := ⟨_, rfl⟩
          obtain ⟨zk, hzk⟩ : ∃ z, (nD (x :: r)).k = z := ⟨_, rfl⟩
          obtain ⟨zs', hzs⟩ : ∃ z, (nD (x :: r)).s = z := ⟨_, rfl⟩
          obtain ⟨nv, hnv⟩ : ∃ z, (vw (x :: r)).length = z := ⟨_, rfl⟩
          rw [hzo, hza', hzb, hzk, hzs, hnv] at JO
          have HZ := hide (And.intro hzo (And.intro hza' (And.intro hzb (And.intro hzk (And.intro hzs hnv)))))
          clear hzo hza' hzb hzk hzs hnv hnd
          have own9 : ∀ g, (Value.slice aN kN cN).ownBlock = some g → H ≤ g ∧ g < wr.heap.size := fun g e => ON.out.own.lt g e
          have nod9 : (Value.slice aN kN cN).ownBlock ≠ some (w.heap.size + 1) := fun e => by have := own9 _ e; omega
          have p4' : wr.drew.cell? ⟨w.heap.size + 1, 4, none⟩ = some (.slice aN kN cN) := p4
          have f4 := GX.out.f 4
          go_upto_region 10 with fail
          go_cut [] (fun wx => ∃ (g5 c5 : Nat) (x5 : List Value) (z5 : List (List Value)), But c w wx ∧ H < wx.heap.size ∧ Hid (Box6 wx w.heap.size (.int .i64 0) (.int .i64 0) (.slice none 0 0) (.slice none 0 0) (.slice none 0 0) (.int .i64 0)) ∧ Hid (Box6 wx (w.heap.size + 1) (.int .i64 (j : Int)) (.int .i64 (RD : Int)) (.slice aL j cL) (.slice aH j cH) (.slice (some ⟨g5, 0, none⟩) (kN + 1) c5) (.int .i64 0)) ∧ Hid (SideQ wx (w.heap.size + 1 + 1) H (w.heap.size + 1) (.slice aL j cL) (.slice aH j cH) (sL bs) (sH bs) xL xH) ∧ Hid (OutN wx H (.slice (some ⟨g5, 0, none⟩) (kN + 1) c5) (kN + 1) (lw (ns ++ [(n, x :: r)])) x5 z5) ∧ Hid (Apt H wx.heap.size z5.flatten) ∧ Hid (Kinds wx H) ∧ Hid (Rdr wx c bl wbk L n []) ∧ g5 < wx.heap.size ∧ H < g5)
          case first =>
            go_region_law
              (first
                | (refine step_append_lies _ rfl _ _ 31 rfl H 64 i0 _ 6 64 Tryz.underlying31 hi hz0 hz1 hz2 rfl (by decide) _ kN xN rfl (O4.out.own.alloc _) ⟨w4.heap.size, 0, none⟩ 1 1 [.int .i64 zo, .int .i64 za, .int .i64 zb, .int .i64 zk, .int .i64 zs', .slice a4 nv c4] rfl rfl (newN _ _ _ _ _ _ _ _) (oneN _ _ _ _ _ _ _ _) (by decide) (by unfold maxLen; omega) (by omega) (by simp; omega) (w4.heap.size + 1) (by simp) ?_
                   intro g5 c5 w5 hown hgrow hat hlt5
                   have G5 := (G4.keep sW).blk9 (hgrow.block (w.heap.size + 1) (by simp; omega) (fun e => nod9 e.symm))
                   have r5 := G5.c4
                   have rf5 := G5.f 4)
                | (go_simp
                   go_at_call 73
                   with_reducible refine JO.mono ?_
                   rintro e w4 ⟨B4, a4, c4, F4, x4, rfl, OF4, R4⟩
                   have OF4' := hide OF4
                   have sW := (World.Since.refl w4.heap.size w4).alloc (Nat.le_refl _) (.cells #[.int .i64 zo, .int .i64 za, .int .i64 zb, .int .i64 zk, .int .i64 zs', .slice a4 nv c4] 64)
                   have G4 := GX.out.but B4 (by omega)
                   have t4 := G4.c4
                   have t4' := (G4.keep sW).c4
                   have O4 := hide (ON.out.chg B4.c (fun q e => by omega))
                   have z4 := B4.size
                   clear OF4))
            all_goals
              have zW : (w4.alloc (.cells #[.int .i64 zo, .int .i64 za, .int .i64 zb, .int .i64 zk, .int .i64 zs', .slice a4 nv c4] 64)).heap.size = w4.heap.size + 1 := by simp
              have z5 := hgrow.size
              obtain ⟨hzo, hza', hzb, hzk, hzs, hnv⟩ := HZ.out
              have hlk : lw (ns ++ [(n, x :: r)]) kN = x :: r := by rw [← HKN.out]; exact lw_right _ _
              have N5 : OutN w5 H (.slice (some ⟨g5, 0, none⟩) (kN + 1) c5) (kN + 1) (lw (ns ++ [(n, x :: r)])) (xN ++ [.int .i64 zo, .int .i64 za, .int .i64 zb, .int .i64 zk, .int .i64 zs', .slice a4 nv c4]) (zs ++ [.slice a4 nv c4 :: x4]) := by
                have h9 := (O4.out.congr (N' := lw (ns ++ [(n, x :: r)])) (fun i hi => (lw_left (by rw [HKN.out]; exact hi)).symm)).snoc (v' := .slice (some ⟨g5, 0, none⟩) (kN + 1) c5) (a := a4) (cap := c4) (xV := x4) sW (by omega) hgrow
                rw [hlk, hzo, hza', hzb, hzk, hzs, hnv] at h9
                refine h9 hown ?_ ?_ ?_
                · rcases hat with h8 | h8
                  · exact Or.inl h8.symm
                  · right; rw [zW, h8]; rfl
                · have h8 := OF4'.out.out
                  refine (h8.lower (Nat.zero_le _)).imp' (fun i q _ _ hq => ?_)
                  have := OF4'.out.lo
                  have := mono_le OF4'.out.mono (Nat.zero_le i)
                  exact ⟨by omega, fun e => by have := own9 q e; omega⟩
                · intro q e
                  have := OF4'.out.out.own.lt q e
                  exact ⟨by omega, fun e => by have := own9 q e; omega⟩
              have AP5 : Apt H w5.heap.size (zs ++ [.slice a4 nv c4 :: x4]).flatten := by
                rw [List.flatten_append, List.flatten_cons, List.flatten_nil, List.append_nil]
                have h8 : Apt wr.heap.size w4.heap.size (.slice a4 nv c4 :: x4) := by
                  have h7 := OF4'.out.apt
                  refine ⟨fun u hu g e => ?_, List.Pairwise.cons (fun u hu g e e' => ?_) h7.2⟩
                  · rcases List.mem_cons.1 hu with rfl | hu
                    · exact OF4'.out.out.own.lt g (eb_own e)
                    · exact h7.1 u hu g e
                  · obtain ⟨_, _, _, hv, _⟩ := OF4'.out.out.mem hu e'
                    exact hv (eb_own e)
                exact (AP.out.append h8 (Nat.le_refl _) (by omega) z4).wide (Nat.le_refl _) (by omega)
              have BS : But (w.heap.size + 1) w5 (w5.setCell ⟨w.heap.size + 1, 4, none⟩ (.slice (some ⟨g5, 0, none⟩) (kN + 1) c5)) := (But.refl _ w5).set 4 _
              have z6 := BS.size
              have CG := Chg.of_grown hgrow
              have N6 := hide (N5.chg BS.c (fun q e => by omega))
              have AP6 : Hid (Apt H (w5.setCell ⟨w.heap.size + 1, 4, none⟩ (.slice (some ⟨g5, 0, none⟩) (kN + 1) c5)).heap.size (zs ++ [.slice a4 nv c4 :: x4]).flatten) := hide (AP5.wide (Nat.le_refl _) z6)
              have G6 := hide (G5.set4 (.slice (some ⟨g5, 0, none⟩) (kN + 1) c5))
              have BX6 := hide ((((BX.out.but B4 (by omega)).keep sW).chg CG (fun e => by have := own9 _ e; omega)).but BS (by omega))
              have SQ6 := hide ((((SQ.out.chg B4.c (fun q e => by omega)).keep sW).chg CG (fun q e => by have := own9 q e; omega)).chg BS.c (fun q e => by omega))
              have K6 := hide ((((KX.out.but B4 (by omega)).keep sW).chg CG (fun e => by have := (HG.out _ e).2; omega)).but BS (by omega))
              have R6 := hide ((((R4.keep sW).chg CG (fun e => by have := own9 _ e; omega) (fun e => by have := own9 _ e; omega) (fun e => (HG.out _ e).1 rfl))).oth BS (by omega) (by omega) (by omega))
              have C6 : But c w (w5.setCell ⟨w.heap.size + 1, 4, none⟩ (.slice (some ⟨g5, 0, none⟩) (kN + 1) c5)) := (((C.trans B4).since' sW).chg CG (fun q e => by have := own9 q e; omega)).chg BS.c (fun q e => by omega)
              have hg5 : g5 < (w5.setCell ⟨w.heap.size + 1, 4, none⟩ (.slice (some ⟨g5, 0, none⟩) (kN + 1) c5)).heap.size := by omega
              have hg6 : H < g5 := by
                rcases hat with h8 | h8
                · exact (HG.out _ h8).2
                · omega
              have hH6 : H < (w5.setCell ⟨w.heap.size + 1, 4, none⟩ (.slice (some ⟨g5, 0, none⟩) (kN + 1) c5)).heap.size := by omega
              clear N5 AP5 BS CG hown hgrow hat hlk JO hzo hza' hzb hzk hzs hnv
              go_wp2_with fail
              go_meet
              case rel => exact ⟨g5, c5, _, _, C6, hH6, BX6, G6, SQ6, N6, AP6, K6, R6, hg5, hg6⟩
          case rest =>
          obtain ⟨g5, c5, x5, z5, C6, hH6, BX6, G6, SQ6, N6, AP6, K6, R6, hg5, hg6⟩ := hcut
          clear JO p4 p4' f4 q2 hx0 own9 nod9 BX GX SQ ON AP KX HG dr
          have HNS6 : Hid (NodS (ns ++ [(n, x :: r)])) := hide (fun y hy => by
            rcases List.mem_append.1 hy with hy | hy
            · exact HNS.out y hy
            · simp at hy; subst hy; exact HND.out)
          have HKN6 : Hid ((ns ++ [(n, x :: r)]).length = kN + 1) := hide (by simp; exact HKN.out)
          go_wp2_with fail
          refine (needLine_q c bl wbk n L [] wc R6.out).mono ?_
          rintro e w7 ⟨B7, ⟨e7, rfl⟩ | ⟨n7, l7, rest7, wb7, e7, rfl, R7, hw7, e7', hl7⟩⟩
          · have HE : Hid (EndBad LS) := hide (by
              have e9 : LS = (n0, [graphW, x1, x2]) :: (bs ++ (ns ++ [(n, x :: r)])) := by rw [EL2.out, e7]; simp
              rw [e9]
              exact ⟨pre_may I1.out I2.out HB.out HNS6.out (by rw [HL.out, EI.out]; exact Nat.le_refl _) (fun _ => by rw [HL.out, EI.out]), last_pre HB.out HNS6.out⟩)
            clear e7
            unfold Wrong
            go_wp2
            exact ⟨rfl, C6.trans B7, Or.inr (Or.inl ⟨HE.out, rfl⟩)⟩
          have z7 := B7.size
          have C7 := C6.trans B7
          have BX7 := hide (BX6.out.but B7 (by omega))
          have G7 := hide (G6.out.but B7 (by omega))
          have SQ7 := hide (SQ6.out.chg B7.c (fun q e => by omega))
          have N7 := hide (N6.out.chg B7.c (fun q e => by omega))
          have AP7 := hide (AP6.out.wide (Nat.le_refl _) z7)
          have K7 := hide (K6.out.but B7 (by omega))
          have EL7 : Hid (LS = ((n0, [graphW, x1, x2]) :: (bs ++ (ns ++ [(n, x :: r)]))) ++ (n7, l7) :: lnsF n7 (L.drop n7)) := hide (by rw [EL2.out, e7, e7']; simp)
          have hgt : n < n7 := lnsF_gt (t := n) (L := L.drop n) (r := (n7, l7)) (by rw [e7]; simp)
          have hn7 := R7.tl
          have HG7 : Hid (∀ g, (Value.slice (some ⟨g5, 0, none⟩) (kN + 1) c5).ownBlock = some g → g ≠ wb7 ∧ H < g) := hide (fun g e => by simp [Value.ownBlock] at e; omega)
          have HM1 := hide RX.out.c1
          have HM2 := hide R7.c1
          have R7' := hide R7
          clear e7 e7' R7 SQ6 N6 AP6 BX6 G6 K6 R6
          go_wp2
          go_roundw
          case rel => exact ⟨n7, wb7, kN + 1, c5, some ⟨g5, 0, none⟩, l7, ns ++ [(n, x :: r)], x5, z5, C7, by omega, by omega, hl7, BX7, G7, SQ7, N7, AP7, K7, R7', HG7, EL7, HKN6, HNS6⟩
          case measure => rw [HM1.out, HM2.out]; simp [intOf]; omega

end Go.Proofs.YtnogbaapcjjngaaGreatDoor
