import Derived.Test.YtnogbaapcjjngaaGreatDoorOwnP35
import Derived.Deep.RegionHeldLaw
import Derived.Deep.RegionLaw
set_option maxHeartbeats 6400000
set_option maxRecDepth 100000
namespace Go.Proofs.YtnogbaapcjjngaaGreatDoor
open Go.RowKit
theorem size_net : (Tryz.prog.info? 24).map (·.size) = some 1 := by kernel_rfl
theorem OutA.lower {w : World} {lo lo' k : Nat} {v : Value} {D : Nat -> MapD} {xs : List Value} {zs : List (List Value)} (h : OutA w lo v k D xs zs) (hl : lo' <= lo) : OutA w lo' v k D xs zs := by
 refine ⟨h.zl, ?_, fun i hi => ?_⟩
 . obtain ⟨e, h1 | ⟨g, cap, cur, e1, hb, r⟩⟩ := h.own
   . exact ⟨e, Or.inl h1⟩
   . exact ⟨e, Or.inr ⟨g, cap, cur, e1, Nat.le_trans hl hb, r⟩⟩
 . obtain ⟨vW, vB, xW, xB, h1, h2, h3, h4, h5, h6⟩ := h.at_ i hi
   exact ⟨vW, vB, xW, xB, h1, h2, h3, h4, h5.imp (fun q _ hq => ⟨Nat.le_trans hl hq.1, hq.2⟩), h6⟩
theorem infoAff : ∃ i, Tryz.prog.info? 74 = some i /\ i.zero = some (.agg #[.int .i64 0, .int .i64 0, .slice none 0 0, .slice none 0 0]) /\ i.size = 4 /\ i.bytes = 64 := by
 have h : (Tryz.prog.info? 74).map (fun i => (i.zero, i.size, i.bytes)) = some (some (.agg #[.int .i64 0, .int .i64 0, .slice none 0 0, .slice none 0 0]), 4, 64) := by kernel_rfl
 obtain ⟨i, hi, h⟩ := Option.map_eq_some_iff.1 h; simp only [Prod.mk.injEq] at h; exact ⟨i, hi, h.1, h.2.1, h.2.2⟩
theorem newA (w : World) (x y z u : Value) (t : TypeId) : ∀ j q, ([x, y, z, u] : List Value)[j]? = some q -> (w.alloc (.cells #[x, y, z, u] t)).cell? ((⟨w.heap.size, 0, none⟩ : Addr).add j) = some q := fun j q hu => by
 rw [Go.WideShapes.add_plain, Nat.zero_add]
 rcases j with _ | _ | _ | _ | j
 . simp at hu; subst hu; exact (Box4.new w x y z u t).c0
 . simp at hu; subst hu; exact (Box4.new w x y z u t).c1
 . simp at hu; subst hu; exact (Box4.new w x y z u t).c2
 . simp at hu; subst hu; exact (Box4.new w x y z u t).c3
 . simp at hu
theorem oneA (r s : Int) (a b : Option Addr) (n c m d : Nat) : ∀ u ∈ ([.int .i64 r, .int .i64 s, .slice a n c, .slice b m d] : List Value), u.oneCell' = true := by
 intro u hu
 simp at hu
 rcases hu with rfl | rfl | rfl | rfl <;> rfl
theorem Box1.but {w w' : World} {c d : Nat} {x : Value} (h : Box1 w d x) (s : But c w w') (hn : d ≠ c) : Box1 w' d x := by
 have k : w'.heap[d]? = w.heap[d]? := s.block d h.lt (by simpa using hn); refine ⟨(World.cell?_of_block (a := ⟨d, 0, none⟩) k).trans h.c0, fun j => ?_⟩; have := h.f j; unfold World.frozen? at this ⊢; rw [k]; exact this
theorem Box1.chg {w w' : World} {R : Nat -> Prop} {d : Nat} {x : Value} (h : Box1 w d x) (k : Chg R w w') (hn : ¬ R d) : Box1 w' d x := by
 have kd := k.block d h.lt hn; refine ⟨(World.cell?_of_block (a := ⟨d, 0, none⟩) kd).trans h.c0, fun j => ?_⟩; have := h.f j; unfold World.frozen? at this ⊢; rw [kd]; exact this
def mD (ms : List MapD) (i : Nat) : MapD := ms.getD i MapD.nul
theorem mD_left {ms : List MapD} {m : MapD} {i : Nat} (h : i < ms.length) : mD (ms ++ [m]) i = mD ms i := by
 unfold mD; simp only [List.getD_eq_getElem?_getD]; rw [List.getElem?_append_left h]
theorem mD_right (ms : List MapD) (m : MapD) : mD (ms ++ [m]) ms.length = m := by
 unfold mD; simp only [List.getD_eq_getElem?_getD]; rw [List.getElem?_append_right (Nat.le_refl _), Nat.sub_self]
 rfl
def NetE (w w' : World) (t : Nat) (L : List ByteArray) (e : Ending) : Prop :=
 ((∀ ms, ¬ NetS (lnsF t (L.drop t)) ms) /\ ∃ n, e = xx7 n) ∨
 ∃ ms v xs zs, NetS (lnsF t (L.drop t)) ms /\ e = .returned (.agg #[v]) /\ OutA w' w.heap.size v ms.length (mD ms) xs zs /\ ∃ hi, Apt w.heap.size hi zs.flatten
theorem takeNet_q (c bl wb t : Nat) (L ws : List ByteArray) (w : World) (h : Rdr w c bl wb L t ws) :
 Calls Tryz.prog 26 #[.pointer (some ⟨c, 0, none⟩)] w fun e w' => But c w w' /\ NetE w w' t L e := by
 obtain ⟨i0, hi, hz0, hz1, hz2⟩ := infoAff; have hcl := h.lt; have hbl := h.lb; have hll := h.ll; have sA := sal w (.cells #[.slice none 0 0] 24); have rA := Box1.new w (.slice none 0 0) 24; have ZA := hide (show (w.alloc (.cells #[.slice none 0 0] 24)).heap.size = w.heap.size + 1 by simp); go_enter Tryz.func26, Tryz.ntmps26; go_wp2_with fail; generalize w.alloc (.cells #[.slice none 0 0] 24) = wA at *; refine (needLine_q c bl wb t L ws wA (h.keep sA)).mono ?_; rintro e w1 ⟨B1, ⟨e1, rfl⟩ | ⟨n0, l, rest1, wb1, e1, rfl, R1, hw1, e2, hl0⟩⟩
 . have HNO : Hid (∀ ms, ¬ NetS (lnsF t (L.drop t)) ms) := hide (fun ms hm => by
    obtain ⟨_, _, _, e, _⟩ := hm; rw [e1] at e; cases e)
   clear e1; unfold xx7; go_wp2; exact ⟨rfl, (But.of sA).trans B1, Or.inl ⟨HNO.out, _, rfl⟩⟩
 have E1 := hide e1; have E2 := hide e2; have C1 : But c w w1 := (But.of sA).trans B1; have hd2 : w.heap.size ≠ c := by omega
 have r1 := rA.but B1 hd2; have z1 := B1.size; clear e1 e2; go_wp2_with fail; refine (takeThe_q netW c bl wb1 n0 L l w1 R1).mono ?_; rintro e w2 ⟨B2, ⟨h2, rfl⟩ | ⟨l1, h2, rfl, R2⟩⟩
 . have HNO : Hid (∀ ms, ¬ NetS (lnsF t (L.drop t)) ms) := hide (fun ms hm => by
    obtain ⟨_, _, _, e, _⟩ := hm; rw [E1.out] at e; simp only [List.cons.injEq, Prod.mk.injEq] at e; exact h2 _ e.1.2)
   clear h2; unfold xx7; go_wp2; exact ⟨rfl, C1.trans B2, Or.inl ⟨HNO.out, _, rfl⟩⟩
 subst h2; go_wp2_with fail; refine (takeInt_q c bl wb1 n0 L l1 w2 R2).mono ?_; rintro e w3 ⟨B3, ⟨h3, rfl⟩ | ⟨x1, l2, h3, i1, rfl, R3⟩⟩
 . have HNO : Hid (∀ ms, ¬ NetS (lnsF t (L.drop t)) ms) := hide (fun ms hm => by
    obtain ⟨_, _, _, e, j1, _⟩ := hm; rw [E1.out] at e; simp only [List.cons.injEq, Prod.mk.injEq, true_and] at e; exact h3 _ _ e.1.2 j1)
   clear h3; unfold xx7; go_wp2; exact ⟨rfl, (C1.trans B2).trans B3, Or.inl ⟨HNO.out, _, rfl⟩⟩
 subst h3; go_wp2_with fail; refine (endLine_q c bl wb1 n0 L l2 w3 R3).mono ?_; rintro e w5 ⟨rfl, ⟨h5, rfl⟩ | ⟨h5, rfl⟩⟩
 rotate_left
 . have HNO : Hid (∀ ms, ¬ NetS (lnsF t (L.drop t)) ms) := hide (fun ms hm => by
    obtain ⟨_, _, _, e, _⟩ := hm; rw [E1.out] at e; simp only [List.cons.injEq, Prod.mk.injEq, true_and] at e; exact h5 e.1.2.2)
   clear h5; unfold xx7; go_wp2; exact ⟨rfl, (C1.trans B2).trans B3, Or.inl ⟨HNO.out, _, rfl⟩⟩
 subst h5; have hK := xw7 i1; obtain ⟨K, eK⟩ : ∃ K, dv x1 x1.size = K := ⟨_, rfl⟩; rw [eK] at hK ⊢; have EK := hide eK; have I1 := hide i1; clear eK i1; have C5 : But c w w5 := (C1.trans B2).trans B3; have r5 := ((r1.but B2 hd2).but B3 hd2); have z2 := B2.size; have z3 := B3.size; have sB := sal w5 (.cells #[.slice none 0 0] 24); have bx := Box1.new w5 (.slice none 0 0) 24; have ZB := hide (show (w5.alloc (.cells #[.slice none 0 0] 24)).heap.size = w5.heap.size + 1 by simp); have CB := C5.since' sB; have RB := R3.keep sB; have rB := r5.keep sB; have hlo : w.heap.size + 1 <= w5.heap.size := by have := ZA.out; omega
 have hwd : wb1 < w5.heap.size := R3.lw; go_wp2_with fail; generalize w5.alloc (.cells #[.slice none 0 0] 24) = wB at *; generalize w5.heap.size = d4 at *; clear sB
 go_loopw [15] (fun i wr => ∃ (k nj wbj : Nat) (a : Option Addr) (m cap : Nat) (ms : List MapD) (xs : List Value) (zs : List (List Value)), k <= K /\ i = .int .i64 (k : Int) /\ But c w wr /\ d4 < wr.heap.size /\ Hid (Box1 wr w.heap.size (.slice none 0 0)) /\ Hid (Box1 wr d4 (.slice a m cap)) /\ Hid (OutA wr (d4 + 1) (.slice a m cap) ms.length (mD ms) xs zs) /\ Hid (Rdr wr c bl wbj L nj []) /\ wbj ≠ d4 /\ wbj ≠ w.heap.size /\ Hid (xk2 ms rest1 (lnsF nj (L.drop nj))) /\ Hid (ms.length = k) /\ Hid (Apt (d4 + 1) wr.heap.size zs.flatten)) (fun i _ => K - (intOf i).toNat)
 case atStart => exact ⟨0, n0, wb1, none, 0, 0, [], [], [], Nat.zero_le _, rfl, CB, by have := ZB.out; omega, hide rB, hide bx, hide ⟨rfl, World.ownsRow_nil _ _ _ _, fun i hi => absurd hi (by simp)⟩, hide RB, by omega, by have := ZA.out; omega, hide E2.out.symm, hide rfl, hide (Apt.nil _ _)⟩
 case round =>
  obtain ⟨k, nj, wbj, a, m, cap, ms, xs, zs, hk, rfl, CR, hzr, BR, BX, A, RD, hw4, hw2, EL, HL, HAP⟩ := hrel
  by_cases hlt : k < K
  . have hzk : (k : Int) < (K : Int) := by omega
    have b0 := BX.out.c0; have dr := sdr wr; have JM := takeMap_q c bl wbj nj L [] wr.drew (RD.out.keep dr)
    by_cases hM : ∃ (R C : Nat) (rs rest' : List (Nat × List ByteArray)), MapS (lnsF nj (L.drop nj)) R C rs rest'
    . obtain ⟨R, C, rs, rest', hm⟩ := hM
      have JO : Calls Tryz.prog 63 #[.pointer (some ⟨c, 0, none⟩)] wr.drew fun e w' => But c wr.drew w' /\ ∃ (vW vB : Value) (xW xB : List Value) (d wb n : Nat), e = .returned (.agg #[.int .i64 (R : Int), .int .i64 (C : Int), vW, vB]) /\ AffO w' wr.drew.heap.size d vW vB C rs xW xB /\ Rdr w' c bl wb L n [] /\ wr.drew.heap.size <= wb /\ lnsF n (L.drop n) = rest' /\ Apt wr.drew.heap.size w'.heap.size (xW ++ xB) := by
       refine JM.mono ?_; rintro e w' ⟨B, ⟨hno, -⟩ | ⟨R', C', rs', rest'', vW, vB, xW, xB, d, wb, n, hm', he, hA, hR, hw, hl, hap⟩⟩
       . exact absurd hm (hno _ _ _ _)
       . obtain ⟨rfl, rfl, rfl, rfl⟩ := hm.only hm'
         exact ⟨B, vW, vB, xW, xB, d, wb, n, he, hA, hR, hw, hl, hap⟩
      have HM := hide hm; have hkk : ms.length <= 1000000 := by rw [HL.out]; omega
      have oA : ∀ g, (Value.slice a m cap).ownBlock = some g -> d4 + 1 <= g /\ g < wr.heap.size := fun g e => A.out.own.lt g e
      have hd4c : d4 ≠ c := by omega
      have hno4 : (Value.slice a m cap).ownBlock ≠ some d4 := fun e => by have := oA d4 e; omega
      have b0' : wr.drew.cell? ⟨d4, 0, none⟩ = some (.slice a m cap) := b0; have f0 := BX.out.f 0; clear JM hm; go_wp2_with fail
      go_region_law
       (first
         | (refine step_append_lies _ rfl _ _ 22 rfl (d4 + 1) 74 i0 _ 4 64 Tryz.underlying22 hi hz0 hz1 hz2 rfl (by decide) _ ms.length xs rfl (O2.own.alloc _) ⟨w2.heap.size, 0, none⟩ 1 1 [.int .i64 (R : Int), .int .i64 (C : Int), .slice aW mW cW, .slice aB mB cB] rfl rfl (newA _ _ _ _ _ _) (oneA _ _ _ _ _ _ _ _) (by decide) (by unfold maxLen; omega) (by omega) (by simp; omega) (w2.heap.size + 1) (by simp) ?_
            intro g' cap' w3 hown hgrow hat hlt3; have sW := sal w2 (.cells #[.int .i64 (R : Int), .int .i64 (C : Int), .slice aW mW cW, .slice aB mB cB] 74); have BX3 := (BX2.keep sW).chg (Chg.of_grown hgrow) hno4; have p3 := BX3.c0; have f3 := BX3.f 0)
         | (go_simp
            go_at_call 63; with_reducible refine JO.mono ?_
            rintro e w2 ⟨B2, vW, vB, xW, xB, dd, wb2, n2, rfl, A2, R2, hw2', e2, ap2⟩
            obtain ⟨aW, mW, cW, eW⟩ : ∃ a m cc, vW = .slice a m cc := by
             obtain ⟨-, ⟨e, -⟩ | ⟨g', cap', cur, e, -⟩⟩ := A2.W.own
             . exact ⟨_, _, _, e⟩
             . exact ⟨_, _, _, e⟩
            obtain ⟨aB, mB, cB, eB⟩ : ∃ a m cc, vB = .slice a m cc := by
             obtain ⟨-, ⟨e, -⟩ | ⟨g', cap', cur, e, -⟩⟩ := A2.B.own
             . exact ⟨_, _, _, e⟩
             . exact ⟨_, _, _, e⟩
            subst eW eB; have E2' := hide e2; have AP2 := hide (A2.apt ap2); clear ap2; have v2 : But c wr w2 := (But.of dr).trans B2; have BX2 := BX.out.but v2 hd4c; have p0 := BX2.c0; have p0' := (BX2.keep ((World.Since.refl w2.heap.size w2).alloc (Nat.le_refl _) (.cells #[.int .i64 (R : Int), .int .i64 (C : Int), .slice aW mW cW, .slice aB mB cB] 74))).c0; have O2 := A.out.but v2 (by omega); have z2' := v2.size; clear e2))
      all_goals
       have zW : (w2.alloc (.cells #[.int .i64 (R : Int), .int .i64 (C : Int), .slice aW mW cW, .slice aB mB cB] 74)).heap.size = w2.heap.size + 1 := by simp
       have z3 := hgrow.size; have hz2w : wr.drew.heap.size = wr.heap.size := rfl
       have hat' : (Value.slice (some ⟨g', 0, none⟩) (ms.length + 1) cap').ownBlock = (Value.slice a m cap).ownBlock ∨ (Value.slice (some ⟨g', 0, none⟩) (ms.length + 1) cap').ownBlock = some (w2.alloc (.cells #[.int .i64 (R : Int), .int .i64 (C : Int), .slice aW mW cW, .slice aB mB cB] 74)).heap.size := by
        rcases hat with h9 | h9
        . exact Or.inl h9.symm
        . right; rw [zW, h9]; rfl
       have O3 := (O2.congr (D' := mD (ms ++ [⟨R, C, rs⟩])) (fun i hi => (mD_left hi).symm)).snoc sW (by omega) hgrow (by rw [mD_right]; exact hown) hat' (xW := xW) (xB := xB) (by
        rw [mD_right]; exact A2.x.imp (fun q hq hp => ⟨by omega, fun e => by have := oA q e; omega⟩))
       have BS : But d4 w3 (w3.setCell ⟨d4, 0, none⟩ (.slice (some ⟨g', 0, none⟩) (ms.length + 1) cap')) := (But.refl d4 w3).set 0 _; have HO4 := hide (O3.but BS (by omega)); have HBX4 : Hid (Box1 (w3.setCell ⟨d4, 0, none⟩ (.slice (some ⟨g', 0, none⟩) (ms.length + 1) cap')) d4 (.slice (some ⟨g', 0, none⟩) (ms.length + 1) cap')) := hide ⟨World.cell?_setCell_same _ _ _ p3, fun q => by simpa using BX3.f q⟩; have CG := Chg.of_grown hgrow; have nlo : ∀ q, q < d4 + 1 -> ¬ (Value.slice a m cap).ownBlock = some q := fun q hq e => by have := oA q e; omega
       have nhi : ∀ q, wr.heap.size <= q -> ¬ (Value.slice a m cap).ownBlock = some q := fun q hq e => by have := oA q e; omega
       have HBR4 := hide ((((BR.out.but v2 hd2).keep sW).chg CG (nlo _ (by omega))).but BS (by omega)); have HR4 := hide ((((R2.keep sW).chg CG (nlo c (by omega)) (nlo bl (by omega)) (nhi wb2 (by omega)))).oth BS (by omega) (by omega) (by omega)); have C4 : But c w (w3.setCell ⟨d4, 0, none⟩ (.slice (some ⟨g', 0, none⟩) (ms.length + 1) cap')) := (((CR.trans v2).since' sW).chg CG (fun q e => by have := oA q e; omega)).chg (R := fun q => q = d4) ⟨BS.os, BS.tape, BS.output, BS.size, fun q hq hn => BS.block q hq (by simpa using hn)⟩ (fun q e => by omega); have HM4 : Hid (xk2 (ms ++ [⟨R, C, rs⟩]) rest1 (lnsF n2 (L.drop n2))) := hide (by rw [E2'.out]; exact EL.out.snoc (m := ⟨R, C, rs⟩) HM.out); have HL4 : Hid ((ms ++ [(⟨R, C, rs⟩ : MapD)]).length = k + 1) := hide (by simp; exact HL.out); have z4 : d4 < (w3.setCell ⟨d4, 0, none⟩ (.slice (some ⟨g', 0, none⟩) (ms.length + 1) cap')).heap.size := by have := BS.size; omega
       have HO5 : Hid (OutA (w3.setCell ⟨d4, 0, none⟩ (.slice (some ⟨g', 0, none⟩) (ms.length + 1) cap')) (d4 + 1) (.slice (some ⟨g', 0, none⟩) (ms.length + 1) cap') (ms ++ [(⟨R, C, rs⟩ : MapD)]).length (mD (ms ++ [⟨R, C, rs⟩])) _ (zs ++ [Value.slice aW mW cW :: Value.slice aB mB cB :: (xW ++ xB)])) := hide (by rw [show (ms ++ [(⟨R, C, rs⟩ : MapD)]).length = ms.length + 1 by simp]; exact HO4.out)
       have HAP4 : Hid (Apt (d4 + 1) (w3.setCell ⟨d4, 0, none⟩ (.slice (some ⟨g', 0, none⟩) (ms.length + 1) cap')).heap.size (zs ++ [Value.slice aW mW cW :: Value.slice aB mB cB :: (xW ++ xB)]).flatten) := hide (by
        rw [List.flatten_append, List.flatten_cons, List.flatten_nil, List.append_nil]; have hsz := BS.size; exact HAP.out.append (AP2.out.wide (Nat.le_refl _) (show w2.heap.size <= _ by omega)) (by omega) (by omega) (by omega))
       clear hown hgrow hat hat' O3 CG BS JO O2 A2 R2 p0 p0' p3 f3; go_wp2; go_roundw
       case rel => exact ⟨k + 1, n2, wb2, _, _, _, ms ++ [⟨R, C, rs⟩], _, _, by omega, by go_num, C4, z4, HBR4, HBX4, HO5, HR4, by omega, by omega, HM4, HL4, HAP4⟩
       case measure => simp [intOf]; omega
    . have JP : Calls Tryz.prog 63 #[.pointer (some ⟨c, 0, none⟩)] wr.drew fun e w' => But c wr.drew w' /\ ∃ n, e = xx7 n := by
       refine JM.mono ?_; rintro e w' ⟨B, ⟨-, he⟩ | ⟨R, C, rs, rest', _, _, _, _, _, _, _, hm, -⟩⟩
       . exact ⟨B, he⟩
       . exact absurd ⟨R, C, rs, rest', hm⟩ hM
      have HNO : Hid (∀ ms, ¬ NetS (lnsF t (L.drop t)) ms) := hide (fun ms' hm => by
       obtain ⟨n0', x1', r', e, _, hl', hms⟩ := hm; rw [E1.out] at e; simp only [List.cons.injEq, Prod.mk.injEq, and_true, true_and] at e; obtain ⟨⟨-, rfl⟩, rfl⟩ := e; obtain ⟨mm, q, hq⟩ := EL.out.next hms (by rw [HL.out, hl', EK.out]; exact hlt); exact hM ⟨_, _, _, _, hq⟩)
      clear JM hM; go_wp2_with fail; refine wp_region_held_drew (S := fun w' => w'.cell? ⟨d4, 0, none⟩ = some (.slice a m cap)) (by kernel_rfl) ?_ (fun hHeld => ?_)
      . simpa using b0
      refine wpAnyH_take (i := 0) (v := .pointer (some ⟨d4, 0, none⟩)) rfl (by kernel_rfl) (by kernel_rfl) (by kernel_rfl) (fun _ _ _ h => h) (Or.inl ⟨by rfl, fun w hSw => ?_⟩) (by assumption) ?_
      . try dsimp only at hSw
        go_simp
      try simp only [Act.put, List.setIfInBounds_toArray]
      refine wpAnyH_take (i := 1) (v := .slice a m cap) rfl (by kernel_rfl) (by kernel_rfl) (by kernel_rfl) (fun _ _ _ h => h) (Or.inl ⟨by rfl, fun w hSw => ?_⟩) (by assumption) ?_
      . try dsimp only at hSw
        go_simp
      try simp only [Act.put]
      refine wpAnyH_take (i := 2) (v := .pointer (some ⟨c, 0, none⟩)) rfl (by kernel_rfl) (by kernel_rfl) (by kernel_rfl) (fun _ _ _ h => h) (Or.inl ⟨by rfl, fun w hSw => ?_⟩) (by assumption) ?_
      . try dsimp only at hSw
        go_simp
      try simp only [Act.put]
      refine wpAnyH_ready (rs := [3]) (by kernel_rfl) (by simp) ?_; refine AllReadyH.cons rfl (fun K hK => ?_) AllReadyH.nil; go_simp; refine JP.mono ?_; rintro e w2 ⟨B2, nn, rfl⟩; unfold xx7; have C2 : But c w w2 := (CR.trans (But.of dr)).trans B2; clear JP; go_wp2; exact ⟨rfl, C2, Or.inl ⟨HNO.out, _, rfl⟩⟩
  . have e : k = K := by omega
    subst e; have hzk : ¬ ((k : Int) < (k : Int)) := by omega
    go_wp2_with fail; refine (endText_q c bl wbj nj L [] wr RD.out).mono ?_; rintro e w6 ⟨B6, ⟨e6, rfl⟩ | ⟨n6, x6, r6, e6, rfl⟩⟩
    rotate_left
    . have HNO : Hid (∀ ms, ¬ NetS (lnsF t (L.drop t)) ms) := hide (fun ms' hm => by
       obtain ⟨n0', x1', r', e, _, hl', hms⟩ := hm; rw [E1.out] at e; simp only [List.cons.injEq, Prod.mk.injEq, and_true, true_and] at e; obtain ⟨⟨-, rfl⟩, rfl⟩ := e; have := (EL.out.only hms (by rw [HL.out, hl', EK.out])).2; rw [e6] at this; cases this)
      clear e6; unfold xx7; go_wp2; exact ⟨rfl, CR.trans B6, Or.inl ⟨HNO.out, _, rfl⟩⟩
    have HNS : Hid (NetS (lnsF t (L.drop t)) ms) := hide ⟨n0, x1, rest1, E1.out, I1.out, by rw [HL.out, EK.out], by have := EL.out; rw [e6] at this; exact this⟩; clear e6; have hd4c : d4 ≠ c := by omega
    have b0 := (BX.out.but B6 hd4c).c0; have BR6 := BR.out.but B6 hd2; have u0 := BR6.c0; have uf0 := BR6.f 0; go_wp2; have rC : Box1 (w6.setCell ⟨w.heap.size, 0, none⟩ (.slice a m cap)) w.heap.size (.slice a m cap) := ⟨World.cell?_setCell_same _ _ _ u0, fun q => by simpa using BR6.f q⟩; refine bodyPost_ret (results_box1T rfl Tryz.underlying24 rfl size_net _ _ _ _ rfl rC) rfl ?_; have BS : But w.heap.size w6 (w6.setCell ⟨w.heap.size, 0, none⟩ (.slice a m cap)) := (But.refl _ w6).set 0 _; have O6 := (A.out.but B6 (by omega)).but BS (by omega); refine ⟨(CR.trans B6).chg (R := fun q => q = w.heap.size) ⟨BS.os, BS.tape, BS.output, BS.size, fun q hq hn => BS.block q hq (by simpa using hn)⟩ (fun q e => by omega), Or.inr ⟨ms, _, xs, zs, HNS.out, rfl, O6.lower (by omega), _, HAP.out.wide (by omega) (Nat.le_refl _)⟩⟩
end Go.Proofs.YtnogbaapcjjngaaGreatDoor
