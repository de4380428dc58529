import Derived.Test.YtlpabmcebpppfaaGreatDoorOwnP24
import Derived.Test.YtlpabmcebpppfaaGreatDoorOwnP3
import Derived.Laws.OwnMore
import Derived.Deep.AppendLies
import Derived.Test.YtlpabmcebpppfaaGreatDoorOwnP21
import Derived.Test.YtlpabmcebpppfaaGreatDoorOwnP22
namespace Go.Proofs.YtlpabmcebpppfaaGreatDoor
open Go.RowKit

/-- What CheckGraph hands back: a list of its own, the code and the place. -/
def CkRet (e : Ending) (w : World) (lo : Nat) (g : GraphD) : Prop := ∃ n X c a ad cap b, e = .returned (.tuple #[.slice ad n cap, .int .i64 c, .int .i64 a]) ∧ Outc g n X c a ∧ Ints w ad b 0 n X ∧ (0 < n → lo ≤ b ∧ b < w.heap.size ∧ ∀ o, w.frozen? ⟨b, o, none⟩ = false)

theorem CkRet.none {w : World} {lo : Nat} {g : GraphD} {c a : Int} {ad : Option Addr} {cap : Nat} (h : Outc g 0 (fun _ => 0) c a) : CkRet (.returned (.tuple #[.slice ad 0 cap, .int .i64 c, .int .i64 a])) w lo g :=
  ⟨0, fun _ => 0, c, a, ad, cap, 0, rfl, h, fun j hj => absurd hj (by omega), fun h => absurd h (by omega)⟩

set_option maxHeartbeats 12800000 in
set_option maxRecDepth 100000 in
/-- impl.CheckGraph. -/
theorem implCheckGraph_any (g : GraphD) (aL aH aN : Option Addr) (lo kL kH kN : Nat) (w : World) (hw : 0 ≤ w.heap.size) (hT : Tab w) (hd : g.size ≤ 1048576) (H : GraL w lo g aL aH aN kL kH kN) :
    Calls Tryz.prog 51 #[.agg #[.int .i64 g.inn, .int .i64 g.rounds, .slice aL g.nl kL, .slice aH g.nh kH, .slice aN g.nn kN, .int .i64 g.out]] w fun e w' => CkRet e w' w.heap.size g ∧ w.Since w.heap.size w' := by
  obtain ⟨i0, hi, hz0, hz1, hz2⟩ := infoInt
  have ts := hd
  unfold GraphD.size at ts
  have sA : w.Since w.heap.size (w.alloc (.cells #[.int .i64 g.inn, .int .i64 g.rounds, .slice aL g.nl kL, .slice aH g.nh kH, .slice aN g.nn kN, .int .i64 g.out] 31)) := (World.Since.refl _ _).alloc (Nat.le_refl _) _
  have zA : (w.alloc (.cells #[.int .i64 g.inn, .int .i64 g.rounds, .slice aL g.nl kL, .slice aH g.nh kH, .slice aN g.nn kN, .int .i64 g.out] 31)).heap.size = w.heap.size + 1 := by simp
  have bA := Box6.new w (.int .i64 g.inn) (.int .i64 g.rounds) (.slice aL g.nl kL) (.slice aH g.nh kH) (.slice aN g.nn kN) (.int .i64 g.out) 31
  go_enter Tryz.func51, Tryz.ntmps51
  go_wp2_with fail
  generalize w.alloc (.cells #[.int .i64 g.inn, .int .i64 g.rounds, .slice aL g.nl kL, .slice aH g.nh kH, .slice aN g.nn kN, .int .i64 g.out] 31) = wA at *
  refine (headFits_any g aL aH aN lo kL kH kN wA (Nat.zero_le _) (hT.stay hw sA) hd (H.keep sA)).mono ?_
  rintro e w0 ⟨⟨r0, rfl, hr⟩, s0⟩
  have S0 := sA.trans (sinceMono s0 sA.size)
  have B0 := bA.keep s0
  have z0 := s0.size
  cases r0
  · have N := hide (show ¬ HeadP g from fun h => by have := hr.2 h; cases this)
    clear hr
    go_wp2
    go_ret3
    exact ⟨CkRet.none (.inl ⟨N.out, rfl, rfl, rfl⟩), S0⟩
  have P := hide (hr.1 rfl)
  clear hr
  obtain ⟨bL, oL, -, LL⟩ := H.LL
  obtain ⟨bH, oH, -, LH⟩ := H.LH
  obtain ⟨bN, oN, -, LN⟩ := H.LN
  have QL := LL.qs P.out.okL
  have QH := LH.qs P.out.okH
  have i1 := P.out.i1
  have i2 := P.out.i2
  have eL := P.out.l
  have eH := P.out.h
  obtain ⟨I, hI⟩ : ∃ I : Nat, g.inn = I := ⟨g.inn.toNat, by omega⟩
  have nlI : g.nl = I := by omega
  have nhI : g.nh = I := by omega
  have HnlI := hide nlI
  have HnhI := hide nhI
  have HhI := hide hI
  have qa0 := B0.c0
  rw [HhI.out] at qa0
  clear eL eH nlI nhI hI bA
  go_wp2_with fail
  go_loopw [17] (fun i wr => ∃ k : Nat, k ≤ I ∧ i = .int .i64 k ∧ w.Since w.heap.size wr ∧ w.heap.size < wr.heap.size ∧ Box6 wr w.heap.size (.int .i64 g.inn) (.int .i64 g.rounds) (.slice aL g.nl kL) (.slice aH g.nh kH) (.slice aN g.nn kN) (.int .i64 g.out) ∧ Hid (∀ j, j < k → ¬ boxBad g j)) (fun i _ => I - (intOf i).toNat)
  case atStart => exact ⟨0, Nat.zero_le _, rfl, S0, by omega, B0, hide (fun j hj => absurd hj (by omega))⟩
  case round =>
    obtain ⟨k, hk, rfl, s, hsz, B, NB⟩ := hrel
    by_cases hlt : k < I
    · obtain ⟨eaL, xl, yl, CL⟩ := QL k (by rw [HnlI.out]; exact hlt)
      obtain ⟨eaH, xh, yh, CH⟩ := QH k (by rw [HnhI.out]; exact hlt)
      subst eaL eaH
      have bl := ratD_qb (P.out.okL k (by rw [HnlI.out]; exact hlt)) (LL.lim k (by rw [HnlI.out]; exact hlt)) (by have := szR_at (R := g.Lo) (n := g.nl) (k := k) (by rw [HnlI.out]; exact hlt); omega)
      have bh := ratD_qb (P.out.okH k (by rw [HnhI.out]; exact hlt)) (LH.lim k (by rw [HnhI.out]; exact hlt)) (by have := szR_at (R := g.Hi) (n := g.nh) (k := k) (by rw [HnhI.out]; exact hlt); omega)
      obtain ⟨al, nl, cl, bbl, ml, dl, -, -, -, -, -, -, el, -⟩ := CL.R
      obtain ⟨ah, nh, ch, bbh, mh, dh, -, -, -, -, -, -, eh, -⟩ := CH.R
      simp only [Value.agg.injEq, Array.mk.injEq, List.cons.injEq, and_true, true_and] at el eh
      obtain ⟨rfl, rfl⟩ := el
      obtain ⟨rfl, rfl⟩ := eh
      have dr : wr.Since wr.heap.size wr.drew := (World.Since.refl _ _).drew
      have S1 : w.Since w.heap.size wr.drew := s.trans (sinceMono dr s.size)
      have J1 := orderOf_q bl bh (by omega) (CL.keep S1).R.read (CH.keep S1).R.read
      obtain ⟨c, hc⟩ : ∃ c, qcmp (g.Lo k).q (g.Hi k).q = c := ⟨_, rfl⟩
      rw [hc] at J1
      have HC := hide hc
      have C1 := CL.keep s
      have C2 := CH.keep s
      have q2 := B.c2
      have q3 := B.c3
      have g0 := C1.c0
      have g1 := C1.c1
      have g2 := C1.c2
      have h0 := C2.c0
      have h1 := C2.c1
      have h2 := C2.c2
      have hzI : (k : Int) < (I : Int) := by omega
      have hzl : (k : Int) < (g.nl : Int) := by rw [HnlI.out]; exact hzI
      have hzh : (k : Int) < (g.nh : Int) := by rw [HnhI.out]; exact hzI
      clear hc bl bh
      by_cases hb : 0 < c
      · have BB := hide (show boxBad g k by unfold boxBad; rw [HC.out]; exact hb)
        go_wp2_with fail
        go_region_held3 (fun w' => w'.cell? ⟨w.heap.size, 2, none⟩ = some (.slice (some ⟨bL, oL, none⟩) g.nl kL) ∧ w'.cell? ⟨w.heap.size, 3, none⟩ = some (.slice (some ⟨bH, oH, none⟩) g.nh kH) ∧ w'.cell? ⟨bL, oL + k * 3, none⟩ = some (.bool (qn (g.Lo k).q)) ∧ w'.cell? ⟨bL, oL + k * 3 + 1, none⟩ = some (.slice al nl cl) ∧ w'.cell? ⟨bL, oL + k * 3 + 2, none⟩ = some (.slice bbl ml dl) ∧
            w'.cell? ⟨bH, oH + k * 3, none⟩ = some (.bool (qn (g.Hi k).q)) ∧ w'.cell? ⟨bH, oH + k * 3 + 1, none⟩ = some (.slice ah nh ch) ∧ w'.cell? ⟨bH, oH + k * 3 + 2, none⟩ = some (.slice bbh mh dh)) (go_keep)
          (first
            | (go_at_call 85
               with_reducible refine J1.mono ?_
               rintro e w2 ⟨rfl, s2⟩
               have u2 : wr.Since wr.heap.size w2 := dr.trans (sinceMono s2 dr.size)
               have S2 : w.Since w.heap.size w2 := s.trans (sinceMono u2 s.size)
               have B2 := B.keep u2
               have j2 := B2.c2
               have j3 := B2.c3
               have k0 := (CL.keep S2).c0
               have k1 := (CL.keep S2).c1
               have k2 := (CL.keep S2).c2
               have l0 := (CH.keep S2).c0
               have l1 := (CH.keep S2).c1
               have l2 := (CH.keep S2).c2))
        all_goals go_wp2
        all_goals go_ret3
        exact ⟨CkRet.none (.inr (.inl ⟨P.out, k, by rw [HhI.out]; exact hzI, NB.out, BB.out, rfl, rfl, rfl⟩)), S2⟩
      · have BB := hide (show ¬ boxBad g k by unfold boxBad; rw [HC.out]; exact hb)
        go_wp2_with fail
        go_region_held3 (fun w' => w'.cell? ⟨w.heap.size, 2, none⟩ = some (.slice (some ⟨bL, oL, none⟩) g.nl kL) ∧ w'.cell? ⟨w.heap.size, 3, none⟩ = some (.slice (some ⟨bH, oH, none⟩) g.nh kH) ∧ w'.cell? ⟨bL, oL + k * 3, none⟩ = some (.bool (qn (g.Lo k).q)) ∧ w'.cell? ⟨bL, oL + k * 3 + 1, none⟩ = some (.slice al nl cl) ∧ w'.cell? ⟨bL, oL + k * 3 + 2, none⟩ = some (.slice bbl ml dl) ∧
            w'.cell? ⟨bH, oH + k * 3, none⟩ = some (.bool (qn (g.Hi k).q)) ∧ w'.cell? ⟨bH, oH + k * 3 + 1, none⟩ = some (.slice ah nh ch) ∧ w'.cell? ⟨bH, oH + k * 3 + 2, none⟩ = some (.slice bbh mh dh)) (go_keep)
          (first
            | (go_at_call 85
               with_reducible refine J1.mono ?_
               rintro e w2 ⟨rfl, s2⟩
               have u2 : wr.Since wr.heap.size w2 := dr.trans (sinceMono s2 dr.size)
               have S2 : w.Since w.heap.size w2 := s.trans (sinceMono u2 s.size)
               have B2 := B.keep u2
               have j2 := B2.c2
               have j3 := B2.c3
               have k0 := (CL.keep S2).c0
               have k1 := (CL.keep S2).c1
               have k2 := (CL.keep S2).c2
               have l0 := (CH.keep S2).c0
               have l1 := (CH.keep S2).c1
               have l2 := (CH.keep S2).c2))
        all_goals go_wp2
        all_goals go_roundw
        case rel => exact ⟨k + 1, by omega, by go_num, S2, Nat.lt_of_lt_of_le hsz u2.size, B2, hide (fun j hj => by
          by_cases e : j = k
          · subst e; exact BB.out
          · exact NB.out j (by omega))⟩
        case measure => simp [intOf]; omega
    have e : k = I := by omega
    subst e
    have BX := hide (show ∀ j : Nat, (j : Int) < g.inn → ¬ boxBad g j from fun j hj => NB.out j (by rw [HhI.out] at hj; omega))
    clear NB QL QH qa0
    go_wp2_with fail
    refine (allKinds_any wr).mono ?_
    rintro e w1 ⟨rfl, K1, s1⟩
    obtain ⟨m, hm⟩ : ∃ m, wr.heap.size = m := ⟨_, rfl⟩
    rw [hm] at K1 ⊢
    have HM := hide hm
    clear hm
    have S1 := s.trans (sinceMono s1 s.size)
    have B1 := B.keep s1
    have z1 := s1.size
    have zK := K1.lt
    have q0 := B1.c0
    have q4 := B1.c4
    have sB : w1.Since w1.heap.size (w1.alloc (.cells #[.int .i64 g.inn] 3)) := (World.Since.refl _ _).alloc (Nat.le_refl _) _
    have O1 : IntL (w1.alloc (.cells #[.int .i64 g.inn] 3)) w1.heap.size (.slice (some ⟨w1.heap.size, 0, none⟩) 1 1) 1 (dimA g 0) [.int .i64 g.inn] := ⟨World.ownsRow_lit w1 #[.int .i64 g.inn] 1 (Nat.le_refl _) (by decide) rfl, fun i hi => by
      have : i = 0 := by omega
      subst this; rfl⟩
    have q4' := (B1.keep sB).c4
    go_wp2_with fail
    have z2 : (w1.alloc (.cells #[.int .i64 g.inn] 3)).heap.size = w1.heap.size + 1 := by simp
    have S2 := S1.trans (sinceMono sB S1.size)
    have B2 := B1.keep sB
    have K2 := K1.keep sB
    generalize w1.alloc (.cells #[.int .i64 g.inn] 3) = w2 at *
    have hD0 := hide (show Dok (dimA g 0) 1 from fun j hj => by
      have : j = 0 := by omega
      subst this; exact ⟨i1, i2⟩)
    go_loopw [7, 41] (fun u i wr' => ∃ k : Nat, k ≤ g.nn ∧ i = .int .i64 k ∧ w.Since w.heap.size wr' ∧ w1.heap.size < wr'.heap.size ∧ Box6 wr' w.heap.size (.int .i64 g.inn) (.int .i64 g.rounds) (.slice aL g.nl kL) (.slice aH g.nh kH) (.slice aN g.nn kN) (.int .i64 g.out) ∧ Kinds wr' m ∧ Hid (∀ j, j < k → nc g j = 0) ∧ Hid (Dok (dimA g k) (k + 1)) ∧ ∃ gd cap xs, u = .slice (some ⟨gd, 0, none⟩) (k + 1) cap ∧ IntL wr' w1.heap.size (.slice (some ⟨gd, 0, none⟩) (k + 1) cap) (k + 1) (dimA g k) xs) (fun _ i _ => g.nn - (intOf i).toNat)
    case atStart => exact ⟨0, Nat.zero_le _, rfl, S2, by omega, B2, K2, hide (fun j hj => absurd hj (by omega)), hD0, w1.heap.size, 1, _, rfl, O1⟩
    case round =>
      obtain ⟨k, hk, rfl, s, hsz, B, K, NZ, HD, gd, cap, xs, rfl, O⟩ := hrel
      have q5 := B.c5
      have q4 := B.c4
      by_cases hlt : k < g.nn
      · obtain ⟨eaN, a1, k1, M⟩ := LN k hlt
        subst eaN
        have M' := M.keep s
        have g0 := M'.c0
        have g1 := M'.c1
        have g2 := M'.c2
        have g3 := M'.c3
        have g4 := M'.c4
        have g5 := M'.c5
        have hz : (k : Int) < (g.nn : Int) := by omega
        have hsN := szN_at (A := g.N) hlt
        have nn1000 := P.out.n
        have sC : wr.Since wr.heap.size (wr.alloc (.cells #[.int .i64 (g.N k).op, .int .i64 (g.N k).a, .int .i64 (g.N k).b, .int .i64 (g.N k).k, .int .i64 (g.N k).s, .slice a1 (g.N k).nv k1] 56)) := (World.Since.refl _ _).alloc (Nat.le_refl _) _
        go_wp2_with fail
        have u3 := s.trans (sinceMono sC s.size)
        generalize wr.alloc (.cells #[.int .i64 (g.N k).op, .int .i64 (g.N k).a, .int .i64 (g.N k).b, .int .i64 (g.N k).k, .int .i64 (g.N k).s, .slice a1 (g.N k).nv k1] 56) = w3 at *
        have O3 := O.keep sC
        have J := dimensionOf_any (g.N k) a1 lo k1 m (some ⟨gd, 0, none⟩) gd (k + 1) cap (dimA g k) w3 (Nat.zero_le _) (hT.stay hw u3) (K.keep sC) (by omega) (M.L.keep u3) O3.ints HD.out
        obtain ⟨cc, hcc⟩ : ∃ cc, nodeCode (dimA g k) (k + 1) (g.N k) = cc := ⟨_, rfl⟩
        obtain ⟨dd, hdd⟩ : ∃ dd, dimOr (dimA g k) (k + 1) (g.N k) = dd := ⟨_, rfl⟩
        rw [hcc, hdd] at J
        refine J.mono ?_
        rintro e w4 ⟨rfl, s4⟩
        have u4 : wr.Since wr.heap.size w4 := sC.trans (sinceMono s4 sC.size)
        have S4 := s.trans (sinceMono u4 s.size)
        have HCC := hide hcc
        have HDD := hide hdd
        clear hcc hdd J g0 g1 g2 g3 g4 g5 M'
        by_cases hc : cc = 0
        · have q : (cc != 0) = false := by simp [hc]
          have HC := hide hc
          clear hc
          have O4 := O.keep u4
          have z4 := u4.size
          go_wp2_with (at_builtin; refine wpList_append_own_at _ rfl _ _ 100 rfl w1.heap.size 3 i0 (.int .i64 0) 1 8 Tryz.underlying100 hi hz0 hz1 hz2 rfl (by decide) _ _ _ rfl (O4.own.alloc _) ⟨w4.heap.size, 0, none⟩ 1 1 [.int .i64 dd] rfl rfl (new_cell _ _ _) (one_one _ rfl) (by unfold maxLen; omega) (by omega) (by simp; omega) ?_)
          intro v' w5 hown' hgrow hnn hat
          obtain ⟨g', cap', rfl, hg1, hg2⟩ := hown'.form (by omega)
          have sW := (World.Since.refl w4.heap.size w4).alloc (Nat.le_refl _) (.cells #[.int .i64 dd] 3)
          have S5 : w.Since w.heap.size w5 := (S4.trans (sinceMono sW S4.size)).grown hgrow (by simp; have := S4.size; omega) (fun q hq => by have := (O4.own.lt q hq).1; have := S1.size; omega)
          have HN : Hid (nc g k = 0) := hide (HCC.out.trans HC.out)
          have B4 := (B.keep u4).keep sW
          have K4 := (K.keep u4).keep sW
          have hgb : ∀ q, q < w1.heap.size → w5.heap[q]? = (w4.alloc (.cells #[.int .i64 dd] 3)).heap[q]? := fun q hq => hgrow.block q (by simp; have := O4.own.lt _ (rfl : (Value.slice (some ⟨gd, 0, none⟩) (k + 1) cap).ownBlock = some gd); omega) (fun e => by have := (O4.own.lt q e.symm).1; omega)
          have z5 := hgrow.size
          clear hnn hat q
          go_wp2
          go_roundw
          case rel =>
            have zz : (w4.alloc (.cells #[.int .i64 dd] 3)).heap.size = w4.heap.size + 1 := by simp
            have hB : Box6 w5 w.heap.size (.int .i64 g.inn) (.int .i64 g.rounds) (.slice aL g.nl kL) (.slice aH g.nh kH) (.slice (some ⟨bN, oN, none⟩) g.nn kN) (.int .i64 g.out) := by
              have hl : w.heap.size < w1.heap.size := by have := B1.lt; omega
              exact ⟨(World.cell?_of_block (a := ⟨w.heap.size, 0, none⟩) (hgb _ hl)).trans B4.c0, (World.cell?_of_block (a := ⟨w.heap.size, 1, none⟩) (hgb _ hl)).trans B4.c1, (World.cell?_of_block (a := ⟨w.heap.size, 2, none⟩) (hgb _ hl)).trans B4.c2, (World.cell?_of_block (a := ⟨w.heap.size, 3, none⟩) (hgb _ hl)).trans B4.c3, (World.cell?_of_block (a := ⟨w.heap.size, 4, none⟩) (hgb _ hl)).trans B4.c4, (World.cell?_of_block (a := ⟨w.heap.size, 5, none⟩) (hgb _ hl)).trans B4.c5, fun o => by
                have := B4.f o
                unfold World.frozen? at this ⊢
                rw [hgb _ hl]; exact this⟩
            have hK : Kinds w5 m := by
              unfold Kinds
              rw [hgb m zK]
              exact K4
            have eD : dd = nodeDim (dimA g k) (g.N k) := by
              rw [← HDD.out]; unfold dimOr; rw [if_pos (HCC.out.trans HC.out)]
            have at2 : ∀ i, i < k + 1 → xs[i]? = some (.int .i64 (dimA g (k + 1) i)) := fun i hi => by rw [dimA_old g (by omega)]; exact O.at_ i hi
            refine ⟨k + 1, by omega, by go_num, S5, by omega, hB, hK, hide (fun j hj => ?_), hide (fun j hj => ?_), g', cap', _, rfl, IntL.snoc O.len at2 hown' (by rw [dimA_new, ← eD])⟩
            · by_cases e : j = k
              · subst e; exact HN.out
              · exact NZ.out j (by omega)
            · by_cases e : j = k + 1
              · subst e; rw [dimA_new]; exact dim_ok HD.out (HCC.out.trans HC.out)
              · rw [dimA_old g (by omega)]; exact HD.out j (by omega)
          case measure => simp [intOf]; omega
        · have q : (cc != 0) = true := by simp [hc]
          have HN : Hid (nc g k = cc) := hide HCC.out
          go_wp2
          go_ret3
          refine ⟨?_, S4⟩
          exact CkRet.none (.inr (.inr (.inl ⟨P.out, BX.out, k, hlt, NZ.out, by rw [HN.out]; exact hc, rfl, HN.out.symm, by go_num⟩)))
      have e : k = g.nn := by omega
      have HE := hide e
      have KZ := hide (show ∀ j, j < g.nn → nc g j = 0 from fun j hj => NZ.out j (by omega))
      clear e NZ
      by_cases ho : g.out < 0
      · go_wp2
        go_ret3
        exact ⟨CkRet.none (.inr (.inr (.inr (.inl ⟨P.out, BX.out, KZ.out, by omega, rfl, rfl, rfl⟩)))), s⟩
      by_cases ho2 : (g.nn : Int) < g.out
      · go_wp2
        go_ret3
        exact ⟨CkRet.none (.inr (.inr (.inr (.inl ⟨P.out, BX.out, KZ.out, by omega, rfl, rfl, rfl⟩)))), s⟩
      have hl := O.own.lt gd rfl
      go_wp2
      go_ret3
      refine ⟨⟨k + 1, dimA g k, 0, 0, some ⟨gd, 0, none⟩, cap, gd, rfl, .inr (.inr (.inr (.inr ⟨P.out, BX.out, KZ.out, ⟨by omega, by omega⟩, by rw [HE.out], fun j hj => by rw [HE.out], rfl, rfl⟩))), O.ints, fun _ => ⟨by have := S1.size; omega, hl.2, fun o => O.own.frozenAt o⟩⟩, s⟩

end Go.Proofs.YtlpabmcebpppfaaGreatDoor

namespace Go.Proofs.YtlpabmcebpppfaaGreatDoor
open Go.RowKit

/-- spec.l2NodeCode. -/
theorem l2NodeCode_any (g : GraphD) (d : NodeD) (aL aH : Option Addr) (lo kL kH kN bN oN : Nat) (a1 : Option Addr) (k1 i : Nat) (aD : Option Addr) (bD cD : Nat) (D : Nat → Int) (w : World) (hd : d.size ≤ 1048576) (M : NodM w lo bN (oN + i * 6) d a1 k1) (hi : i < g.nn) (hnn : g.nn ≤ 1000) (HD : Ints w aD bD 0 (i + 1) D) (hD : Dok D (i + 1)) :
    Calls Tryz.prog 80 #[.agg #[.int .i64 g.inn, .int .i64 g.rounds, .slice aL g.nl kL, .slice aH g.nh kH, .slice (some ⟨bN, oN, none⟩) g.nn kN, .int .i64 g.out], .slice aD (i + 1) cD, .int .i64 ((i + 1 : Nat) : Int)] w fun e w' => e = .returned (.int .i64 (nodeCode D (i + 1) d)) ∧ w.Since w.heap.size w' := by
  obtain ⟨op, a, b, k, s, nv, V⟩ := d
  by_cases h : op < 1 ∨ 7 < op
  · exact l2NodeCode_no g op a b k s nv V aL aH lo kL kH kN bN oN a1 k1 i aD cD D w h hd M hi hnn
  have hc : op = 1 ∨ op = 2 ∨ op = 3 ∨ op = 4 ∨ op = 5 ∨ op = 6 ∨ op = 7 := by omega
  clear h
  rcases hc with rfl | rfl | rfl | rfl | rfl | rfl | rfl
  · exact l2NodeCode1 g a b k s nv V aL aH lo kL kH kN bN oN a1 k1 i aD bD cD D w hd M hi hnn HD hD
  · exact l2NodeCode2 g a b k s nv V aL aH lo kL kH kN bN oN a1 k1 i aD bD cD D w hd M hi hnn HD hD
  · exact l2NodeCode3 g a b k s nv V aL aH lo kL kH kN bN oN a1 k1 i aD bD cD D w hd M hi hnn HD hD
  · exact l2NodeCode4 g a b k s nv V aL aH lo kL kH kN bN oN a1 k1 i aD bD cD D w hd M hi hnn HD hD
  · exact l2NodeCode5 g a b k s nv V aL aH lo kL kH kN bN oN a1 k1 i aD bD cD D w hd M hi hnn HD hD
  · exact l2NodeCode6 g a b k s nv V aL aH lo kL kH kN bN oN a1 k1 i aD bD cD D w hd M hi hnn HD hD
  · exact l2NodeCode7 g a b k s nv V aL aH lo kL kH kN bN oN a1 k1 i aD bD cD D w hd M hi hnn HD hD

set_option maxHeartbeats 12800000 in
set_option maxRecDepth 100000 in
/-- spec.CheckGraph. -/
theorem specCheckGraph_any (g : GraphD) (aL aH aN : Option Addr) (lo kL kH kN : Nat) (w : World) (hd : g.size ≤ 1048576) (H : GraL w lo g aL aH aN kL kH kN) :
    Calls Tryz.prog 45 #[.agg #[.int .i64 g.inn, .int .i64 g.rounds, .slice aL g.nl kL, .slice aH g.nh kH, .slice aN g.nn kN, .int .i64 g.out]] w fun e w' => CkRet e w' w.heap.size g ∧ w.Since w.heap.size w' := by
  obtain ⟨i0, hi, hz0, hz1, hz2⟩ := infoInt
  have ts := hd
  unfold GraphD.size at ts
  obtain ⟨wA, eA⟩ : ∃ wA : World, wA = (w.alloc (.cells #[.int .i64 g.inn, .int .i64 g.rounds, .slice aL g.nl kL, .slice aH g.nh kH, .slice aN g.nn kN, .int .i64 g.out] 31)).alloc (.cells #[] 3) := ⟨_, rfl⟩
  have sA : w.Since w.heap.size wA := by rw [eA]; exact ((World.Since.refl _ _).alloc (Nat.le_refl _) _).alloc (by simp) _
  have zA : wA.heap.size = w.heap.size + 1 + 1 := by rw [eA]; simp
  have bA : Box6 wA w.heap.size (.int .i64 g.inn) (.int .i64 g.rounds) (.slice aL g.nl kL) (.slice aH g.nh kH) (.slice aN g.nn kN) (.int .i64 g.out) := by rw [eA]; exact (Box6.new w _ _ _ _ _ _ _).keep ((World.Since.refl _ _).alloc (Nat.le_refl _) _)
  have EA := hide eA
  clear eA
  go_enter Tryz.func45, Tryz.ntmps45
  go_wp2_with fail
  rw [← EA.out]
  clear EA
  have q0 := bA.c0
  have q1 := bA.c1
  have q2 := bA.c2
  have q3 := bA.c3
  have q4 := bA.c4
  have q5 := bA.c5
  refine (l2In_any g.inn 1 1000 wA).mono ?_
  rintro e w1 ⟨⟨r, rfl, hr⟩, hw1⟩
  have hw2 := hw1.symm
  clear hw1
  subst hw2
  cases r
  · have N := hide (show ¬ HeadP g from fun h => by have := hr.2 (by unfold InP; have := h.i1; have := h.i2; omega); cases this)
    clear hr
    go_wp2
    go_ret3
    exact ⟨CkRet.none (.inl ⟨N.out, rfl, rfl, rfl⟩), sA⟩
  have I1 := hide (hr.1 rfl)
  clear hr
  go_wp2_with fail
  refine (l2In_any g.rounds 0 1000 wA).mono ?_
  rintro e w1 ⟨⟨r, rfl, hr⟩, hw1⟩
  have hw2 := hw1.symm
  clear hw1
  subst hw2
  cases r
  · have N := hide (show ¬ HeadP g from fun h => by have := hr.2 (by unfold InP; have := h.r0; have := h.r1; omega); cases this)
    clear hr
    go_wp2
    go_ret3
    exact ⟨CkRet.none (.inl ⟨N.out, rfl, rfl, rfl⟩), sA⟩
  have I2 := hide (hr.1 rfl)
  clear hr
  by_cases h7 : 1000 < g.nn
  · have q7 : (1000 : Int) < (g.nn : Int) := by omega
    go_wp2
    go_ret3
    exact ⟨CkRet.none (.inl ⟨fun h => by have := h.n; omega, rfl, rfl, rfl⟩), sA⟩
  have q7 : ¬ (1000 : Int) < (g.nn : Int) := by omega
  by_cases h5 : (g.nl : Int) = g.inn
  case neg =>
    have q5' : ((g.nl : Int) != g.inn) = true := by simp [h5]
    go_wp2
    go_ret3
    exact ⟨CkRet.none (.inl ⟨fun h => h5 h.l, rfl, rfl, rfl⟩), sA⟩
  have q5' : ((g.nl : Int) != g.inn) = false := by simp [h5]
  have H5 := hide h5
  clear h5
  by_cases h6 : (g.nh : Int) = g.inn
  case neg =>
    have q6 : ((g.nh : Int) != g.inn) = true := by simp [h6]
    go_wp2
    go_ret3
    exact ⟨CkRet.none (.inl ⟨fun h => h6 h.h, rfl, rfl, rfl⟩), sA⟩
  have q6 : ((g.nh : Int) != g.inn) = false := by simp [h6]
  have H6 := hide h6
  clear h6
  obtain ⟨bL, oL, -, LL⟩ := H.LL
  obtain ⟨bH, oH, -, LH⟩ := H.LH
  obtain ⟨bN, oN, -, LN⟩ := H.LN
  have J1 := l1AllOk_any aL lo bL oL g.nl kL g.Lo wA (by omega) (by omega) (LL.keep sA)
  go_wp2_with fail
  refine J1.mono ?_
  rintro e w1 ⟨r, rfl, hr, s1⟩
  have S1 := sA.trans (sinceMono s1 sA.size)
  have B1 := bA.keep s1
  have z1 := s1.size
  cases r
  · have N := hide (show ¬ HeadP g from fun h => by have := hr.2 h.okL; cases this)
    clear hr
    go_wp2
    go_ret3
    exact ⟨CkRet.none (.inl ⟨N.out, rfl, rfl, rfl⟩), S1⟩
  have OL := hide (hr.1 rfl)
  clear hr q0 q1 q2 q3 q4 q5 J1
  have q3 := B1.c3
  have J2 := l1AllOk_any aH lo bH oH g.nh kH g.Hi w1 (by omega) (by omega) (LH.keep S1)
  go_wp2_with fail
  refine J2.mono ?_
  rintro e w2 ⟨r, rfl, hr, s2⟩
  have S2 := S1.trans (sinceMono s2 S1.size)
  have B2 := B1.keep s2
  have z2 := s2.size
  cases r
  · have N := hide (show ¬ HeadP g from fun h => by have := hr.2 h.okH; cases this)
    clear hr
    go_wp2
    go_ret3
    exact ⟨CkRet.none (.inl ⟨N.out, rfl, rfl, rfl⟩), S2⟩
  have P : Hid (HeadP g) := hide ⟨I1.out.1, I1.out.2, I2.out.1, I2.out.2, H5.out, H6.out, by omega, OL.out, hr.1 rfl⟩
  clear hr q3 J2
  have QL := LL.qs P.out.okL
  have QH := LH.qs P.out.okH
  have i1 := P.out.i1
  have i2 := P.out.i2
  obtain ⟨I, hI⟩ : ∃ I : Nat, g.inn = I := ⟨g.inn.toNat, by omega⟩
  have HnlI := hide (show g.nl = I by have := H5.out; omega)
  have HnhI := hide (show g.nh = I by have := H6.out; omega)
  have HhI := hide hI
  clear hI q5' q6
  go_wp2_with fail
  go_loopw [6] (fun i wr => ∃ k : Nat, k ≤ I ∧ i = .int .i64 k ∧ w.Since w.heap.size wr ∧ w.heap.size < wr.heap.size ∧ Box6 wr w.heap.size (.int .i64 g.inn) (.int .i64 g.rounds) (.slice aL g.nl kL) (.slice aH g.nh kH) (.slice aN g.nn kN) (.int .i64 g.out) ∧ Hid (∀ j, j < k → ¬ boxBad g j)) (fun i _ => I - (intOf i).toNat)
  case atStart => exact ⟨0, Nat.zero_le _, rfl, S2, by omega, B2, hide (fun j hj => absurd hj (by omega))⟩
  case round =>
    obtain ⟨k, hk, rfl, s, hsz, B, NB⟩ := hrel
    have qa0 := B.c0
    rw [HhI.out] at qa0
    by_cases hlt : k < I
    · obtain ⟨eaL, xl, yl, CL⟩ := QL k (by rw [HnlI.out]; exact hlt)
      obtain ⟨eaH, xh, yh, CH⟩ := QH k (by rw [HnhI.out]; exact hlt)
      subst eaL eaH
      have bl := ratD_qb (P.out.okL k (by rw [HnlI.out]; exact hlt)) (LL.lim k (by rw [HnlI.out]; exact hlt)) (by have := szR_at (R := g.Lo) (n := g.nl) (k := k) (by rw [HnlI.out]; exact hlt); omega)
      have bh := ratD_qb (P.out.okH k (by rw [HnhI.out]; exact hlt)) (LH.lim k (by rw [HnhI.out]; exact hlt)) (by have := szR_at (R := g.Hi) (n := g.nh) (k := k) (by rw [HnhI.out]; exact hlt); omega)
      obtain ⟨al, nl, cl, bbl, ml, dl, -, -, -, -, -, -, el, -⟩ := CL.R
      obtain ⟨ah, nh, ch, bbh, mh, dh, -, -, -, -, -, -, eh, -⟩ := CH.R
      simp only [Value.agg.injEq, Array.mk.injEq, List.cons.injEq, and_true, true_and] at el eh
      obtain ⟨rfl, rfl⟩ := el
      obtain ⟨rfl, rfl⟩ := eh
      have dr : wr.Since wr.heap.size wr.drew := (World.Since.refl _ _).drew
      have S3 : w.Since w.heap.size wr.drew := s.trans (sinceMono dr s.size)
      have J1 := l1Cmp_q bl bh (by omega) (CL.keep S3).R.read (CH.keep S3).R.read
      obtain ⟨c, hc⟩ : ∃ c, qcmp (g.Lo k).q (g.Hi k).q = c := ⟨_, rfl⟩
      rw [hc] at J1
      have HC := hide hc
      have C1 := CL.keep s
      have C2 := CH.keep s
      have q2 := B.c2
      have q3 := B.c3
      have g0 := C1.c0
      have g1 := C1.c1
      have g2 := C1.c2
      have h0 := C2.c0
      have h1 := C2.c1
      have h2 := C2.c2
      have hzI : (k : Int) < (I : Int) := by omega
      have hzl : (k : Int) < (g.nl : Int) := by rw [HnlI.out]; exact hzI
      have hzh : (k : Int) < (g.nh : Int) := by rw [HnhI.out]; exact hzI
      clear hc bl bh
      by_cases hb : 0 < c
      · have BB := hide (show boxBad g k by unfold boxBad; rw [HC.out]; exact hb)
        go_wp2_with fail
        go_region_held3 (fun w' => w'.cell? ⟨w.heap.size, 2, none⟩ = some (.slice (some ⟨bL, oL, none⟩) g.nl kL) ∧ w'.cell? ⟨w.heap.size, 3, none⟩ = some (.slice (some ⟨bH, oH, none⟩) g.nh kH) ∧ w'.cell? ⟨bL, oL + k * 3, none⟩ = some (.bool (qn (g.Lo k).q)) ∧ w'.cell? ⟨bL, oL + k * 3 + 1, none⟩ = some (.slice al nl cl) ∧ w'.cell? ⟨bL, oL + k * 3 + 2, none⟩ = some (.slice bbl ml dl) ∧
            w'.cell? ⟨bH, oH + k * 3, none⟩ = some (.bool (qn (g.Hi k).q)) ∧ w'.cell? ⟨bH, oH + k * 3 + 1, none⟩ = some (.slice ah nh ch) ∧ w'.cell? ⟨bH, oH + k * 3 + 2, none⟩ = some (.slice bbh mh dh)) (go_keep)
          (first
            | (go_at_call 79
               with_reducible refine J1.mono ?_
               rintro e w3 ⟨rfl, s3⟩
               have u3 : wr.Since wr.heap.size w3 := dr.trans (sinceMono s3 dr.size)
               have S4 : w.Since w.heap.size w3 := s.trans (sinceMono u3 s.size)
               have B3 := B.keep u3
               have j2 := B3.c2
               have j3 := B3.c3
               have k0 := (CL.keep S4).c0
               have k1 := (CL.keep S4).c1
               have k2 := (CL.keep S4).c2
               have l0 := (CH.keep S4).c0
               have l1 := (CH.keep S4).c1
               have l2 := (CH.keep S4).c2))
        all_goals go_wp2
        all_goals go_ret3
        exact ⟨CkRet.none (.inr (.inl ⟨P.out, k, by rw [HhI.out]; exact hzI, NB.out, BB.out, rfl, rfl, rfl⟩)), S4⟩
      · have BB := hide (show ¬ boxBad g k by unfold boxBad; rw [HC.out]; exact hb)
        go_wp2_with fail
        go_region_held3 (fun w' => w'.cell? ⟨w.heap.size, 2, none⟩ = some (.slice (some ⟨bL, oL, none⟩) g.nl kL) ∧ w'.cell? ⟨w.heap.size, 3, none⟩ = some (.slice (some ⟨bH, oH, none⟩) g.nh kH) ∧ w'.cell? ⟨bL, oL + k * 3, none⟩ = some (.bool (qn (g.Lo k).q)) ∧ w'.cell? ⟨bL, oL + k * 3 + 1, none⟩ = some (.slice al nl cl) ∧ w'.cell? ⟨bL, oL + k * 3 + 2, none⟩ = some (.slice bbl ml dl) ∧
            w'.cell? ⟨bH, oH + k * 3, none⟩ = some (.bool (qn (g.Hi k).q)) ∧ w'.cell? ⟨bH, oH + k * 3 + 1, none⟩ = some (.slice ah nh ch) ∧ w'.cell? ⟨bH, oH + k * 3 + 2, none⟩ = some (.slice bbh mh dh)) (go_keep)
          (first
            | (go_at_call 79
               with_reducible refine J1.mono ?_
               rintro e w3 ⟨rfl, s3⟩
               have u3 : wr.Since wr.heap.size w3 := dr.trans (sinceMono s3 dr.size)
               have S4 : w.Since w.heap.size w3 := s.trans (sinceMono u3 s.size)
               have B3 := B.keep u3
               have j2 := B3.c2
               have j3 := B3.c3
               have k0 := (CL.keep S4).c0
               have k1 := (CL.keep S4).c1
               have k2 := (CL.keep S4).c2
               have l0 := (CH.keep S4).c0
               have l1 := (CH.keep S4).c1
               have l2 := (CH.keep S4).c2))
        all_goals go_wp2
        all_goals go_roundw
        case rel => exact ⟨k + 1, by omega, by go_num, S4, Nat.lt_of_lt_of_le hsz u3.size, B3, hide (fun j hj => by
          by_cases e : j = k
          · subst e; exact BB.out
          · exact NB.out j (by omega))⟩
        case measure => simp [intOf]; omega
    have e : k = I := by omega
    subst e
    have BX := hide (show ∀ j : Nat, (j : Int) < g.inn → ¬ boxBad g j from fun j hj => NB.out j (by rw [HhI.out] at hj; omega))
    have qb0 := B.c0
    clear NB QL QH
    have sB : wr.Since wr.heap.size (wr.alloc (.cells #[.int .i64 (k : Int)] 3)) := (World.Since.refl _ _).alloc (Nat.le_refl _) _
    have O1 : IntL (wr.alloc (.cells #[.int .i64 (k : Int)] 3)) wr.heap.size (.slice (some ⟨wr.heap.size, 0, none⟩) 1 1) 1 (dimA g 0) [.int .i64 (k : Int)] := ⟨World.ownsRow_lit wr #[.int .i64 (k : Int)] 1 (Nat.le_refl _) (by decide) rfl, fun i hi => by
      have : i = 0 := by omega
      subst this
      show some (Value.int .i64 (k : Int)) = some (.int .i64 g.inn)
      rw [HhI.out]⟩
    clear qb0
    go_wp2_with fail
    have z3 : (wr.alloc (.cells #[.int .i64 (k : Int)] 3)).heap.size = wr.heap.size + 1 := by simp
    have S3 := s.trans (sinceMono sB s.size)
    have B3 := B.keep sB
    obtain ⟨m, hm⟩ : ∃ m, wr.heap.size = m := ⟨_, rfl⟩
    generalize wr.alloc (.cells #[.int .i64 (k : Int)] 3) = w3 at *
    rw [hm] at O1 z3 hsz ⊢
    have hsz0 := hsz
    have HM := hide hm
    clear hm
    have hD0 := hide (show Dok (dimA g 0) 1 from fun j hj => by
      have : j = 0 := by omega
      subst this; exact ⟨i1, i2⟩)
    go_loopw [7, 8] (fun u i wr' => ∃ k : Nat, k ≤ g.nn ∧ i = .int .i64 ((k + 1 : Nat) : Int) ∧ w.Since w.heap.size wr' ∧ m < wr'.heap.size ∧ Box6 wr' w.heap.size (.int .i64 g.inn) (.int .i64 g.rounds) (.slice aL g.nl kL) (.slice aH g.nh kH) (.slice aN g.nn kN) (.int .i64 g.out) ∧ Hid (∀ j, j < k → nc g j = 0) ∧ Hid (Dok (dimA g k) (k + 1)) ∧ ∃ gd cap xs, u = .slice (some ⟨gd, 0, none⟩) (k + 1) cap ∧ IntL wr' m (.slice (some ⟨gd, 0, none⟩) (k + 1) cap) (k + 1) (dimA g k) xs) (fun _ i _ => g.nn + 1 - (intOf i).toNat)
    case atStart => exact ⟨0, Nat.zero_le _, rfl, S3, by omega, B3, hide (fun j hj => absurd hj (by omega)), hD0, m, 1, _, rfl, O1⟩
    case round =>
      obtain ⟨k, hk, rfl, s, hsz, B, NZ, HD, gd, cap, xs, rfl, O⟩ := hrel
      have q5 := B.c5
      have q4 := B.c4
      have nn1000 := P.out.n
      by_cases hlt : k < g.nn
      · obtain ⟨eaN, a1, k1, M⟩ := LN k hlt
        subst eaN
        have hsN := szN_at (A := g.N) hlt
        have q0 := B.c0
        have q1 := B.c1
        have q2 := B.c2
        have q3 := B.c3
        have hz : ((k + 1 : Nat) : Int) ≤ (g.nn : Int) := by omega
        have hzk : (k : Int) < (g.nn : Int) := by omega
        have J := l2NodeCode_any g (g.N k) aL aH lo kL kH kN bN oN a1 k1 k (some ⟨gd, 0, none⟩) gd cap (dimA g k) wr (by omega) (M.keep s) hlt nn1000 O.ints HD.out
        obtain ⟨cc, hcc⟩ : ∃ cc, nodeCode (dimA g k) (k + 1) (g.N k) = cc := ⟨_, rfl⟩
        rw [hcc] at J
        go_wp2_with fail
        refine J.mono ?_
        rintro e w4 ⟨rfl, s4⟩
        have S4 := s.trans (sinceMono s4 s.size)
        have HCC := hide hcc
        clear hcc J q0 q1 q2 q3
        by_cases hc : cc = 0
        · have q : (cc != 0) = false := by simp [hc]
          have HC := hide hc
          clear hc
          obtain ⟨F, G, SH⟩ := code_zero (HCC.out.trans HC.out)
          obtain ⟨j, hj⟩ : ∃ j : Nat, (g.N k).a = j := ⟨(g.N k).a.toNat, by have := G.1; omega⟩
          have hjn : j < k + 1 := by have := G.2.1; omega
          have hDj := HD.out j hjn
          obtain ⟨x, hx⟩ : ∃ x, dimA g k j = x := ⟨_, rfl⟩
          rw [hx] at hDj
          have d4 : w4.Since w4.heap.size w4.drew := (World.Since.refl _ _).drew
          have u5 : wr.Since wr.heap.size w4.drew := s4.trans (sinceMono d4 s4.size)
          have S5 := s.trans (sinceMono u5 s.size)
          have B5 := B.keep u5
          have M5 := M.keep S5
          obtain ⟨-, hx5⟩ := ((O.keep u5).ints) j hjn
          rw [Nat.zero_add, hx] at hx5
          have ea : (dimA g k) (g.N k).a.toNat = x := by rw [hj]; exact hx
          have JD := l2NodeDim_any (g.N k).op (j : Int) (g.N k).b (g.N k).k (g.N k).s x a1 (g.N k).nv k1 w4.drew hDj.1 hDj.2
            (fun h => by have f := F.k; rw [h] at f; exact f)
            (fun h => by
              have f := F.k
              have f2 := F.s
              rw [h] at f f2
              have f' : 1 ≤ (g.N k).k ∧ (g.N k).k ≤ 1000 := f
              have f2' : 1 ≤ (g.N k).s ∧ (g.N k).s ≤ 1000 := f2
              refine ⟨f'.1, ?_, f2'.1, f2'.2⟩
              by_cases hh : (g.N k).k > x
              · exfalso
                unfold shapeCode at SH
                rw [ea] at SH
                simp [h, hh] at SH
              · omega)
          obtain ⟨dd, hdd⟩ : ∃ dd, dimX (g.N k).op (g.N k).k (g.N k).s x = dd := ⟨_, rfl⟩
          rw [hdd] at JD
          have eD : Hid (dd = nodeDim (dimA g k) (g.N k)) := hide (by rw [← hdd]; unfold dimX nodeDim; rw [ea])
          have HN : Hid (nc g k = 0) := hide (HCC.out.trans HC.out)
          have hzj : (j : Int) < ((k + 1 : Nat) : Int) := by omega
          have ez : ((k + 1 : Nat) : Int) - 1 = (k : Int) := by omega
          have HJ := hide hj
          have HF := hide F
          have HG := hide G
          have HS := hide SH
          have HXX := hide hx
          have HEA := hide ea
          clear hdd F G SH ea hx
          have q4 := (B.keep s4).c4
          clear hj
          go_wp2_with fail
          refine wp_region_held_drew (S := fun w' => w'.cell? ⟨w.heap.size, 4, none⟩ = some (.slice (some ⟨bN, oN, none⟩) g.nn kN) ∧ w'.cell? ⟨bN, oN + k * 6, none⟩ = some (.int .i64 (g.N k).op) ∧ w'.cell? ⟨bN, oN + k * 6 + 1, none⟩ = some (.int .i64 (j : Int)) ∧ w'.cell? ⟨bN, oN + k * 6 + 2, none⟩ = some (.int .i64 (g.N k).b) ∧ w'.cell? ⟨bN, oN + k * 6 + 3, none⟩ = some (.int .i64 (g.N k).k) ∧ w'.cell? ⟨bN, oN + k * 6 + 4, none⟩ = some (.int .i64 (g.N k).s) ∧ w'.cell? ⟨bN, oN + k * 6 + 5, none⟩ = some (.slice a1 (g.N k).nv k1)) (by kernel_rfl) ⟨B5.c4, M5.c0, (by rw [← HJ.out]; exact M5.c1), M5.c2, M5.c3, M5.c4, M5.c5⟩ (fun hHeld => ?_)
          refine take_at 0 (some 94) (.slice (some ⟨gd, 0, none⟩) (k + 1) cap) rfl (by kernel_rfl) (by kernel_rfl) (by kernel_rfl) (by kernel_rfl) (fun _ _ _ h => h) (by kernel_rfl) (by assumption) ?_ ?_
          · intro w' hSw
            clear hSw
            kernel_rfl
          simp only [Act.put, List.setIfInBounds_toArray, List.set_cons_zero, List.set_cons_succ]
          refine take_at 1 (some 95) (.pointer (some ⟨w.heap.size, 4, none⟩)) rfl (by kernel_rfl) (by kernel_rfl) (by kernel_rfl) (by kernel_rfl) (fun _ _ _ h => h) (by kernel_rfl) (by assumption) ?_ ?_
          · intro w' hSw
            clear hSw
            kernel_rfl
          simp only [Act.put, List.setIfInBounds_toArray, List.set_cons_zero, List.set_cons_succ]
          refine take_at 2 (some 96) (.slice (some ⟨bN, oN, none⟩) g.nn kN) rfl (by kernel_rfl) (by kernel_rfl) (by kernel_rfl) (by kernel_rfl) (fun _ _ _ h => h) (by kernel_rfl) (by assumption) ?_ ?_
          · intro w' hSw
            try dsimp only at hSw
            go_simp
          simp only [Act.put, List.setIfInBounds_toArray, List.set_cons_zero, List.set_cons_succ]
          refine take_at 3 (some 97) (.int .i64 ((k + 1 : Nat) : Int)) rfl (by kernel_rfl) (by kernel_rfl) (by kernel_rfl) (by kernel_rfl) (fun _ _ _ h => h) (by kernel_rfl) (by assumption) ?_ ?_
          · intro w' hSw
            clear hSw
            kernel_rfl
          simp only [Act.put, List.setIfInBounds_toArray, List.set_cons_zero, List.set_cons_succ]
          refine take_at 4 (some 98) (.int .i64 (k : Int)) rfl (by kernel_rfl) (by kernel_rfl) (by kernel_rfl) (by kernel_rfl) (fun _ _ _ h => h) (by kernel_rfl) (by assumption) ?_ ?_
          · intro w' hSw
            try dsimp only at hSw
            go_simp
            rw [IntKind.wrap_i64]
            omega
          simp only [Act.put, List.setIfInBounds_toArray, List.set_cons_zero, List.set_cons_succ]
          refine take_at 5 (some 99) (.pointer (some ⟨bN, oN + k * 6, none⟩)) rfl (by kernel_rfl) (by kernel_rfl) (by kernel_rfl) (by kernel_rfl) (fun _ _ _ h => h) (by kernel_rfl) (by assumption) ?_ ?_
          · intro w' hSw
            try dsimp only at hSw
            go_simp
          simp only [Act.put, List.setIfInBounds_toArray, List.set_cons_zero, List.set_cons_succ]
          refine take_at 6 (some 100) (.agg #[.int .i64 (g.N k).op, .int .i64 (j : Int), .int .i64 (g.N k).b, .int .i64 (g.N k).k, .int .i64 (g.N k).s, .slice a1 (g.N k).nv k1]) rfl (by kernel_rfl) (by kernel_rfl) (by kernel_rfl) (by kernel_rfl) (fun _ _ _ h => h) (by kernel_rfl) (by assumption) ?_ ?_
          · intro w' hSw
            try dsimp only at hSw
            go_simp
          simp only [Act.put, List.setIfInBounds_toArray, List.set_cons_zero, List.set_cons_succ]
          refine take_at 7 (some 101) (.slice (some ⟨gd, 0, none⟩) (k + 1) cap) rfl (by kernel_rfl) (by kernel_rfl) (by kernel_rfl) (by kernel_rfl) (fun _ _ _ h => h) (by kernel_rfl) (by assumption) ?_ ?_
          · intro w' hSw
            clear hSw
            kernel_rfl
          simp only [Act.put, List.setIfInBounds_toArray, List.set_cons_zero, List.set_cons_succ]
          refine take_at 8 (some 102) (.pointer (some ⟨w.heap.size, 4, none⟩)) rfl (by kernel_rfl) (by kernel_rfl) (by kernel_rfl) (by kernel_rfl) (fun _ _ _ h => h) (by kernel_rfl) (by assumption) ?_ ?_
          · intro w' hSw
            clear hSw
            kernel_rfl
          simp only [Act.put, List.setIfInBounds_toArray, List.set_cons_zero, List.set_cons_succ]
          refine take_at 9 (some 103) (.slice (some ⟨bN, oN, none⟩) g.nn kN) rfl (by kernel_rfl) (by kernel_rfl) (by kernel_rfl) (by kernel_rfl) (fun _ _ _ h => h) (by kernel_rfl) (by assumption) ?_ ?_
          · intro w' hSw
            try dsimp only at hSw
            go_simp
          simp only [Act.put, List.setIfInBounds_toArray, List.set_cons_zero, List.set_cons_succ]
          refine take_at 10 (some 104) (.int .i64 ((k + 1 : Nat) : Int)) rfl (by kernel_rfl) (by kernel_rfl) (by kernel_rfl) (by kernel_rfl) (fun _ _ _ h => h) (by kernel_rfl) (by assumption) ?_ ?_
          · intro w' hSw
            clear hSw
            kernel_rfl
          simp only [Act.put, List.setIfInBounds_toArray, List.set_cons_zero, List.set_cons_succ]
          refine take_at 11 (some 105) (.int .i64 (k : Int)) rfl (by kernel_rfl) (by kernel_rfl) (by kernel_rfl) (by kernel_rfl) (fun _ _ _ h => h) (by kernel_rfl) (by assumption) ?_ ?_
          · intro w' hSw
            try dsimp only at hSw
            go_simp
            rw [IntKind.wrap_i64]
            omega
          simp only [Act.put, List.setIfInBounds_toArray, List.set_cons_zero, List.set_cons_succ]
          refine take_at 12 (some 106) (.pointer (some ⟨bN, oN + k * 6, none⟩)) rfl (by kernel_rfl) (by kernel_rfl) (by kernel_rfl) (by kernel_rfl) (fun _ _ _ h => h) (by kernel_rfl) (by assumption) ?_ ?_
          · intro w' hSw
            try dsimp only at hSw
            go_simp
          simp only [Act.put, List.setIfInBounds_toArray, List.set_cons_zero, List.set_cons_succ]
          refine take_at 13 (some 107) (.pointer (some ⟨bN, oN + k * 6 + 1, none⟩)) rfl (by kernel_rfl) (by kernel_rfl) (by kernel_rfl) (by kernel_rfl) (fun _ _ _ h => h) (by kernel_rfl) (by assumption) ?_ ?_
          · intro w' hSw
            try dsimp only at hSw
            go_simp
          simp only [Act.put, List.setIfInBounds_toArray, List.set_cons_zero, List.set_cons_succ]
          refine take_at 14 (some 108) (.int .i64 (j : Int)) rfl (by kernel_rfl) (by kernel_rfl) (by kernel_rfl) (by kernel_rfl) (fun _ _ _ h => h) (by kernel_rfl) (by assumption) ?_ ?_
          · intro w' hSw
            try dsimp only at hSw
            go_simp
          simp only [Act.put, List.setIfInBounds_toArray, List.set_cons_zero, List.set_cons_succ]
          refine take_at 15 (some 109) (.pointer (some ⟨gd, j, none⟩)) rfl (by kernel_rfl) (by kernel_rfl) (by kernel_rfl) (by kernel_rfl) (fun _ _ _ h => h) (by kernel_rfl) (by assumption) ?_ ?_
          · intro w' hSw
            try dsimp only at hSw
            go_simp
            intro h
            omega
          simp only [Act.put, List.setIfInBounds_toArray, List.set_cons_zero, List.set_cons_succ]
          refine wpAnyH_ready (rs := [16]) (by kernel_rfl) (by simp) ?_
          refine AllReadyH.cons rfl (fun K hK => ?_) AllReadyH.nil
          have lx := hx5
          go_simp
          clear lx
          refine hK.out _ _ ⟨B5.c4, M5.c0, (by rw [← HJ.out]; exact M5.c1), M5.c2, M5.c3, M5.c4, M5.c5⟩ (fun h1 => ?_)
          clear hK K hHeld
          refine wpAnyH_ready (rs := [17]) (by kernel_rfl) (by simp) ?_
          refine AllReadyH.cons rfl (fun K hK => ?_) AllReadyH.nil
          go_simp
          go_wp2_with (go_at_call 81; with_reducible refine JD.mono ?_; rintro e w6 ⟨rfl, s6⟩)
          have u6 : wr.Since wr.heap.size w6 := u5.trans (sinceMono s6 u5.size)
          have S6 := s.trans (sinceMono u6 s.size)
          have B6 := B.keep u6
          have M6 := M.keep S6
          have O6 := O.keep u6
          have z6 := u6.size
          refine hK.out _ _ ⟨B6.c4, M6.c0, (by rw [← HJ.out]; exact M6.c1), M6.c2, M6.c3, M6.c4, M6.c5⟩ (fun h2 => ?_)
          clear hK K h1
          refine wpAnyH_ready (rs := [18]) (by kernel_rfl) (by simp) ?_
          refine AllReadyH.cons rfl (fun K hK => ?_) AllReadyH.nil
          go_simp
          have sW := (World.Since.refl w6.heap.size w6).alloc (Nat.le_refl _) (.cells #[.int .i64 dd] 3)
          have S7 := S6.trans (sinceMono sW S6.size)
          have B7 := B6.keep sW
          have M7 := M.keep S7
          refine hK.out _ _ ⟨B7.c4, M7.c0, (by rw [← HJ.out]; exact M7.c1), M7.c2, M7.c3, M7.c4, M7.c5⟩ (fun h3 => ?_)
          clear hK K h2
          refine wpAnyH_ready (rs := [19]) (by kernel_rfl) (by simp) ?_
          refine AllReadyH.cons rfl (fun K hK => ?_) AllReadyH.nil
          refine step_append_lies _ rfl _ _ 100 rfl m 3 i0 _ 1 8 Tryz.underlying100 hi hz0 hz1 hz2 rfl (by decide) _ (k + 1) xs rfl (O6.own.alloc _) ⟨w6.heap.size, 0, none⟩ 1 1 [.int .i64 dd] rfl rfl (new_cell _ _ _) (one_one _ rfl) (by decide) (by unfold maxLen; omega) (by omega) (by simp; omega) (w6.heap.size + 1) (by simp) ?_
          intro g' cap' w8 hown' hgrow hat hlt8
          have zz : (w6.alloc (.cells #[.int .i64 dd] 3)).heap.size = w6.heap.size + 1 := by simp
          have hlg := O6.own.lt gd rfl
          have S8 : w.Since w.heap.size w8 := S7.grown hgrow (by have := S6.size; omega) (fun q hq => by have := (O6.own.lt q hq).1; have := s.size; omega)
          have hgb : ∀ q, q < m → w8.heap[q]? = (w6.alloc (.cells #[.int .i64 dd] 3)).heap[q]? := fun q hq => hgrow.block q (by omega) (fun e => by have := (O6.own.lt q e.symm).1; omega)
          have B8 : Box6 w8 w.heap.size (.int .i64 g.inn) (.int .i64 g.rounds) (.slice aL g.nl kL) (.slice aH g.nh kH) (.slice (some ⟨bN, oN, none⟩) g.nn kN) (.int .i64 g.out) := by
            have hl : w.heap.size < m := hsz0
            exact ⟨(World.cell?_of_block (a := ⟨w.heap.size, 0, none⟩) (hgb _ hl)).trans B7.c0, (World.cell?_of_block (a := ⟨w.heap.size, 1, none⟩) (hgb _ hl)).trans B7.c1, (World.cell?_of_block (a := ⟨w.heap.size, 2, none⟩) (hgb _ hl)).trans B7.c2, (World.cell?_of_block (a := ⟨w.heap.size, 3, none⟩) (hgb _ hl)).trans B7.c3, (World.cell?_of_block (a := ⟨w.heap.size, 4, none⟩) (hgb _ hl)).trans B7.c4, (World.cell?_of_block (a := ⟨w.heap.size, 5, none⟩) (hgb _ hl)).trans B7.c5, fun o => by
              have := B7.f o
              unfold World.frozen? at this ⊢
              rw [hgb _ hl]; exact this⟩
          have M8 := M.keep S8
          have z8 := hgrow.size
          refine hK.out _ _ ⟨B8.c4, M8.c0, (by rw [← HJ.out]; exact M8.c1), M8.c2, M8.c3, M8.c4, M8.c5⟩ (fun h4 => ?_)
          clear hK K h3
          refine wpAnyH_ready (rs := [20]) (by kernel_rfl) (by simp) ?_
          refine AllReadyH.cons rfl (fun K hK => ?_) AllReadyH.nil
          go_simp
          refine hK.out _ _ ⟨B8.c4, M8.c0, (by rw [← HJ.out]; exact M8.c1), M8.c2, M8.c3, M8.c4, M8.c5⟩ (fun h5 => ?_)
          clear hK K h5 h4
          refine wpAnyH_done (by kernel_rfl) ?_ _
          go_wp2
          go_roundw
          case rel =>
            go_light
            have at2 : ∀ i, i < k + 1 → xs[i]? = some (.int .i64 (dimA g (k + 1) i)) := fun i hi => by rw [dimA_old g (by omega)]; exact O.at_ i hi
            refine ⟨k + 1, by omega, by go_num, S8, by omega, B8, hide (fun j hj => ?_), hide (fun j hj => ?_), g', cap', _, rfl, IntL.snoc O.len at2 hown' (by rw [dimA_new, ← eD.out])⟩
            · by_cases e : j = k
              · subst e; exact HN.out
              · exact NZ.out j (by omega)
            · by_cases e : j = k + 1
              · subst e; rw [dimA_new]; exact dim_ok HD.out (HCC.out.trans HC.out)
              · rw [dimA_old g (by omega)]; exact HD.out j (by omega)
          case measure => simp [intOf]; omega
        · have q : (cc != 0) = true := by simp [hc]
          have HN : Hid (nc g k = cc) := hide HCC.out
          go_wp2
          go_ret3
          refine ⟨?_, S4⟩
          exact CkRet.none (.inr (.inr (.inl ⟨P.out, BX.out, k, hlt, NZ.out, by rw [HN.out]; exact hc, rfl, HN.out.symm, by go_num⟩)))
      have e : k = g.nn := by omega
      have HE := hide e
      have KZ := hide (show ∀ j, j < g.nn → nc g j = 0 from fun j hj => NZ.out j (by omega))
      clear e NZ
      have nz : ¬ ((k + 1 : Nat) : Int) ≤ (g.nn : Int) := by omega
      go_wp2_with fail
      refine (l2In_any g.out 0 (g.nn : Int) wr).mono ?_
      rintro e w4 ⟨⟨r, rfl, hr⟩, hw4⟩
      have hw5 := hw4.symm
      clear hw4
      subst hw5
      cases r
      · have NO := hide (show ¬ (0 ≤ g.out ∧ g.out ≤ g.nn) from fun h => by have := hr.2 h; cases this)
        clear hr
        go_wp2
        go_ret3
        exact ⟨CkRet.none (.inr (.inr (.inr (.inl ⟨P.out, BX.out, KZ.out, NO.out, rfl, rfl, rfl⟩)))), s⟩
      have YO := hide (hr.1 rfl)
      clear hr
      have hl := O.own.lt gd rfl
      go_wp2
      go_ret3
      refine ⟨⟨k + 1, dimA g k, 0, 0, some ⟨gd, 0, none⟩, cap, gd, rfl, .inr (.inr (.inr (.inr ⟨P.out, BX.out, KZ.out, YO.out, by rw [HE.out], fun j hj => by rw [HE.out], rfl, rfl⟩))), O.ints, fun _ => ⟨by have := s.size; omega, hl.2, fun o => O.own.frozenAt o⟩⟩, s⟩

end Go.Proofs.YtlpabmcebpppfaaGreatDoor

namespace Go.Proofs.YtlpabmcebpppfaaGreatDoor
open Go.RowKit

set_option maxHeartbeats 6400000 in
set_option maxRecDepth 100000 in
/-- impl.isValidGraph. -/
theorem isValidGraph_any (g : GraphD) (aL aH aN : Option Addr) (lo kL kH kN : Nat) (w : World) (hw : 0 ≤ w.heap.size) (hT : Tab w) (hd : g.size ≤ 1048576) (H : GraL w lo g aL aH aN kL kH kN) :
    Calls Tryz.prog 23 #[.agg #[.int .i64 g.inn, .int .i64 g.rounds, .slice aL g.nl kL, .slice aH g.nh kH, .slice aN g.nn kN, .int .i64 g.out]] w fun e w' => (∃ n X c a, Outc g n X c a ∧ e = .returned (.bool (decide (c = 0)))) ∧ w.Since w.heap.size w' := by
  have sA : w.Since w.heap.size (w.alloc (.cells #[.int .i64 g.inn, .int .i64 g.rounds, .slice aL g.nl kL, .slice aH g.nh kH, .slice aN g.nn kN, .int .i64 g.out] 31)) := (World.Since.refl _ _).alloc (Nat.le_refl _) _
  have bA := Box6.new w (.int .i64 g.inn) (.int .i64 g.rounds) (.slice aL g.nl kL) (.slice aH g.nh kH) (.slice aN g.nn kN) (.int .i64 g.out) 31
  go_enter Tryz.func23, Tryz.ntmps23
  go_wp2_with fail
  generalize w.alloc (.cells #[.int .i64 g.inn, .int .i64 g.rounds, .slice aL g.nl kL, .slice aH g.nh kH, .slice aN g.nn kN, .int .i64 g.out] 31) = wA at *
  refine (implCheckGraph_any g aL aH aN lo kL kH kN wA (Nat.zero_le _) (hT.stay hw sA) hd (H.keep sA)).mono ?_
  rintro e w0 ⟨⟨n, X, c, a, ad, cap, b, rfl, O, -⟩, s0⟩
  have S0 := sA.trans (sinceMono s0 sA.size)
  have O := hide O
  by_cases hc : c = 0
  · subst hc
    go_wp2
    go_ret
    exact ⟨⟨n, X, 0, a, O.out, by simp⟩, S0⟩
  · go_wp2
    go_ret
    exact ⟨⟨n, X, c, a, O.out, by simp [hc]⟩, S0⟩

end Go.Proofs.YtlpabmcebpppfaaGreatDoor
