import Derived.Test.YtnogbaapcjjngaaGreatDoorOwnP27
import Derived.Test.YtnogbaapcjjngaaGreatDoorOwnP30
import Derived.Test.YtnogbaapcjjngaaGreatDoorOwnP17
namespace Go.Proofs.YtnogbaapcjjngaaGreatDoor
open Go.RowKit

theorem sL_len (bs : List (Nat × List ByteArray)) : (sL bs).length = bs.length := by unfold sL; rw [List.length_map]
theorem sH_len (bs : List (Nat × List ByteArray)) : (sH bs).length = bs.length := by unfold sH; rw [List.length_map]

theorem sL_ok {bs : List (Nat × List ByteArray)} (h : BoxS bs) : ∀ x ∈ sL bs, numOk x := fun x hx => by
  unfold sL at hx
  obtain ⟨b, hb, rfl⟩ := List.mem_map.1 hx
  obtain ⟨x1, x2, e, h1, h2⟩ := h b hb
  rw [e]; exact h1
theorem sH_ok {bs : List (Nat × List ByteArray)} (h : BoxS bs) : ∀ x ∈ sH bs, numOk x := fun x hx => by
  unfold sH at hx
  obtain ⟨b, hb, rfl⟩ := List.mem_map.1 hx
  obtain ⟨x1, x2, e, h1, h2⟩ := h b hb
  rw [e]; exact h2

theorem tot_box {bs : List (Nat × List ByteArray)} (h : BoxS bs) : tot bs = 3 * bs.length := by
  induction bs with
  | nil => simp [tot]
  | cons b bs ih =>
    obtain ⟨x1, x2, e, -⟩ := h b (by simp)
    rw [tot_cons, ih (fun b' hb => h b' (by simp [hb])), e]
    simp
    omega

theorem fldv_lim {fs : List Nat} {ws : List ByteArray} (h : ∀ k, k < fs.length → isInt (wd ws (1 + k))) (g : Nat) : ∀ k, k ≤ fs.length → 0 ≤ fldv fs ws k g ∧ fldv fs ws k g ≤ 999999 := by
  intro k
  induction k with
  | zero => intro _; unfold fldv; omega
  | succ k ih =>
    intro hk
    unfold fldv
    split
    · have := isInt_lim (h k (by omega)); omega
    · exact ih (by omega)

/-- What a node's line holds. -/
theorem node_lim {ws : List ByteArray} (h : nodeOk ws) : (I64 (nD ws).op ∧ I64 (nD ws).a ∧ I64 (nD ws).b ∧ I64 (nD ws).k ∧ I64 (nD ws).s) ∧ (∀ x ∈ vw ws, numOk x) ∧ (vw ws).length + 1 ≤ ws.length := by
  obtain ⟨hk, ho⟩ := kdOf_ok h
  obtain ⟨is, ns, ew, h1, h2, h3, h4, h5⟩ := shape_iff.1 ho
  obtain ⟨nm, ew'⟩ : ∃ nm, ws = nm :: (is ++ ns) := ⟨_, ew⟩
  have ev : vw ws = ns := by
    have h9 : ws.drop (1 + is.length) = ns := by rw [ew', Nat.add_comm, List.drop_succ_cons, List.drop_left]
    unfold vw
    rw [← h1]
    exact h9
  have hint : ∀ k, k < (kdOf ws).fs.length → isInt (wd ws (1 + k)) := fun k hk => by
    have e : wd ws (1 + k) = wd is k := by
      rw [ew']
      unfold wd
      rw [List.getD_eq_getElem?_getD, List.getD_eq_getElem?_getD, Nat.add_comm, List.getElem?_cons_succ, List.getElem?_append_left (by omega)]
    rw [e]
    exact h2 _ (wd_mem (by omega))
  have f1 := fldv_lim hint 1 _ (Nat.le_refl _)
  have f2 := fldv_lim hint 2 _ (Nat.le_refl _)
  have f3 := fldv_lim hint 3 _ (Nat.le_refl _)
  have f4 := fldv_lim hint 4 _ (Nat.le_refl _)
  have hop : 0 ≤ (kdOf ws).op ∧ (kdOf ws).op ≤ 7 := by
    rcases hk with e | e | e | e | e | e | e <;> rw [e] <;> decide
  refine ⟨⟨?_, ?_, ?_, ?_, ?_⟩, by rw [ev]; exact h3, ?_⟩
  · show I64 (kdOf ws).op; unfold I64; omega
  · show I64 (fldv (kdOf ws).fs ws (kdOf ws).fs.length 1); unfold I64; omega
  · show I64 (fldv (kdOf ws).fs ws (kdOf ws).fs.length 2); unfold I64; omega
  · show I64 (fldv (kdOf ws).fs ws (kdOf ws).fs.length 3); unfold I64; omega
  · show I64 (fldv (kdOf ws).fs ws (kdOf ws).fs.length 4); unfold I64; omega
  · rw [ev]
    have := congrArg List.length ew'
    rw [List.length_cons, List.length_append] at this
    omega

theorem lw_mem {ns : List (Nat × List ByteArray)} {i : Nat} (h : i < ns.length) : ns[i].2 = lw ns i := by
  unfold lw
  rw [List.getD_eq_getElem?_getD, List.getElem?_eq_getElem h]
  rfl
theorem lw_ok {ns : List (Nat × List ByteArray)} (h : NodS ns) {i : Nat} (hi : i < ns.length) : nodeOk (lw ns i) := by
  rw [← lw_mem hi]; exact h _ (List.getElem_mem hi)

/-- The graph of lines. -/
def graphD (x1 x2 xo : ByteArray) (bs ns : List (Nat × List ByteArray)) : GraphD := ⟨((dv x1 x1.size : Nat) : Int), ((dv x2 x2.size : Nat) : Int), bs.length, numF (sL bs), bs.length, numF (sH bs), ns.length, fun i => nD (lw ns i), ((dv xo xo.size : Nat) : Int)⟩

theorem nD_V (ws : List ByteArray) : (nD ws).V = numF (vw ws) := by unfold nD vw nodeD; rfl

theorem nodes_lim {ns : List (Nat × List ByteArray)} (h : NodS ns) : ∀ k, k ≤ ns.length → szN (fun i => nD (lw ns i)) k + k ≤ 85 * tot (ns.take k) ∧ psN (fun i => (vw (lw ns i)).length) k ≤ tot (ns.take k) ∧ k ≤ tot (ns.take k) := by
  intro k
  induction k with
  | zero => intro _; simp [szN, psN, tot]
  | succ k ih =>
    intro hk
    obtain ⟨i1, i2, i3⟩ := ih (by omega)
    obtain ⟨-, hn, hl⟩ := node_lim (lw_ok h (i := k) (by omega))
    have e1 : ns.take (k + 1) = ns.take k ++ [ns[k]] := by rw [List.take_add_one, List.getElem?_eq_getElem (by omega)]; rfl
    have e2 : tot (ns.take (k + 1)) = tot (ns.take k) + (lw ns k).length := by
      rw [e1, tot_append, ← lw_mem (by omega)]
      simp [tot]
    have h1 := szR_num (l := vw (lw ns k)) (n := (vw (lw ns k)).length) (fun i hi => hn _ (wd_mem hi))
    have e3 : szN (fun i => nD (lw ns i)) (k + 1) = szN (fun i => nD (lw ns i)) k + ((vw (lw ns k)).length + szR (numF (vw (lw ns k))) (vw (lw ns k)).length) := by
      rw [szN_succ, ← nD_V]; rfl
    have e4 : psN (fun i => (vw (lw ns i)).length) (k + 1) = psN (fun i => (vw (lw ns i)).length) k + (vw (lw ns k)).length := rfl
    rw [e2, e3, e4]
    omega

theorem GoodS.lims {s : ByteArray} {x1 x2 xo : ByteArray} {bs ns : List (Nat × List ByteArray)} (hs : s.size ≤ 20000) (h : GoodS (lnsF 0 (pcs 10 s)) x1 x2 xo bs ns) : (graphD x1 x2 xo bs ns).size ≤ 1700085 ∧ bs.length ≤ 20001 ∧ ns.length ≤ 20001 ∧ (∀ i, i ≤ ns.length → psN (fun i => (vw (lw ns i)).length) i ≤ 20001) := by
  obtain ⟨n0, no, e⟩ := h.ex
  have h1 := lnsF_tot 0 (pcs 10 s)
  rw [pcs_sum, e, tot_cons, tot_append, tot_append, tot_box h.box] at h1
  have h2 := nodes_lim h.nod ns.length (Nat.le_refl _)
  rw [List.take_length] at h2
  have hL := szR_num (l := sL bs) (n := bs.length) (fun i hi => sL_ok h.box _ (wd_mem (by rw [sL_len]; exact hi)))
  have hH := szR_num (l := sH bs) (n := bs.length) (fun i hi => sH_ok h.box _ (wd_mem (by rw [sH_len]; exact hi)))
  refine ⟨?_, by omega, by omega, fun i hi => ?_⟩
  · show (bs.length + szR (numF (sL bs)) bs.length) + (bs.length + szR (numF (sH bs)) bs.length) + (ns.length + szN (fun i => nD (lw ns i)) ns.length) ≤ 1700085
    omega
  · have h3 := (nodes_lim h.nod i hi).2.1
    have h4 : tot ns = tot (ns.take i) + tot (ns.drop i) := by rw [← tot_append, List.take_append_drop]
    omega

theorem OutN.nods {w : World} {lo : Nat} {v : Value} {ns : List (Nat × List ByteArray)} {xs : List Value} {zs : List (List Value)} (h : OutN w lo v ns.length (lw ns) xs zs) (hN : NodS ns) (hl : ∀ i, i < ns.length → (vw (lw ns i)).length ≤ 1000000) : ∃ a g cap, v = .slice a ns.length cap ∧ ns.length ≤ cap ∧ Nods w 0 a g 0 ns.length (fun i => nD (lw ns i)) := by
  have hc := @World.ownsRow.cells _ _ _ _ _ _ _ h.own
  have hat := h.at_
  obtain ⟨_, ⟨e, e0⟩ | ⟨g, cap, cur, e, hg, hb', hn, _⟩⟩ := h.own
  · exact ⟨none, 0, 0, by rw [e, e0], by omega, fun i hi => absurd hi (by omega)⟩
  · subst e
    refine ⟨_, g, cap, rfl, hn, fun i hi => ⟨rfl, ?_⟩⟩
    obtain ⟨a, ca, xV, h1, h2, h3, h4, h5, h6, O, -, -⟩ := hat i hi
    obtain ⟨a1, g1, k1, e1, n1, L1⟩ := O.rats
    have L1 : Rats w 0 a1 g1 0 (vw (lw ns i)).length (nD (lw ns i)).V := by rw [nD_V]; exact L1
    simp only [Value.slice.injEq, true_and] at e1
    obtain ⟨rfl, rfl⟩ := e1
    obtain ⟨⟨i1, i2, i3, i4, i5⟩, -, -⟩ := node_lim (lw_ok hN hi)
    have c1 := hc (g := g) rfl _ _ h1
    have c2 := hc (g := g) rfl _ _ h2
    have c3 := hc (g := g) rfl _ _ h3
    have c4 := hc (g := g) rfl _ _ h4
    have c5 := hc (g := g) rfl _ _ h5
    have c6 := hc (g := g) rfl _ _ h6
    rw [Go.WideShapes.add_plain] at c1 c2 c3 c4 c5 c6
    have := hl i hi
    exact ⟨a, ca, ⟨c1, by rw [Nat.add_assoc]; exact c2, by rw [Nat.add_assoc]; exact c3, by rw [Nat.add_assoc]; exact c4, by rw [Nat.add_assoc]; exact c5, by rw [Nat.add_assoc]; exact c6, ⟨n1, ⟨g1, 0, fun _ => Nat.zero_le _, L1⟩, i1, i2, i3, i4, i5, by show (vw (lw ns i)).length ≤ 9223372036854775807; omega⟩⟩⟩

/-- A graph that is read, as the equality takes it. -/
theorem gral_of {w : World} {lo lo' lo'' : Nat} {pL pH : Nat → Nat → Prop} {x1 x2 xo : ByteArray} {bs ns : List (Nat × List ByteArray)} {aL aH aN : Option Addr} {cL cH cN : Nat} {xL xH xN : List Value} {zs : List (List Value)} {s : ByteArray} (hs : s.size ≤ 20000) (G : GoodS (lnsF 0 (pcs 10 s)) x1 x2 xo bs ns)
    (L : OutR w lo (.slice aL bs.length cL) (sL bs).length (wd (sL bs)) pL xL) (H : OutR w lo' (.slice aH bs.length cH) (sH bs).length (wd (sH bs)) pH xH) (N : OutN w lo'' (.slice aN ns.length cN) ns.length (lw ns) xN zs) :
    GraL w 0 (graphD x1 x2 xo bs ns) aL aH aN cL cH cN := by
  obtain ⟨l1, l2, l3, l4⟩ := G.lims hs
  obtain ⟨a1, g1, k1, e1, n1, R1⟩ := L.rats
  obtain ⟨a2, g2, k2, e2, n2, R2⟩ := H.rats
  rw [sL_len] at e1 n1 R1
  rw [sH_len] at e2 n2 R2
  simp only [Value.slice.injEq, true_and] at e1 e2
  obtain ⟨rfl, rfl⟩ := e1
  obtain ⟨rfl, rfl⟩ := e2
  obtain ⟨a3, g3, k3, e3, n3, R3⟩ := N.nods G.nod (fun i hi => by
    have h1 := l4 (i + 1) (by omega)
    have h2 : psN (fun i => (vw (lw ns i)).length) (i + 1) = psN (fun i => (vw (lw ns i)).length) i + (vw (lw ns i)).length := rfl
    omega)
  simp only [Value.slice.injEq, true_and] at e3
  obtain ⟨rfl, rfl⟩ := e3
  have i1 := isInt_lim G.i1
  have i2 := isInt_lim G.i2
  have i3 := isInt_lim G.io
  refine ⟨n1, n2, n3, ⟨g1, 0, fun _ => Nat.zero_le _, R1⟩, ⟨g2, 0, fun _ => Nat.zero_le _, R2⟩, ⟨g3, 0, fun _ => Nat.zero_le _, R3⟩, ?_, ?_, ?_, ?_, ?_, ?_⟩
  · show I64 ((dv x1 x1.size : Nat) : Int); unfold I64; omega
  · show I64 ((dv x2 x2.size : Nat) : Int); unfold I64; omega
  · show I64 ((dv xo xo.size : Nat) : Int); unfold I64; omega
  · show bs.length ≤ _; omega
  · show bs.length ≤ _; omega
  · show ns.length ≤ _; omega

theorem OutN.nodq {w : World} {lo lo' hi : Nat} {v : Value} {ns : List (Nat × List ByteArray)} {xs : List Value} {zs : List (List Value)} (h : OutN w lo v ns.length (lw ns) xs zs) (ap : Apt lo' hi zs.flatten) (hN : NodS ns) (hl : ∀ i, i < ns.length → (vw (lw ns i)).length ≤ 1048576) :
    ∃ a c cap, v = .slice a ns.length cap ∧ NodQ w a c ns.length (pz zs) (fun i => (vw (lw ns i)).length) ∧ ∀ q, setQ c ns.length (pz zs) q → lo ≤ q ∧ q < w.heap.size := by
  have hpf := List.pairwise_flatten.1 ap.2
  have hc := @World.ownsRow.cells _ _ _ _ _ _ _ h.own
  have hown := h.own
  have hat := h.at_
  obtain ⟨_, ⟨e, e0⟩ | ⟨c, cap, cur, e, hg, hb', hn, _⟩⟩ := h.own
  · exact ⟨none, 0, 0, by rw [e, e0], ⟨fun h0 => absurd h0 (by omega), ⟨fun i j q hi => absurd hi (by omega), fun i q hi => absurd hi (by omega)⟩, fun h0 => absurd h0 (by omega), fun i _ hi => absurd hi (by omega)⟩, fun q hq => absurd hq.1 (by omega)⟩
  · subst e
    have key : ∀ i q, i < ns.length → pz zs i q → (lo ≤ q ∧ (Value.slice (some ⟨c, 0, none⟩) ns.length cap).ownBlock ≠ some q) ∧ q < w.heap.size := fun i q hi hp => by
      obtain ⟨y, u, hy, hu, eu⟩ := hp
      obtain ⟨a, ca, xV, -, -, -, -, -, -, O, ho, hz⟩ := hat i hi
      rw [hy] at hz
      simp only [Option.some.injEq] at hz
      subst hz
      rcases List.mem_cons.1 hu with rfl | hu
      · exact ⟨ho q (eb_own eu), (O.own.lt q (eb_own eu)).2⟩
      · obtain ⟨_, _, hp, _, hlt⟩ := O.mem hu eu
        exact ⟨hp, hlt⟩
    refine ⟨_, c, cap, rfl, ⟨fun _ => rfl, ⟨fun i j q hi hj hp hq => ?_, fun i q hi hp e => (key i q hi hp).1.2 (by rw [e]; rfl)⟩, fun _ o => own_frozen hown o, fun i _ hi => ?_⟩, fun q hq => ?_⟩
    · obtain ⟨y, u, hy, hu, eu⟩ := hp
      obtain ⟨y', u', hy', hu', eu'⟩ := hq
      obtain ⟨li, ei⟩ := List.getElem?_eq_some_iff.1 hy
      obtain ⟨lj, ej⟩ := List.getElem?_eq_some_iff.1 hy'
      have hp := List.pairwise_iff_getElem.1 hpf.2
      rcases Nat.lt_trichotomy i j with hlt | heq | hlt
      · exact absurd eu' (hp i j li lj hlt u (by rw [ei]; exact hu) u' (by rw [ej]; exact hu') q eu)
      · exact heq
      · exact absurd eu (hp j i lj li hlt u' (by rw [ej]; exact hu') u (by rw [ei]; exact hu) q eu')
    · obtain ⟨a, ca, xV, h1, h2, h3, h4, h5, h6, O, ho, hz⟩ := hat i hi
      have pwz := hpf.1 _ (List.mem_of_getElem? hz)
      obtain ⟨pw1, pw2⟩ := List.pairwise_cons.1 pwz
      obtain ⟨a', gV, cV, eV, LV, eW⟩ := O.lq (node_lim (lw_ok hN hi)).2.1 pw2
      simp only [Value.slice.injEq, true_and] at eV
      obtain ⟨rfl, rfl⟩ := eV
      have c1 := hc (g := c) rfl _ _ h1
      have c2 := hc (g := c) rfl _ _ h2
      have c3 := hc (g := c) rfl _ _ h3
      have c4 := hc (g := c) rfl _ _ h4
      have c5 := hc (g := c) rfl _ _ h5
      have c6 := hc (g := c) rfl _ _ h6
      rw [Go.WideShapes.add_plain, Nat.zero_add] at c1 c2 c3 c4 c5 c6
      refine ⟨_, _, _, _, _, a, gV, _, ca, px xV, ⟨c1, c2, c3, c4, c5, c6, LV, fun q hq => ?_, hl i hi⟩, Nat.le_refl _⟩
      rcases hq with ⟨h0, rfl | ⟨j, -, hj⟩⟩
      · exact ⟨_, _, hz, by simp, eW h0⟩
      · obtain ⟨u, hu, eu⟩ := px_mem hj
        exact ⟨_, u, hz, by simp [hu], eu⟩
    · rcases hq with ⟨h0, rfl | ⟨i, hi, hp⟩⟩
      · exact hown.lt _ rfl
      · exact ⟨(key i q hi hp).1.1, (key i q hi hp).2⟩

/-- What impl.ParseGraph made lies in memory of its own. -/
theorem GraR.q {w : World} {lo0 : Nat} {bs ns : List (Nat × List ByteArray)} {aL aH aN : Option Addr} {cL cH cN : Nat} {xL xH xN : List Value} {zs : List (List Value)} {lo hi d : Nat} (R : GraR w lo0 bs ns aL aH aN cL cH cN xL xH xN zs lo hi d) (hB : BoxS bs) (hN : NodS ns) (hl : ∀ i, i < ns.length → (vw (lw ns i)).length ≤ 1048576) :
    ∃ gL gH c, GrQ w aL gL bs.length (px xL) aH gH bs.length (px xH) aN c ns.length (pz zs) (fun i => (vw (lw ns i)).length) ∧ ∀ q, setG gL bs.length (px xL) gH bs.length (px xH) c ns.length (pz zs) q → lo0 ≤ q ∧ q < w.heap.size := by
  obtain ⟨hi', ap⟩ := R.A
  have l0 := R.l0
  have l1 := R.l1
  obtain ⟨p1, p2, p3⟩ := List.pairwise_append.1 R.S.A.2
  obtain ⟨a1, gL, k1, e1, LL, E1⟩ := R.S.L.lq (sL_ok hB) p1
  obtain ⟨a2, gH, k2, e2, LH, E2⟩ := R.S.H.lq (sH_ok hB) p2
  obtain ⟨a3, c, k3, e3, NQ, S3⟩ := R.N.nodq ap hN hl
  rw [sL_len] at e1 LL E1
  rw [sH_len] at e2 LH E2
  simp only [Value.slice.injEq, true_and] at e1 e2 e3
  obtain ⟨rfl, rfl⟩ := e1
  obtain ⟨rfl, rfl⟩ := e2
  obtain ⟨rfl, rfl⟩ := e3
  have mL : ∀ q, setQ gL bs.length (px xL) q → (eb (.slice aL bs.length cL) = some q ∨ ∃ u, u ∈ xL ∧ eb u = some q) ∧ (lo ≤ q ∧ q < hi ∧ q < w.heap.size) := fun q hq => by
    rcases hq with ⟨h0, rfl | ⟨j, -, hj⟩⟩
    · have := R.S.L.own.lt _ (eb_own (E1 h0))
      exact ⟨Or.inl (E1 h0), this.1, R.S.oL _ (eb_own (E1 h0)), this.2⟩
    · obtain ⟨u, hu, eu⟩ := px_mem hj
      obtain ⟨_, _, hp, _, hlt⟩ := R.S.L.mem hu eu
      exact ⟨Or.inr ⟨u, hu, eu⟩, hp.1.1, hp.2, hlt⟩
  have mH : ∀ q, setQ gH bs.length (px xH) q → (eb (.slice aH bs.length cH) = some q ∨ ∃ u, u ∈ xH ∧ eb u = some q) ∧ (lo ≤ q ∧ q < hi ∧ q < w.heap.size) := fun q hq => by
    rcases hq with ⟨h0, rfl | ⟨j, -, hj⟩⟩
    · have := R.S.H.own.lt _ (eb_own (E2 h0))
      exact ⟨Or.inl (E2 h0), this.1, R.S.oH _ (eb_own (E2 h0)), this.2⟩
    · obtain ⟨u, hu, eu⟩ := px_mem hj
      obtain ⟨_, _, hp, _, hlt⟩ := R.S.H.mem hu eu
      exact ⟨Or.inr ⟨u, hu, eu⟩, hp.1.1, hp.2, hlt⟩
  refine ⟨gL, gH, c, ⟨LL, LH, NQ, fun q hq hq' => ?_, fun q hq hq' => ?_, fun q hq hq' => ?_⟩, fun q hq => ?_⟩
  · rcases (mL q hq).1 with e | ⟨u, hu, e⟩ <;> rcases (mH q hq').1 with e' | ⟨u', hu', e'⟩
    · exact R.S.sep q (eb_own e) (eb_own e')
    · obtain ⟨_, _, hp, _⟩ := R.S.H.mem hu' e'
      exact hp.1.2.2 (eb_own e)
    · obtain ⟨_, _, hp, _⟩ := R.S.L.mem hu e
      exact hp.1.2.2 (eb_own e')
    · exact p3 u hu u' hu' q e e'
  · have := (mL q hq).2
    have := (S3 q hq').1
    omega
  · have := (mH q hq).2
    have := (S3 q hq').1
    omega
  · rcases hq with hq | hq | hq
    · have := (mL q hq).2; omega
    · have := (mH q hq).2; omega
    · have := S3 q hq; omega

end Go.Proofs.YtnogbaapcjjngaaGreatDoor

namespace Go.Proofs.YtnogbaapcjjngaaGreatDoor
open Go.RowKit

/-- A graph that is no graph. -/
def gZ : GraphD := ⟨0, 0, 0, fun _ => RatD.nul, 0, fun _ => RatD.nul, 0, fun _ => NodeD.nul, 0⟩

/-- What ParseGraph answers: a graph and two numbers; the program's in memory of its own. -/
structure POut (s : ByteArray) (g : GraphD) (z : Nat → Nat) (code no : Int) : Prop where
  hz : g.size ≤ 1700085
  hl : g.nl ≤ 20001
  hh : g.nh ≤ 20001
  hn : g.nn ≤ 20001
  ps : ∀ i, i ≤ g.nn → psN z i ≤ 2097152
  spec : ∀ w : World, Calls Tryz.prog 11 #[.string s] w fun e w' => ∃ aL aH aN cL cH cN, e = .returned (.tuple #[.agg #[.int .i64 g.inn, .int .i64 g.rounds, .slice aL g.nl cL, .slice aH g.nh cH, .slice aN g.nn cN, .int .i64 g.out], .int .i64 code, .int .i64 no]) ∧ GraL w' 0 g aL aH aN cL cH cN ∧ w.Since w.heap.size w'
  impl : ∀ w : World, Calls Tryz.prog 12 #[.string s] w fun e w' => ∃ aL aH aN cL cH cN gL gH c pL pH p, e = .returned (.tuple #[.agg #[.int .i64 g.inn, .int .i64 g.rounds, .slice aL g.nl cL, .slice aH g.nh cH, .slice aN g.nn cN, .int .i64 g.out], .int .i64 code, .int .i64 no]) ∧ GraL w' 0 g aL aH aN cL cH cN ∧ GrQ w' aL gL g.nl pL aH gH g.nh pH aN c g.nn p z ∧ (∀ q, setG gL g.nl pL gH g.nh pH c g.nn p q → w.heap.size ≤ q ∧ q < w'.heap.size) ∧ w.Since w.heap.size w'

theorem LQ.none (w : World) : LQ w none 0 0 (fun _ _ => False) :=
  ⟨fun h => absurd h (by omega), fun h => absurd h (by omega), fun i _ hi => absurd hi (by omega), ⟨fun i j q hi => absurd hi (by omega), fun i q hi => absurd hi (by omega)⟩⟩
theorem gZ_l (w : World) : GraL w 0 gZ none none none 0 0 0 :=
  ⟨Nat.le_refl _, Nat.le_refl _, Nat.le_refl _, ⟨0, 0, fun h => Nat.zero_le _, fun i hi => absurd hi (Nat.not_lt_zero _)⟩, ⟨0, 0, fun h => Nat.zero_le _, fun i hi => absurd hi (Nat.not_lt_zero _)⟩, ⟨0, 0, fun h => Nat.zero_le _, fun i hi => absurd hi (Nat.not_lt_zero _)⟩,
    by show I64 0; unfold I64; omega, by show I64 0; unfold I64; omega, by show I64 0; unfold I64; omega, Nat.zero_le _, Nat.zero_le _, Nat.zero_le _⟩
theorem gZ_q (w : World) : GrQ w none 0 gZ.nl (fun _ _ => False) none 0 gZ.nh (fun _ _ => False) none 0 gZ.nn (fun _ _ => False) (fun _ => 0) :=
  ⟨LQ.none w, LQ.none w, ⟨fun h => absurd h (Nat.not_lt_zero _), ⟨fun _ _ _ hi => absurd hi (Nat.not_lt_zero _), fun _ _ hi => absurd hi (Nat.not_lt_zero _)⟩, fun h => absurd h (Nat.not_lt_zero _), fun _ _ hi => absurd hi (Nat.not_lt_zero _)⟩,
    fun _ hq => absurd hq.1 (Nat.not_lt_zero _), fun _ hq => absurd hq.1 (Nat.not_lt_zero _), fun _ hq => absurd hq.1 (Nat.not_lt_zero _)⟩

theorem POut.no {s : ByteArray} {code no : Int}
    (hs : ∀ w : World, Calls Tryz.prog 11 #[.string s] w fun e w' => e = .returned (.tuple #[zG, .int .i64 code, .int .i64 no]) ∧ w.Since w.heap.size w')
    (hi : ∀ w : World, Calls Tryz.prog 12 #[.string s] w fun e w' => e = .returned (.tuple #[zG, .int .i64 code, .int .i64 no]) ∧ w.Since w.heap.size w') : POut s gZ (fun _ => 0) code no :=
  ⟨by simp [GraphD.size, gZ, szR, szN], Nat.zero_le _, Nat.zero_le _, Nat.zero_le _, fun i hi => (by
    have : i = 0 := Nat.le_zero.1 hi
    subst this
    simp [psN]), fun w => (hs w).mono (fun e w' ⟨he, s⟩ => ⟨none, none, none, 0, 0, 0, he, gZ_l w', s⟩),
    fun w => (hi w).mono (fun e w' ⟨he, s⟩ => ⟨none, none, none, 0, 0, 0, 0, 0, 0, _, _, _, he, gZ_l w', gZ_q w', fun q hq => by
      rcases hq with hq | hq | hq
      · exact absurd hq.1 (Nat.not_lt_zero _)
      · exact absurd hq.1 (Nat.not_lt_zero _)
      · exact absurd hq.1 (Nat.not_lt_zero _), s⟩)⟩

theorem EndBad.not {ls : List (Nat × List ByteArray)} {x1 x2 xo : ByteArray} {bs ns : List (Nat × List ByteArray)} (h : EndBad ls) (G : GoodS ls x1 x2 xo bs ns) : False := by
  obtain ⟨no, e⟩ := G.last
  exact h.2 _ e rfl

theorem parseGraph_out (s : ByteArray) (hs : s.size ≤ 9223372036854775807) : ∃ g z code no, POut s g z code no := by
  by_cases hl : 20000 < s.size
  · refine ⟨_, _, 1, 0, POut.no (fun w => (specParseGraph_any s w hs).mono ?_) (fun w => (implParseGraph_any s w hs).mono ?_)⟩
    · rintro e w' ⟨S, ⟨-, he⟩ | ⟨h, -⟩ | ⟨h, -⟩ | ⟨h, -⟩⟩
      · exact ⟨he, S⟩
      all_goals omega
    · rintro e w' ⟨S, ⟨-, he⟩ | ⟨h, -⟩ | ⟨h, -⟩ | ⟨h, -⟩⟩
      · exact ⟨he, S⟩
      all_goals omega
  have hle : s.size ≤ 20000 := by omega
  by_cases hb : ∃ p, BadAt (lnsF 0 (pcs 10 s)) p
  · obtain ⟨p, hb⟩ := hb
    refine ⟨_, _, 2, (p : Int), POut.no (fun w => (specParseGraph_any s w hs).mono ?_) (fun w => (implParseGraph_any s w hs).mono ?_)⟩
    · rintro e w' ⟨S, ⟨h, -⟩ | ⟨-, p', h, he⟩ | ⟨-, h, -⟩ | ⟨-, x1, x2, xo, bs, ns, aL, cL, aH, cH, aN, cN, xL, xH, xN, zs, lo, D, h, -⟩⟩
      · omega
      · rw [hb.only h]; exact ⟨he, S⟩
      · exact (hb.not h.1).elim
      · exact (hb.not h.may).elim
    · rintro e w' ⟨S, ⟨h, -⟩ | ⟨-, p', h, he⟩ | ⟨-, h, -⟩ | ⟨-, x1, x2, xo, bs, ns, aL, cL, aH, cH, aN, cN, xL, xH, xN, zs, lo, hi, d, h, -⟩⟩
      · omega
      · rw [hb.only h]; exact ⟨he, S⟩
      · exact (hb.not h.1).elim
      · exact (hb.not h.may).elim
  have hb : ∀ p, ¬ BadAt (lnsF 0 (pcs 10 s)) p := fun p h => hb ⟨p, h⟩
  by_cases hE : EndBad (lnsF 0 (pcs 10 s))
  · refine ⟨_, _, 2, ((pcs 10 s).length : Int) + 1, POut.no (fun w => (specParseGraph_any s w hs).mono ?_) (fun w => (implParseGraph_any s w hs).mono ?_)⟩
    · rintro e w' ⟨S, ⟨h, -⟩ | ⟨-, p', h, he⟩ | ⟨-, h, he⟩ | ⟨-, x1, x2, xo, bs, ns, aL, cL, aH, cH, aN, cN, xL, xH, xN, zs, lo, D, h, -⟩⟩
      · omega
      · exact (hb _ h).elim
      · exact ⟨he, S⟩
      · exact (hE.not h).elim
    · rintro e w' ⟨S, ⟨h, -⟩ | ⟨-, p', h, he⟩ | ⟨-, h, he⟩ | ⟨-, x1, x2, xo, bs, ns, aL, cL, aH, cH, aN, cN, xL, xH, xN, zs, lo, hi, d, h, -⟩⟩
      · omega
      · exact (hb _ h).elim
      · exact ⟨he, S⟩
      · exact (hE.not h).elim
  by_cases hG : ∃ x1 x2 xo bs ns, GoodS (lnsF 0 (pcs 10 s)) x1 x2 xo bs ns
  rotate_left
  · have hG : ∀ x1 x2 xo bs ns, ¬ GoodS (lnsF 0 (pcs 10 s)) x1 x2 xo bs ns := fun x1 x2 xo bs ns h => hG ⟨x1, x2, xo, bs, ns, h⟩
    refine ⟨_, _, 0, 0, POut.no (fun w => (specParseGraph_any s w hs).mono ?_) (fun w => (implParseGraph_any s w hs).mono ?_)⟩
    · rintro e w' ⟨S, ⟨h, -⟩ | ⟨-, p', h, he⟩ | ⟨-, h, he⟩ | ⟨-, x1, x2, xo, bs, ns, aL, cL, aH, cH, aN, cN, xL, xH, xN, zs, lo, D, h, -⟩⟩
      · omega
      · exact (hb _ h).elim
      · exact (hE h).elim
      · exact (hG _ _ _ _ _ h).elim
    · rintro e w' ⟨S, ⟨h, -⟩ | ⟨-, p', h, he⟩ | ⟨-, h, he⟩ | ⟨-, x1, x2, xo, bs, ns, aL, cL, aH, cH, aN, cN, xL, xH, xN, zs, lo, hi, d, h, -⟩⟩
      · omega
      · exact (hb _ h).elim
      · exact (hE h).elim
      · exact (hG _ _ _ _ _ h).elim
  obtain ⟨x1, x2, xo, bs, ns, G⟩ := hG
  obtain ⟨l1, l2, l3, l4⟩ := G.lims hle
  refine ⟨graphD x1 x2 xo bs ns, fun i => (vw (lw ns i)).length, 0, 0, l1, l2, l2, l3, fun i hi => by have := l4 i hi; omega, fun w => (specParseGraph_any s w hs).mono ?_, fun w => (implParseGraph_any s w hs).mono ?_⟩
  · rintro e w' ⟨S, ⟨h, -⟩ | ⟨-, p', h, he⟩ | ⟨-, h, he⟩ | ⟨-, y1, y2, yo, bs', ns', aL, cL, aH, cH, aN, cN, xL, xH, xN, zs, lo, D, h, he, T, O⟩⟩
    · omega
    · exact (hb _ h).elim
    · exact (hE h).elim
    · obtain ⟨rfl, rfl, rfl, rfl, rfl⟩ := G.only h
      exact ⟨aL, aH, aN, cL, cH, cN, he, gral_of hle G T.W T.B O, S⟩
  · rintro e w' ⟨S, ⟨h, -⟩ | ⟨-, p', h, he⟩ | ⟨-, h, he⟩ | ⟨-, y1, y2, yo, bs', ns', aL, cL, aH, cH, aN, cN, xL, xH, xN, zs, lo, hi, d, h, he, R⟩⟩
    · omega
    · exact (hb _ h).elim
    · exact (hE h).elim
    · obtain ⟨rfl, rfl, rfl, rfl, rfl⟩ := G.only h
      obtain ⟨gL, gH, c, Q, hset⟩ := R.q G.box G.nod (fun i hi => by
        have h1 := l4 (i + 1) (by omega)
        have h2 : psN (fun i => (vw (lw ns i)).length) (i + 1) = psN (fun i => (vw (lw ns i)).length) i + (vw (lw ns i)).length := rfl
        omega)
      exact ⟨aL, aH, aN, cL, cH, cN, gL, gH, c, _, _, _, he, gral_of hle G R.S.L R.S.H R.N, Q, hset, S⟩

end Go.Proofs.YtnogbaapcjjngaaGreatDoor

namespace Go.Proofs.YtnogbaapcjjngaaGreatDoor
open Go.RowKit

theorem Box6.fra {w w' : World} {S : Nat → Prop} {c : Nat} {x y z u v t : Value} (h : Box6 w c x y z u v t) (F : Fra w w' S) (hS : ¬ S c) : Box6 w' c x y z u v t :=
  ⟨by rw [F.cell (a := ⟨c, 0, none⟩) hS]; exact h.c0, by rw [F.cell (a := ⟨c, 1, none⟩) hS]; exact h.c1, by rw [F.cell (a := ⟨c, 2, none⟩) hS]; exact h.c2, by rw [F.cell (a := ⟨c, 3, none⟩) hS]; exact h.c3, by rw [F.cell (a := ⟨c, 4, none⟩) hS]; exact h.c4, by rw [F.cell (a := ⟨c, 5, none⟩) hS]; exact h.c5, fun q => by rw [F.frozen]; exact h.f q⟩

set_option maxHeartbeats 6400000 in
set_option maxRecDepth 100000 in
theorem parseGraph_law (s : ByteArray) (w : World) (hs : s.size ≤ 1048576) :
    Calls Tryz.prog 4 #[.string s] w fun e w' => e = .returned (.bool true) ∧ w.Since w.heap.size w' := by
  obtain ⟨g, z, code, no, R⟩ := parseGraph_out s (by omega)
  have HR := hide R
  clear R
  have hs' : ¬ (1048576 : Int) < (s.size : Int) := by omega
  go_enter Tryz.func4, Tryz.ntmps4
  go_wp2_with fail
  refine (HR.out.spec w).mono ?_
  rintro e w1 ⟨aL, aH, aN, cL, cH, cN, rfl, A1, s1⟩
  have t1 : w1.Since w1.heap.size (w1.alloc (.cells #[.int .i64 g.inn, .int .i64 g.rounds, .slice aL g.nl cL, .slice aH g.nh cH, .slice aN g.nn cN, .int .i64 g.out] 33)) := (World.Since.refl _ _).alloc (Nat.le_refl _) _
  have b2 := Box6.new w1 (.int .i64 g.inn) (.int .i64 g.rounds) (.slice aL g.nl cL) (.slice aH g.nh cH) (.slice aN g.nn cN) (.int .i64 g.out) 33
  have S2 := s1.trans (sinceMono t1 s1.size)
  have A2 := hide (A1.keep t1)
  clear A1
  go_wp2_with fail
  generalize w1.alloc (.cells #[.int .i64 g.inn, .int .i64 g.rounds, .slice aL g.nl cL, .slice aH g.nh cH, .slice aN g.nn cN, .int .i64 g.out] 33) = w2 at *
  generalize w1.heap.size = d1 at *
  have B2 := hide b2
  clear b2
  refine (HR.out.impl w2).mono ?_
  rintro e w3 ⟨aL', aH', aN', cL', cH', cN', gL, gH, c, pL, pH, p, rfl, A3', Q3, hset, s3⟩
  have t3 : w3.Since w3.heap.size (w3.alloc (.cells #[.int .i64 g.inn, .int .i64 g.rounds, .slice aL' g.nl cL', .slice aH' g.nh cH', .slice aN' g.nn cN', .int .i64 g.out] 33)) := (World.Since.refl _ _).alloc (Nat.le_refl _) _
  have b4' := Box6.new w3 (.int .i64 g.inn) (.int .i64 g.rounds) (.slice aL' g.nl cL') (.slice aH' g.nh cH') (.slice aN' g.nn cN') (.int .i64 g.out) 33
  have u4 := s3.trans (sinceMono t3 s3.size)
  have b4 := B2.out.keep u4
  have A4 := hide (A2.out.keep u4)
  have A4' := hide (A3'.keep t3)
  have Q4 := hide (Q3.keep t3)
  have HA := hide Q3.N.ha
  have z3 := s3.size
  have z4 : (w3.alloc (.cells #[.int .i64 g.inn, .int .i64 g.rounds, .slice aL' g.nl cL', .slice aH' g.nh cH', .slice aN' g.nn cN', .int .i64 g.out] 33)).heap.size = w3.heap.size + 1 := by simp
  clear A3' Q3
  have p0 := b4.c0
  have p1 := b4.c1
  have p2 := b4.c2
  have p3 := b4.c3
  have p4 := b4.c4
  have p5 := b4.c5
  have HSET := hide hset
  have B4' := hide b4'
  clear hset
  go_wp2_with fail
  generalize w3.alloc (.cells #[.int .i64 g.inn, .int .i64 g.rounds, .slice aL' g.nl cL', .slice aH' g.nh cH', .slice aN' g.nn cN', .int .i64 g.out] 33) = w4 at *
  generalize hd3 : w3.heap.size = d3 at *
  refine (eqGraph_true g aL' aH' aN' aL aH aN 0 cL' cH' cN' 0 cL cH cN w4 (by have := HR.out.hz; omega) A4'.out A4.out).mono ?_
  rintro e w5 ⟨rfl, s5⟩
  have u5 := u4.trans (sinceMono s5 u4.size)
  have b5' := B4'.out.keep s5
  have Q5 := hide (Q4.out.keep s5)
  clear A4' A4 Q4 b4 b4' p0 p1 p2 p3 p4 p5
  have p0 := b5'.c0
  have p1 := b5'.c1
  have p2 := b5'.c2
  have p3 := b5'.c3
  have p4 := b5'.c4
  have p5 := b5'.c5
  have B5' := hide b5'
  have hcc : (code == code) = true := by simp
  have hnn : (no == no) = true := by simp
  clear b5'
  go_wp2_with fail
  have z5 := s5.size
  refine (markGraph_p g.inn g.rounds g.out aL' aH' aN' gL g.nl cL' gH g.nh cH' c g.nn cN' 1 pL pH p z w5 (by have := HR.out.hl; omega) (by have := HR.out.hh; omega) (by have := HR.out.hn; omega) (by omega) HR.out.ps Q5.out (fun q hq => by have := (HSET.out q hq).2; omega)).mono ?_
  rintro e w6 ⟨KL, KH, K, rfl, wm, sm, F, M⟩
  have v6 : wm.Since w2.heap.size w6 := F.since (fun q hq => (HSET.out q hq).1)
  have u6 : w2.Since w2.heap.size w6 := (u5.trans (sinceMono sm (by have := u5.size; omega))).trans v6
  have hd3n : ¬ setG gL g.nl pL gH g.nh pH c g.nn p d3 := fun h => by have := (HSET.out d3 h).2; omega
  have b6' := Box6.fra (B5'.out.keep sm) F hd3n
  clear p0 p1 p2 p3 p4 p5
  have p0 := b6'.c0
  have p1 := b6'.c1
  have p2 := b6'.c2
  have p3 := b6'.c3
  have p4 := b6'.c4
  have p5 := b6'.c5
  have hkb := M.b3 g.nn (Nat.le_refl _)
  have HM := hide M
  obtain ⟨k, hk⟩ : ∃ k, K g.nn = k := ⟨_, rfl⟩
  rw [hk] at hkb ⊢
  have HK := hide hk
  clear M hk b6' F
  go_wp2_with fail
  refine (heldGraph_p g.inn g.rounds g.out aL' aH' aN' gL g.nl cL' gH g.nh cH' c g.nn cN' 1 pL pH p KL KH K w6 (by have := HR.out.hl; omega) (by have := HR.out.hh; omega) (by have := HR.out.hn; omega) (by omega) HA.out HM.out).mono ?_
  rintro e w7 ⟨rfl, s7⟩
  rw [HK.out]
  have u7 := u6.trans (sinceMono s7 u6.size)
  have S7 : w.Since w.heap.size w7 := S2.trans (sinceMono u7 S2.size)
  have hk0 : ¬ ((k : Int) < 0) := by omega
  have hkk : ((k : Int) == (k : Int)) = true := by simp
  clear p0 p1 p2 p3 p4 p5 HM
  go_wp2_with fail
  refine (HR.out.impl w7).mono ?_
  rintro e w8 ⟨aL2, aH2, aN2, cL2, cH2, cN2, gL2, gH2, c2, pL2, pH2, q2, rfl, A8', -, -, s8⟩
  have t8 : w8.Since w8.heap.size (w8.alloc (.cells #[.int .i64 g.inn, .int .i64 g.rounds, .slice aL2 g.nl cL2, .slice aH2 g.nh cH2, .slice aN2 g.nn cN2, .int .i64 g.out] 33)) := (World.Since.refl _ _).alloc (Nat.le_refl _) _
  have u9 := u7.trans (sinceMono (s8.trans (sinceMono t8 s8.size)) u7.size)
  have S9 := S2.trans (sinceMono u9 S2.size)
  have b9 := B2.out.keep u9
  have A9 := hide (A2.out.keep u9)
  have A9' := hide (A8'.keep t8)
  have p0 := b9.c0
  have p1 := b9.c1
  have p2 := b9.c2
  have p3 := b9.c3
  have p4 := b9.c4
  have p5 := b9.c5
  clear A8' b9
  go_wp2_with fail
  generalize w8.alloc (.cells #[.int .i64 g.inn, .int .i64 g.rounds, .slice aL2 g.nl cL2, .slice aH2 g.nh cH2, .slice aN2 g.nn cN2, .int .i64 g.out] 33) = w9 at *
  refine (eqGraph_true g aL2 aH2 aN2 aL aH aN 0 cL2 cH2 cN2 0 cL cH cN w9 (by have := HR.out.hz; omega) A9'.out A9.out).mono ?_
  rintro e w10 ⟨rfl, s10⟩
  have S10 := S9.trans (sinceMono s10 S9.size)
  go_wp2
  go_ret
  exact ⟨rfl, S10⟩

set_option maxHeartbeats 1600000 in
set_option maxRecDepth 100000 in
theorem parseGraph_long (s : ByteArray) (w : World) (hs : 1048576 < s.size) (hs2 : s.size ≤ 9223372036854775807) :
    Calls Tryz.prog 4 #[.string s] w fun e w' => e = .returned (.bool true) ∧ w.Since w.heap.size w' := by
  have hs' : (1048576 : Int) < (s.size : Int) := by omega
  go_enter Tryz.func4, Tryz.ntmps4
  go_wp2
  go_ret
  exact ⟨rfl, World.Since.refl _ _⟩

end Go.Proofs.YtnogbaapcjjngaaGreatDoor
