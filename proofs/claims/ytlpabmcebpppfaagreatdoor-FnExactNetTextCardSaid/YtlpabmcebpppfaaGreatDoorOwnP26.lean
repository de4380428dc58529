import Derived.Test.YtlpabmcebpppfaaGreatDoorOwnP24
import Derived.Test.YtlpabmcebpppfaaGreatDoorOwnP4
import Derived.Lib.FrozenHead2
import Derived.Test.YtlpabmcebpppfaaGreatDoorOwnP23
import Derived.Test.YtlpabmcebpppfaaGreatDoorOwnP17
import Derived.Deep.RegionHeld3
namespace Go.Proofs.YtlpabmcebpppfaaGreatDoor
open Go.RowKit

theorem Box3.of_heap {w : World} {c : Nat} {x y z : Value} {T : TypeId} (h : w.heap[c]? = some (.cells #[x, y, z] T (0, 0))) : Box3 w c x y z :=
  ⟨Lib.cell_of_heap h 0, Lib.cell_of_heap h 1, Lib.cell_of_heap h 2, fun k => Lib.frozen_of_heap h k⟩
theorem Box4.of_heap {w : World} {c : Nat} {x y z u : Value} {T : TypeId} (h : w.heap[c]? = some (.cells #[x, y, z, u] T (0, 0))) : Box4 w c x y z u :=
  ⟨Lib.cell_of_heap h 0, Lib.cell_of_heap h 1, Lib.cell_of_heap h 2, Lib.cell_of_heap h 3, fun k => Lib.frozen_of_heap h k⟩
theorem blk_keep {w w' : World} {c : Nat} {o : Obj} (h : w.heap[c]? = some o) (s : w.Since w.heap.size w') : w'.heap[c]? = some o := (s.block c (Array.getElem?_eq_some_iff.1 h).1).trans h
theorem blk_lt {w : World} {c : Nat} {o : Obj} (h : w.heap[c]? = some o) : c < w.heap.size := (Array.getElem?_eq_some_iff.1 h).1

/-- Stores into cells that are not frozen, one after the other. -/
theorem store_free (P : Program) (g : Nat) (e : TypeId) (fz : Nat × Nat) (o : Nat) (vs : List Value) : ∀ (i : Nat) (cur : Array Value) (w : World), w.heap[g]? = some (.cells cur e fz) → (∀ p, o + i ≤ p → p < o + i + vs.length → ¬ (fz.1 ≤ p ∧ p < fz.2)) → o + i + vs.length ≤ cur.size → (∀ v ∈ vs, v.oneCell' = true) →
    (storeCells ⟨g, o, none⟩ vs i).run P w = .ok () (w.setRow g (cur.toList.take (o + i) ++ vs ++ cur.toList.drop (o + i + vs.length)).toArray) := by
  induction vs with
  | nil =>
    intro i cur w hg _ _ _
    have e1 := setRow_self w g cur e fz hg
    simp only [storeCells, List.append_nil, List.length_nil, Nat.add_zero, List.take_append_drop, Array.toArray_toList, e1]
    rfl
  | cons v vs ih =>
    intro i cur w hg hfr hl h1
    simp only [List.length_cons] at hl hfr
    have hi : o + i < cur.size := by omega
    have ha : (⟨g, o, none⟩ : Addr).add i = ⟨g, o + i, none⟩ := Go.WideShapes.add_plain ..
    have hc : w.cell? ⟨g, o + i, none⟩ = some cur[o + i] := by simp [World.cell?, hg, hi]
    have hf : w.frozen? ⟨g, o + i, none⟩ = false := by
      have := hfr (o + i) (Nat.le_refl _) (by omega)
      simp only [World.frozen?, hg]
      simpa using this
    have hs : (store ((⟨g, o, none⟩ : Addr).add i) v).run P w = .ok () (w.setRow g (cur.setIfInBounds (o + i) v)) := by
      rw [ha, run_store P w _ v _ (h1 v (by simp)), hc]
      simp [hf, setCell_eq_setRow w g (o + i) cur e fz v hg]
    have h2 := ih (i + 1) (cur.setIfInBounds (o + i) v) (w.setRow g (cur.setIfInBounds (o + i) v)) (setRow_heap w g cur _ e _ hg) (fun p hp hq => hfr p (by omega) (by omega)) (by simp; omega) (fun x hx => h1 x (by simp [hx]))
    have e3 := list_seg_step cur.toList (o + i) v vs (by simp; omega)
    simp only [storeCells, Sem.run_bind, hs, Result.andThen_ok, h2, setRow_setRow]
    congr 3
    simpa [Array.toList_setIfInBounds, Nat.add_assoc] using e3

/-- A slice of bytes that a call owns: what it holds; its spare room is not frozen. -/
def ByteRow (w : World) (base : Nat) (v : Value) (l : List UInt8) : Prop :=
  ∃ g cap cur fz, v = .slice (some ⟨g, 0, none⟩) l.length cap ∧ base ≤ g ∧ w.heap[g]? = some (.cells cur 5 fz) ∧ (∀ p, l.length ≤ p → p < cap → ¬ (fz.1 ≤ p ∧ p < fz.2)) ∧ l.length ≤ cap ∧ cap ≤ maxLen ∧ cur.size = cap ∧ cur.toList.take l.length = Lib.byteCells l

theorem ByteRow.keep {w w' : World} {base : Nat} {v : Value} {l : List UInt8} (h : ByteRow w base v l) (s : w.Since w.heap.size w') : ByteRow w' base v l := by
  obtain ⟨g, cap, cur, fz, e, hb, hg, r⟩ := h
  exact ⟨g, cap, cur, fz, e, hb, (s.block g (Array.getElem?_eq_some_iff.1 hg).1).trans hg, r⟩

theorem ByteRow.lt {w : World} {base : Nat} {v : Value} {l : List UInt8} (h : ByteRow w base v l) : ∀ g, v.ownBlock = some g → base ≤ g ∧ g < w.heap.size := fun g hv => by
  obtain ⟨g', cap, cur, fz, rfl, hb, hg, r⟩ := h
  simp [Value.ownBlock] at hv
  subst hv
  exact ⟨hb, (Array.getElem?_eq_some_iff.1 hg).1⟩

theorem ByteRow.cells {w : World} {base : Nat} {v : Value} {l : List UInt8} (h : ByteRow w base v l) : ∃ g cap, v = .slice (some ⟨g, 0, none⟩) l.length cap ∧ ∀ j u, (Lib.byteCells l)[j]? = some u → w.cell? ((⟨g, 0, none⟩ : Addr).add j) = some u := by
  obtain ⟨g, cap, cur, fz, rfl, hb, hg, -, -, -, -, ht⟩ := h
  refine ⟨g, cap, rfl, fun j u hu => ?_⟩
  rw [Go.WideShapes.add_plain, Nat.zero_add, Lib.cell_of_heap hg j]
  rw [← ht, List.getElem?_take] at hu
  split at hu
  · simpa using hu
  · cases hu

/-- string(out) of it. -/
theorem ByteRow.str {w : World} {base : Nat} {v : Value} {l : List UInt8} (h : ByteRow w base v l) : ∃ g cap, v = .slice (some ⟨g, 0, none⟩) l.length cap ∧ (convert 60 9 (.slice (some ⟨g, 0, none⟩) l.length cap)).run Tryz.prog w = .ok (.string ⟨l.toArray⟩) w := by
  obtain ⟨g, cap, rfl, hc⟩ := h.cells
  refine ⟨g, cap, rfl, run_convert_bytes_back w 60 9 5 ⟨g, 0, none⟩ cap l Tryz.underlying60 Tryz.underlying5 Tryz.underlying9 (fun j hj => ?_)⟩
  exact hc j _ (by simp [Lib.byteCells, hj])

/-- What a conversion of a string lays. -/
theorem ByteRow.conv (w : World) (l : List UInt8) (hl : l.length ≤ 1000000000) : ByteRow (Lib.bytesWorld w 5 ⟨l.toArray⟩) w.heap.size (.slice (some ⟨w.heap.size, 0, none⟩) l.length (grownCap w l.length 0 5)) l := by
  have hz : (⟨l.toArray⟩ : ByteArray).size = l.length := by simp [ByteArray.size]
  have hge := grownCap_ge w l.length 0 5
  have hm : grownCap w l.length 0 5 ≤ maxLen := grownCap_le_maxLen w l.length 0 5 (by unfold maxLen; omega)
  have hs : (Lib.bytesCells w 5 ⟨l.toArray⟩).size = grownCap w l.length 0 5 := by
    unfold Lib.bytesCells
    rw [hz]
    simp only [Array.size_append, Array.size_map, Array.size_replicate, List.size_toArray]
    omega
  refine ⟨w.heap.size, _, _, _, rfl, Nat.le_refl _, Lib.bytesWorld_at_new w 5 ⟨l.toArray⟩, fun p _ hp h => ?_, hge, hm, hs, ?_⟩
  · have := h.1
    simp only at this
    omega
  · unfold Lib.bytesCells
    simp only [Array.toList_append, Array.toList_map]
    rw [show l.length = (List.map (fun b : UInt8 => Value.int .u8 b.toNat) l).length by simp]
    rw [List.take_left]
    rfl

/-- append of bytes. -/
theorem run_append_bytes (w : World) (base : Nat) (v : Value) (l : List UInt8) (H : ByteRow w base v l) (ad : Addr) (m : List UInt8) (c : Nat) (ty : TypeId) (hm : ∀ j u, (Lib.byteCells m)[j]? = some u → w.cell? (ad.add j) = some u) (hlen : l.length + m.length ≤ 1000000000) (hbase : base ≤ w.heap.size) :
    ∃ v' w', (Builtin.append_ #[60, 60] ty #[v, .slice (some ad) m.length c]).run Tryz.prog w = .ok v' w' ∧ ByteRow w' base v' (l ++ m) ∧ w.grownBy w' v.ownBlock := by
  obtain ⟨i0, hi, hz0, hz1, hz2⟩ := info_parts Tryz.info5
  obtain ⟨g, cap, cur, fz, rfl, hb, hg, hfr, hc, hcm, hcs, ht⟩ := H
  have hcells : ∀ j u, (Lib.byteCells l)[j]? = some u → w.cell? ((⟨g, 0, none⟩ : Addr).add j) = some u := by
    obtain ⟨g', cap', e, h⟩ := ByteRow.cells ⟨g, cap, cur, fz, rfl, hb, hg, hfr, hc, hcm, hcs, ht⟩
    simp only [Value.slice.injEq, Option.some.injEq, Addr.mk.injEq, and_true, true_and] at e
    obtain ⟨rfl, rfl⟩ := e
    exact h
  have hml : (Lib.byteCells m).length = m.length * i0.size := by rw [Lib.byteCells_length, hz1, Nat.mul_one]
  by_cases hroom : l.length + m.length ≤ cap
  · have hf := run_firstCells_some (P := Tryz.prog) w i0.size m.length ad m.length c (Lib.byteCells m) hml hm
    have hst := store_free Tryz.prog g 5 fz (l.length * i0.size) (Lib.byteCells m) 0 cur w hg (by
      rw [hz1, Lib.byteCells_length]
      exact fun p h1 h2 => hfr p (by omega) (by omega)) (by rw [hz1, Lib.byteCells_length]; omega) (bytes_one m)
    simp only [Nat.add_zero] at hst
    refine ⟨.slice (some ⟨g, 0, none⟩) (l.length + m.length) cap, _, by simp [Builtin.append_, run_underlying Tryz.underlying60, sizeOf, typeInfo, hi, Builtin.lenOf, hroom, hf, Addr.add_lit, hst]; rfl, ⟨g, cap, _, fz, by rw [List.length_append], hb, setRow_heap w g cur _ 5 _ hg, ?_, by rw [List.length_append]; omega, hcm, ?_, ?_⟩, ⟨rfl, rfl, rfl, by simp, fun k _ hk => setRow_other w g k _ (fun e => hk (by simp [Value.ownBlock, e]))⟩⟩
    · rw [List.length_append]
      exact fun p h1 h2 => hfr p (by omega) h2
    · simp only [List.size_toArray, List.length_append, List.length_take, List.length_drop, Array.length_toList, hz1, Lib.byteCells_length]
      omega
    · rw [hz1, Nat.mul_one, ht, show (l ++ m).length = (Lib.byteCells l ++ Lib.byteCells m).length by simp [Lib.byteCells_length]]
      simp only [← List.append_assoc]
      rw [List.take_left]
      simp [Lib.byteCells]
  · have hr := run_append_grow (P := Tryz.prog) w 60 ty 5 i0 (.int .u8 0) Tryz.underlying60 hi hz0 ⟨g, 0, none⟩ l.length cap (Lib.byteCells l) (by rw [Lib.byteCells_length, hz1, Nat.mul_one]) hcells ad m.length c (Lib.byteCells m) hml hm (by omega) (by omega) (by rw [hz2]; exact growslice_fits (by omega) (by omega))
    have hge := grownCap_ge w (l.length + m.length) cap 5
    have hcm2 : grownCap w (l.length + m.length) cap 5 ≤ maxLen := grownCap_le_maxLen w (l.length + m.length) cap 5 (by unfold maxLen; omega)
    refine ⟨_, _, hr, ⟨w.heap.size, _, _, (0, 0), by rw [List.length_append], hbase, Go.heap_alloc_new w.drew _, fun p _ _ h => by have := h.2; simp at this, by rw [List.length_append]; exact hge, hcm2, ?_, ?_⟩, ⟨rfl, rfl, rfl, by simp, fun k hk _ => Lib.alloc_old w.drew _ k hk⟩⟩
    · have hz1' : (Value.int IntKind.u8 0).cells.size = 1 := rfl
      simp only [Array.size_append, List.size_toArray, size_zeroCells, hz1', Lib.byteCells_length]
      omega
    · simp only [Array.toList_append, List.append_assoc]
      rw [← List.append_assoc, show (l ++ m).length = (Lib.byteCells l ++ Lib.byteCells m).length by simp [Lib.byteCells_length], List.take_left]
      simp [Lib.byteCells]

/-- .. in a walk. -/
theorem wpList_append_bytes {ops : Array Oper} {rest : List Oper} {o : Oper} {a : Act} {Q : Exit → Act → World → Prop} {w : World} (hgd : o.guard = none) (s x : Operand)
    (ho : o.op = .call { callee := .builtin .append, args := #[s, x], argTypes := #[60, 60] }) (base : Nat) (v : Value) (l : List UInt8) (hs : a.eval s = v) (H : ByteRow w base v l) (ad : Addr) (m : List UInt8) (c n : Nat) (hn : n = m.length) (hx : a.eval x = .slice (some ad) n c)
    (hm : ∀ j u, (Lib.byteCells m)[j]? = some u → w.cell? (ad.add j) = some u) (hlen : l.length + m.length ≤ 1000000000) (hbase : base ≤ w.heap.size)
    (h : ∀ v' w', ByteRow w' base v' (l ++ m) → w.grownBy w' v.ownBlock → wpList Tryz.prog ops Q rest (a.put o.dst v') w') : wpList Tryz.prog ops Q (o :: rest) a w := by
  subst hn
  refine wpList_plain hgd fun K hK => ?_
  obtain ⟨v', w', hr, h2, h3⟩ := run_append_bytes w base v l H ad m c o.type hm hlen hbase
  unfold Oper.wp execOp
  simp only [ho, resolve, invoke, builtin, Sem.run_bind, Sem.run_pure, Result.andThen_ok, List.map_toArray, List.map_cons, List.map_nil, hs, hx, hr]
  exact hK _ _ (h v' w' h2 h3)

/-- .. in a drawn region. -/
theorem step_append_bytes {ops : Array Oper} {o : Oper} {a : Act} {K : Act → World → Prop} {Q : Exit → Act → World → Prop} {E : Prop} {w : World} (hgd : o.guard = none) (s x : Operand)
    (ho : o.op = .call { callee := .builtin .append, args := #[s, x], argTypes := #[60, 60] }) (base : Nat) (v : Value) (l : List UInt8) (hs : a.eval s = v) (H : ByteRow w base v l) (ad : Addr) (m : List UInt8) (c n : Nat) (hn : n = m.length) (hx : a.eval x = .slice (some ad) n c)
    (hm : ∀ j u, (Lib.byteCells m)[j]? = some u → w.cell? (ad.add j) = some u) (hlen : l.length + m.length ≤ 1000000000) (hbase : base ≤ w.heap.size)
    (h : ∀ v' w', ByteRow w' base v' (l ++ m) → w.grownBy w' v.ownBlock → K (a.put o.dst v') w') : if Region.wanted o (yielded ops a.tmps) = true then Oper.wp Tryz.prog o a w K Q else E := by
  subst hn
  rw [if_pos (show Region.wanted o (yielded ops a.tmps) = true by simp [Region.wanted, hgd])]
  obtain ⟨v', w', hr, h2, h3⟩ := run_append_bytes w base v l H ad m c o.type hm hlen hbase
  unfold Oper.wp execOp
  simp only [ho, resolve, invoke, builtin, Sem.run_bind, Sem.run_pure, Result.andThen_ok, List.map_toArray, List.map_cons, List.map_nil, hs, hx, hr]
  exact h v' w' h2 h3

end Go.Proofs.YtlpabmcebpppfaaGreatDoor

namespace Go.Proofs.YtlpabmcebpppfaaGreatDoor
open Go.RowKit

set_option maxHeartbeats 6400000 in
set_option maxRecDepth 100000 in
theorem specNetText_no (a : Option Addr) (lo b off n cap : Nat) (A : Nat → AffD) (w : World) (hn : n ≤ 1048576) (hs : szA A n ≤ 1048576) (H : Affs w lo a b off n A) (hno : ¬ NetP n A) :
    Calls Tryz.prog 11 #[.agg #[.slice a n cap]] w fun e w' => e = .returned (.string ⟨#[]⟩) ∧ w.Since w.heap.size w' := by
  have sA : w.Since w.heap.size (w.alloc (.cells #[.slice a n cap] 42)) := (World.Since.refl _ _).alloc (Nat.le_refl _) _
  have bA := Box1.new w (.slice a n cap) 42
  go_enter Tryz.func11, Tryz.ntmps11
  go_wp2_with fail
  generalize w.alloc (.cells #[.slice a n cap] 42) = wA at *
  refine (specNetOk_any a lo b off n cap A wA (by omega) (by omega) (H.keep sA)).mono ?_
  rintro e w1 ⟨r, rfl, i, s1⟩
  obtain rfl : r = false := by
    cases r
    · rfl
    · exact absurd (i.1 rfl) hno
  clear i hno
  go_wp2
  go_ret
  exact ⟨rfl, sA.trans (sinceMono s1 sA.size)⟩

/-- A list's sub-slice. -/
theorem Rats.sub {w : World} {lo : Nat} {a : Option Addr} {b off n : Nat} {R : Nat → RatD} (h : Rats w lo a b off n R) (F C : Nat) (hF : F + C ≤ n) : Rats w lo (Option.map (fun x => x.add (F * 3)) a) b (off + F * 3) C (fun j => R (F + j)) := fun j hj => by
  obtain ⟨rfl, a1, a2, k1, k2, m⟩ := h (F + j) (by omega)
  refine ⟨by rw [Option.map_some, Go.WideShapes.add_plain], a1, a2, k1, k2, ?_⟩
  rw [show off + F * 3 + j * 3 = off + (F + j) * 3 by omega]
  exact m

/-- Bounds of a valid net's text. -/
structure TxtN (n : Nat) (A : Nat → AffD) : Prop where
  maps : ∀ k, k ≤ n → (mapsB A k).length ≤ 100000000
  head : ∀ k, k < n → (mapH (A k)).length ≤ 200
  rows : ∀ k r, k < n → r ≤ (A k).rows.toNat → (rowsL (A k) r).length ≤ 100000000
  row : ∀ k r, k < n → r < (A k).rows.toNat → (rowL (A k) r).length ≤ 100000000
  net : (netH n).length ≤ 100

theorem TxtN.of {w : World} {lo : Nat} {a : Option Addr} {b off n : Nat} {A : Nat → AffD} (P : NetP n A) (hn : n ≤ 1048576) (hs : szA A n ≤ 1048576) (H : Affs w lo a b off n A) : TxtN n A := by
  have hz : ∀ k, k < n → (A k).size ≤ 1048576 := fun k hk => by
    have := szA_at (A := A) hk
    omega
  have hr : ∀ k r, k < n → r ≤ (A k).rows.toNat → (rowsL (A k) r).length ≤ 37 * (A k).size := fun k r hk hr => by
    obtain ⟨-, a1, a2, k1, k2, M⟩ := H k hk
    obtain ⟨ba, oa, -, LW⟩ := M.L.LW
    obtain ⟨bb, ob, -, LB⟩ := M.L.LB
    exact map_lim (P.map hk) LW.lim LB.lim hr
  have hm : ∀ k, k < n → (mapH (A k)).length ≤ 200 := fun k hk => by
    have mp := P.map hk
    exact mapH_lim (by have := mp.r; have := mp.r1; omega) (by have := mp.c; have := mp.c1; omega)
  have n1 := P.n1
  refine ⟨fun k hk => ?_, hm, fun k r hk h => ?_, fun k r hk h => ?_, ?_⟩
  · have h1 := maps_lim (A := A) (k := k) (fun j hj => by
      have e1 := hr j _ (show j < n by omega) (Nat.le_refl _)
      have e2 := hm j (by omega)
      rw [List.length_append]
      omega)
    have h2 := szA_mono (A := A) hk
    omega
  · have := hr k r hk h
    have := hz k hk
    omega
  · have h1 := hr k (r + 1) hk h
    have h2 := hz k hk
    rw [rowsL, List.length_append] at h1
    omega
  · have := dec_lim (show (n : Int) ≤ 9223372036854775807 by omega)
    unfold netH
    simp only [List.length_append, List.length_cons, List.length_nil]
    omega

end Go.Proofs.YtlpabmcebpppfaaGreatDoor
