import Derived.Test.YtlpabmcebpppfaaGreatDoorOwnP28
import Derived.Test.YtlpabmcebpppfaaGreatDoorOwnP11
import Derived.Test.YtlpabmcebpppfaaGreatDoorOwnP32
import Derived.Deep.AppendLies
import Derived.Test.YtlpabmcebpppfaaGreatDoorOwnP8
import Derived.Test.YtlpabmcebpppfaaGreatDoorOwnP20
import Derived.Test.YtlpabmcebpppfaaGreatDoorOwnP17
namespace Go.Proofs.YtlpabmcebpppfaaGreatDoor
open Go.RowKit

/-- strconv.Itoa at an int that is not negative. -/
theorem itoa_q (z : Int) (w : World) (h0 : 0 ≤ z) (h1 : z ≤ 9223372036854775807) (hP : Pow w) :
    Calls Tryz.prog 26 #[.int .i64 z] w fun e w' => e = .returned (.string ⟨(decB z).toArray⟩) ∧ w.Since w.heap.size w' := by
  refine (Tryz.strconv_Itoa z (by omega) h1 w hP).mono ?_
  rintro e w' ⟨rfl, k, os, rfl⟩
  exact ⟨by rw [itoa_dec h0], since_of_below (Lib.below_grow w.heap.size w (Nat.le_refl _) k os)⟩

theorem bytes_map (ws : List (List UInt8)) : ((ws.map fun l => (⟨l.toArray⟩ : ByteArray)).map (·.data.toList)) = ws := by
  rw [List.map_map]
  conv => rhs; rw [← List.map_id ws]
  rfl

set_option maxHeartbeats 1600000 in
set_option maxRecDepth 100000 in
/-- impl.lineOf. -/
theorem lineOf_q (bk o c : Nat) (ws : List (List UInt8)) (w : World) (hc : ∀ j x, ws[j]? = some x → w.cell? ⟨bk, o + j, none⟩ = some (.string ⟨x.toArray⟩)) (hbk : bk < w.heap.size) (hcap : ws.length ≤ c) (hn : ws.length ≤ 100000000) (hlen : (Lib.join ws [32]).length ≤ 1000000000) :
    Calls Tryz.prog 25 #[.slice (some ⟨bk, o, none⟩) ws.length c] w fun e w' => e = .returned (.string ⟨(Lib.join ws [32] ++ [10]).toArray⟩) ∧ w.Since w.heap.size w' := by
  have J := Tryz.strings_Join bk o c (ws.map fun l => (⟨l.toArray⟩ : ByteArray)) ⟨#[32]⟩ w (fun j x h => by
    rw [List.getElem?_map] at h
    obtain ⟨y, hy, rfl⟩ := Option.map_eq_some_iff.1 h
    exact hc j y hy) hbk (by rw [List.length_map]; omega) (by rw [List.length_map]; omega) (by rw [bytes_map]; exact Nat.le_trans hlen (by decide))
  rw [List.length_map, bytes_map] at J
  have hl2 : (Lib.join ws [32]).length ≤ 1000000000 := hlen
  go_enter Tryz.func25, Tryz.ntmps25
  go_wp2_with fail
  refine J.mono ?_
  rintro e w1 ⟨rfl, b1⟩
  go_wp2
  go_ret
  exact ⟨by simp [str_app], since_of_below b1⟩

theorem infoStr : ∃ i, Tryz.prog.info? 9 = some i ∧ i.zero = some (.string ⟨#[]⟩) ∧ i.size = 1 ∧ i.bytes = 16 := by
  have h : (Tryz.prog.info? 9).map (fun i => (i.zero, i.size, i.bytes)) = some (some (.string ⟨#[]⟩), 1, 16) := by kernel_rfl
  obtain ⟨i, hi, h⟩ := Option.map_eq_some_iff.1 h
  simp only [Prod.mk.injEq] at h
  exact ⟨i, hi, h.1, h.2.1, h.2.2⟩

/-- The cells of a list of texts. -/
def strV (ws : List (List UInt8)) : List Value := ws.map fun l => .string ⟨l.toArray⟩

theorem strV_len (ws : List (List UInt8)) : (strV ws).length = ws.length := by simp [strV]
theorem strV_one (ws : List (List UInt8)) : ∀ u ∈ strV ws, u.oneCell' = true := fun u hu => by
  obtain ⟨x, -, rfl⟩ := List.mem_map.1 hu
  rfl
theorem strV_get {ws : List (List UInt8)} {j : Nat} {x : List UInt8} (h : ws[j]? = some x) : (strV ws)[j]? = some (.string ⟨x.toArray⟩) := by
  unfold strV
  rw [List.getElem?_map, h]; rfl

/-- A list of texts that a row of its own holds. -/
theorem own_texts {w : World} {base g n cap : Nat} {ws : List (List UInt8)} (h : w.ownsRow base 9 1 (.slice (some ⟨g, 0, none⟩) n cap) n (strV ws)) : (∀ j x, ws[j]? = some x → w.cell? ⟨g, j, none⟩ = some (.string ⟨x.toArray⟩)) ∧ g < w.heap.size ∧ base ≤ g ∧ n ≤ cap ∧ ws.length = n := by
  have hc := @World.ownsRow.cells _ _ _ _ _ _ _ h
  have hl := h.lt g rfl
  refine ⟨fun j x hx => ?_, hl.2, hl.1, ?_, ?_⟩
  · have e1 := hc (g := g) rfl _ _ (strV_get hx)
    rw [Go.WideShapes.add_plain, Nat.zero_add] at e1
    exact e1
  · obtain ⟨_, ⟨e, _⟩ | ⟨g', cap', cur, e, hg, hb, hn, _⟩⟩ := h
    · simp at e
    · simp only [Value.slice.injEq] at e
      obtain ⟨_, _, rfl⟩ := e
      assumption
  · have := h.1
    rw [strV_len] at this
    omega

theorem textOf_m {w : World} {lo : Nat} {r : RatD} {a1 a2 : Option Addr} {k1 k2 : Nat} (L : RatL w lo r a1 a2 k1 k2) (ok : r.ok = true) (h : r.n + r.m ≤ 1048576) (hP : Pow w) :
    Calls Tryz.prog 27 #[.agg #[.bool r.neg, .slice a1 r.n k1, .slice a2 r.m k2]] w fun e w' => e = .returned (.string ⟨r.txt.toArray⟩) ∧ w.Since w.heap.size w' := by
  obtain ⟨ba, oa, -, LX⟩ := L.LX
  obtain ⟨bb, ob, -, LY⟩ := L.LY
  exact textOf_any r.neg a1 a2 ba oa r.n k1 bb ob r.m k2 r.X r.Y w (Nat.zero_le _) (by omega) (by omega) L.nc L.mc L.ac L.bc LX LY L.lX L.lY trivial hP ok

set_option maxHeartbeats 6400000 in
set_option maxRecDepth 100000 in
/-- impl.textsOf. -/
theorem textsOf_q (a : Option Addr) (lo b off n cap : Nat) (V : Nat → RatD) (w : World) (hn : n + szR V n ≤ 1048576) (H : Rats w lo a b off n V) (ok : RatsOk V n) (hP : Pow w) :
    Calls Tryz.prog 40 #[.slice a n cap] w fun e w' => ∃ g cap', e = .returned (.slice (some ⟨g, 0, none⟩) n cap') ∧ w'.ownsRow w.heap.size 9 1 (.slice (some ⟨g, 0, none⟩) n cap') n (strV (txts V n)) ∧ w.Since w.heap.size w' := by
  obtain ⟨i0, hi, hz0, hz1, hz2⟩ := infoStr
  have sA : w.Since w.heap.size (w.alloc (.cells #[] 9)) := (World.Since.refl _ _).alloc (Nat.le_refl _) _
  have oA : (w.alloc (.cells #[] 9)).ownsRow w.heap.size 9 1 (.slice (some ⟨w.heap.size, 0, none⟩) 0 0) 0 (strV (txts V 0)) := World.ownsRow_made w #[] 0 (Nat.le_refl _) (Nat.zero_le _) rfl
  go_enter Tryz.func40, Tryz.ntmps40
  go_wp2
  go_loopw [3, 9] (fun u i wr => ∃ k : Nat, k ≤ n ∧ i = .int .i64 k ∧ w.Since w.heap.size wr ∧ ∃ g cap', u = .slice (some ⟨g, 0, none⟩) k cap' ∧ wr.ownsRow w.heap.size 9 1 (.slice (some ⟨g, 0, none⟩) k cap') k (strV (txts V k))) (fun _ i _ => n - (intOf i).toNat)
  case atStart => exact ⟨0, Nat.zero_le _, rfl, sA, w.heap.size, 0, rfl, oA⟩
  case round =>
    obtain ⟨k, hk, rfl, s, g, cap', rfl, O⟩ := hrel
    by_cases hlt : k < n
    · obtain ⟨ea, a1, a2, k1, k2, M⟩ := H k hlt
      subst ea
      have hz : (k : Int) < (n : Int) := by omega
      have hok := ok k hlt
      have hsz : (V k).n + (V k).m ≤ 1048576 := by have := szR_at (R := V) hlt; omega
      have M1 := M.keep s
      have g0 := M1.c0
      have g1 := M1.c1
      have g2 := M1.c2
      have sN : wr.Since wr.heap.size (wr.alloc (.cells #[.bool (V k).neg, .slice a1 (V k).n k1, .slice a2 (V k).m k2] 53)) := (World.Since.refl _ _).alloc (Nat.le_refl _) _
      have nB := Box3.new wr (.bool (V k).neg) (.slice a1 (V k).n k1) (.slice a2 (V k).m k2) 53
      go_wp2_with fail
      generalize wr.alloc (.cells #[.bool (V k).neg, .slice a1 (V k).n k1, .slice a2 (V k).m k2] 53) = w1 at *
      have S1 := s.trans (sinceMono sN s.size)
      refine (textOf_m (M.keep S1).L hok hsz (hP.stay S1)).mono ?_
      rintro e w2 ⟨rfl, s2⟩
      obtain ⟨T, hT⟩ : ∃ T, (V k).txt = T := ⟨_, rfl⟩
      rw [hT]
      have HT := hide hT
      clear hT
      have u2 : wr.Since wr.heap.size w2 := sN.trans (sinceMono s2 sN.size)
      have S2 := s.trans (sinceMono u2 s.size)
      have O2 := own_keep O u2
      have z2 := u2.size
      have z0 := s.size
      clear g0 g1 g2 M1
      go_wp2_with (at_builtin; refine wpList_append_own_at _ rfl _ _ 75 rfl w.heap.size 9 i0 (.string ⟨#[]⟩) 1 16 Tryz.underlying75 hi hz0 hz1 hz2 rfl (by decide) _ _ _ rfl (O2.alloc _) ⟨w2.heap.size, 0, none⟩ 1 1 [.string ⟨T.toArray⟩] rfl rfl (new_cell _ _ _) (one_one _ rfl) (by unfold maxLen; omega) (by omega) (by simp; omega) ?_)
      intro v' w5 hown' hgrow hnn hat
      obtain ⟨g', capn, rfl, hg1, hg2⟩ := hown'.form (by omega)
      have sW := (World.Since.refl w2.heap.size w2).alloc (Nat.le_refl _) (.cells #[.string ⟨T.toArray⟩] 9)
      have S5 : w.Since w.heap.size w5 := (S2.trans (sinceMono sW S2.size)).grown hgrow (by simp; omega) (fun q hq => (O2.lt q hq).1)
      have O5 : w5.ownsRow w.heap.size 9 1 (.slice (some ⟨g', 0, none⟩) (k + 1) capn) (k + 1) (strV (txts V (k + 1))) := by
        rw [txts_succ, HT.out, show strV (txts V k ++ [T]) = strV (txts V k) ++ [.string ⟨T.toArray⟩] by simp [strV]]
        exact hown'
      clear hnn hat hown' hgrow
      go_wp2
      go_roundw
      case rel => exact ⟨k + 1, by omega, by go_num, S5, g', capn, rfl, O5⟩
      case measure => simp [intOf]; omega
    · have e : k = n := by omega
      subst e
      go_wp2
      go_ret
      exact ⟨g, cap', rfl, O, s⟩

end Go.Proofs.YtlpabmcebpppfaaGreatDoor

namespace Go.Proofs.YtlpabmcebpppfaaGreatDoor
open Go.RowKit

theorem ptrV_get {c j f : Nat} {fs : List Nat} (h : fs[j]? = some f) : (ptrV c fs)[j]? = some (.pointer (some ⟨c, f, none⟩)) := by
  unfold ptrV
  rw [List.getElem?_map, h]; rfl

/-- The words of a node: the word, the ints, the numbers. -/
structure WordsP (fs : List Nat) (vals : List Int) (z v1 v2 v3 v4 : Int) : Prop where
  len : vals.length = fs.length
  small : fs.length ≤ 4
  at_ : ∀ (j f : Nat), fs[j]? = some f → ∃ v, vals[j]? = some v ∧ [z, v1, v2, v3, v4][f]? = some v ∧ 0 ≤ v ∧ v ≤ 9223372036854775807

theorem strV_some {ws : List (List UInt8)} {j : Nat} {u : Value} (h : (strV ws)[j]? = some u) : ∃ x, ws[j]? = some x ∧ u = .string ⟨x.toArray⟩ := by
  unfold strV at h
  rw [List.getElem?_map] at h
  obtain ⟨x, hx, rfl⟩ := Option.map_eq_some_iff.1 h
  exact ⟨x, hx, rfl⟩

theorem own_lower {w : World} {base base' : Nat} {e : TypeId} {size : Nat} {v : Value} {n : Nat} {xs : List Value} (h : w.ownsRow base e size v n xs) (hb : base' ≤ base) : w.ownsRow base' e size v n xs := by
  obtain ⟨hl, h | ⟨g, cap, cur, rfl, hb', hh, hr⟩⟩ := h
  · exact ⟨hl, Or.inl h⟩
  · exact ⟨hl, Or.inr ⟨g, cap, cur, rfl, Nat.le_trans hb hb', hh, hr⟩⟩

theorem box_at {w : World} {c f : Nat} {z v1 v2 v3 v4 v : Int} {x : Value} (B : Box6 w c (.int .i64 z) (.int .i64 v1) (.int .i64 v2) (.int .i64 v3) (.int .i64 v4) x) (h : [z, v1, v2, v3, v4][f]? = some v) : w.cell? ⟨c, f, none⟩ = some (.int .i64 v) := by
  match f, h with
  | 0, h => simp at h; subst h; exact B.c0
  | 1, h => simp at h; subst h; exact B.c1
  | 2, h => simp at h; subst h; exact B.c2
  | 3, h => simp at h; subst h; exact B.c3
  | 4, h => simp at h; subst h; exact B.c4
  | f + 5, h => simp at h

theorem Box6.blk {w w' : World} {c : Nat} {x y z u v t : Value} (h : Box6 w c x y z u v t) (e : w'.heap[c]? = w.heap[c]?) : Box6 w' c x y z u v t :=
  ⟨(World.cell?_of_block (a := ⟨c, 0, none⟩) e).trans h.c0, (World.cell?_of_block (a := ⟨c, 1, none⟩) e).trans h.c1, (World.cell?_of_block (a := ⟨c, 2, none⟩) e).trans h.c2, (World.cell?_of_block (a := ⟨c, 3, none⟩) e).trans h.c3, (World.cell?_of_block (a := ⟨c, 4, none⟩) e).trans h.c4, (World.cell?_of_block (a := ⟨c, 5, none⟩) e).trans h.c5, fun o => by
    have := h.f o
    unfold World.frozen? at this ⊢
    rw [e]; exact this⟩

set_option maxHeartbeats 6400000 in
set_option maxRecDepth 100000 in
/-- impl.wordsOfNode. -/
theorem words_k (z : Int) (word : List UInt8) (ub uk us : Bool) (nums : Int) (fs : List Nat) (vals : List Int) (v1 v2 v3 v4 : Int) (nv : Nat) (V : Nat → RatD) (a1 : Option Addr) (lo bV oV k1 : Nat) (w : World) (hP : Pow w)
    (hwd : ∀ w, Calls Tryz.prog 65 #[.int .i64 z] w fun e w' => e = .returned (.string ⟨word.toArray⟩) ∧ w.Since w.heap.size w')
    (hin : ∀ (c : Nat) (w : World), Calls Tryz.prog 66 #[.agg #[.int .i64 z, .bool ub, .bool uk, .bool us, .int .i64 nums], .pointer (some ⟨c, 0, none⟩)] w fun e w' => ∃ g cap, e = .returned (.slice (some ⟨g, 0, none⟩) fs.length cap) ∧ w'.ownsRow (w.heap.size + 1) 129 1 (.slice (some ⟨g, 0, none⟩) fs.length cap) fs.length (ptrV c fs) ∧ w.Since w.heap.size w')
    (wp : WordsP fs vals z v1 v2 v3 v4) (hn : nv + szR V nv ≤ 1048576) (LV : Rats w lo a1 bV oV nv V) (ok : RatsOk V nv) :
    Calls Tryz.prog 30 #[.agg #[.int .i64 z, .int .i64 v1, .int .i64 v2, .int .i64 v3, .int .i64 v4, .slice a1 nv k1], .agg #[.int .i64 z, .bool ub, .bool uk, .bool us, .int .i64 nums]] w fun e w' => ∃ g n cap, e = .returned (.slice (some ⟨g, 0, none⟩) n cap) ∧ w'.ownsRow w.heap.size 9 1 (.slice (some ⟨g, 0, none⟩) n cap) n (strV (word :: (vals.map decB ++ txts V nv))) ∧ w.Since w.heap.size w' := by
  obtain ⟨i0, hi, hz0, hz1, hz2⟩ := infoStr
  have sA : w.Since w.heap.size (w.alloc (.cells #[.int .i64 z, .int .i64 v1, .int .i64 v2, .int .i64 v3, .int .i64 v4, .slice a1 nv k1] 56)) := (World.Since.refl _ _).alloc (Nat.le_refl _) _
  have nA := Box6.new w (.int .i64 z) (.int .i64 v1) (.int .i64 v2) (.int .i64 v3) (.int .i64 v4) (.slice a1 nv k1) 56
  have zA : (w.alloc (.cells #[.int .i64 z, .int .i64 v1, .int .i64 v2, .int .i64 v3, .int .i64 v4, .slice a1 nv k1] 56)).heap.size = w.heap.size + 1 := by simp
  have sB : (w.alloc (.cells #[.int .i64 z, .int .i64 v1, .int .i64 v2, .int .i64 v3, .int .i64 v4, .slice a1 nv k1] 56)).Since (w.alloc (.cells #[.int .i64 z, .int .i64 v1, .int .i64 v2, .int .i64 v3, .int .i64 v4, .slice a1 nv k1] 56)).heap.size ((w.alloc (.cells #[.int .i64 z, .int .i64 v1, .int .i64 v2, .int .i64 v3, .int .i64 v4, .slice a1 nv k1] 56)).alloc (.cells #[.int .i64 z, .bool ub, .bool uk, .bool us, .int .i64 nums] 78)) := (World.Since.refl _ _).alloc (Nat.le_refl _) _
  have fB := Box5.new (w.alloc (.cells #[.int .i64 z, .int .i64 v1, .int .i64 v2, .int .i64 v3, .int .i64 v4, .slice a1 nv k1] 56)) (.int .i64 z) (.bool ub) (.bool uk) (.bool us) (.int .i64 nums) 78
  rw [zA] at fB
  have zB : ((w.alloc (.cells #[.int .i64 z, .int .i64 v1, .int .i64 v2, .int .i64 v3, .int .i64 v4, .slice a1 nv k1] 56)).alloc (.cells #[.int .i64 z, .bool ub, .bool uk, .bool us, .int .i64 nums] 78)).heap.size = w.heap.size + 1 + 1 := by simp
  have nB := nA.keep sB
  have SB := sA.trans (sinceMono sB sA.size)
  have q0 := nB.c0
  go_enter Tryz.func30, Tryz.ntmps30
  go_wp2_with fail
  clear sA nA zA sB
  generalize (w.alloc (.cells #[.int .i64 z, .int .i64 v1, .int .i64 v2, .int .i64 v3, .int .i64 v4, .slice a1 nv k1] 56)).alloc (.cells #[.int .i64 z, .bool ub, .bool uk, .bool us, .int .i64 nums] 78) = wB at *
  refine (hwd wB).mono ?_
  rintro e w1 ⟨rfl, s1⟩
  have S1 := SB.trans (sinceMono s1 SB.size)
  have n1 := nB.keep s1
  have f1 := fB.keep s1
  have z1 := s1.size
  have sC : w1.Since w1.heap.size (w1.alloc (.cells #[.string ⟨word.toArray⟩] 9)) := (World.Since.refl _ _).alloc (Nat.le_refl _) _
  have O1 := World.ownsRow_lit (base := w.heap.size + 1 + 1) (size := 1) (e := 9) w1 #[.string ⟨word.toArray⟩] 1 (by omega) (by decide) rfl
  have f2 := f1.keep sC
  have p0 := f2.c0
  have p1 := f2.c1
  have p2 := f2.c2
  have p3 := f2.c3
  have p4 := f2.c4
  clear q0
  go_wp2_with fail
  have S2 := S1.trans (sinceMono sC S1.size)
  have n2 := n1.keep sC
  have z2 : (w1.alloc (.cells #[.string ⟨word.toArray⟩] 9)).heap.size = w1.heap.size + 1 := by simp
  generalize w1.alloc (.cells #[.string ⟨word.toArray⟩] 9) = w2 at *
  refine (hin w.heap.size w2).mono ?_
  rintro e w3 ⟨gp, capp, rfl, OP, s3⟩
  have S3 := S2.trans (sinceMono s3 S2.size)
  have n3 := n2.keep s3
  have O3 := O1.kept (row := none) ⟨s3.os, s3.tape, s3.output, s3.size, fun k hk _ => s3.block k hk⟩ (Classical.em _)
  have hgp := OP.lt gp rfl
  have PC : ∀ (j f : Nat), fs[j]? = some f → w3.cell? ⟨gp, j, none⟩ = some (.pointer (some ⟨w.heap.size, f, none⟩)) := fun j f h => by
    have e1 := (@World.ownsRow.cells _ _ _ _ _ _ _ OP) (g := gp) rfl _ _ (ptrV_get h)
    rw [Go.WideShapes.add_plain, Nat.zero_add] at e1
    exact e1
  clear p0 p1 p2 p3 p4 OP
  have hsm := wp.small
  have hlen := wp.len
  go_wp2_with fail
  go_loopw [5, 15] (fun u i wr => ∃ k : Nat, k ≤ fs.length ∧ i = .int .i64 (k : Int) ∧ w.Since w.heap.size wr ∧ Hid (Box6 wr w.heap.size (.int .i64 z) (.int .i64 v1) (.int .i64 v2) (.int .i64 v3) (.int .i64 v4) (.slice a1 nv k1)) ∧
    Hid (∀ (j f : Nat), fs[j]? = some f → wr.cell? ⟨gp, j, none⟩ = some (.pointer (some ⟨w.heap.size, f, none⟩))) ∧ gp < wr.heap.size ∧ w.heap.size + 1 + 1 ≤ wr.heap.size ∧ ∃ g cap', u = .slice (some ⟨g, 0, none⟩) (k + 1) cap' ∧ g ≠ gp ∧ wr.ownsRow (w.heap.size + 1 + 1) 9 1 (.slice (some ⟨g, 0, none⟩) (k + 1) cap') (k + 1) (strV (word :: (vals.map decB).take k))) (fun _ i _ => fs.length - (intOf i).toNat)
  case atStart => exact ⟨0, Nat.zero_le _, rfl, S3, hide n3, hide PC, hgp.2, by omega, w1.heap.size, 1, rfl, by omega, O3⟩
  case round =>
    obtain ⟨k, hk, rfl, s, n4, pc, hgl, hzz, g, cap', rfl, hne, O⟩ := hrel
    by_cases hlt : k < fs.length
    · have hz : (k : Int) < (fs.length : Int) := by omega
      obtain ⟨f, hf⟩ : ∃ f, fs[k]? = some f := ⟨_, List.getElem?_eq_getElem hlt⟩
      obtain ⟨v, hv1, hv2, hv0, hvm⟩ := wp.at_ k f hf
      have r1 := pc.out k f hf
      have r2 := box_at n4.out hv2
      have HV := hide hv1
      clear hf hv1 hv2
      go_wp2_with fail
      refine (itoa_q v wr hv0 hvm (hP.stay s)).mono ?_
      rintro e w5 ⟨rfl, s5⟩
      have S5 := s.trans (sinceMono s5 s.size)
      have O5 := own_keep O s5
      have z5 := s5.size
      clear r1 r2
      go_wp2_with (at_builtin; refine wpList_append_own_at _ rfl _ _ 75 rfl (w.heap.size + 1 + 1) 9 i0 (.string ⟨#[]⟩) 1 16 Tryz.underlying75 hi hz0 hz1 hz2 rfl (by decide) _ _ _ rfl (O5.alloc _) ⟨w5.heap.size, 0, none⟩ 1 1 [.string ⟨(decB v).toArray⟩] rfl rfl (new_cell _ _ _) (one_one _ rfl) (by unfold maxLen; omega) (by omega) (by simp; omega) ?_)
      intro v' w6 hown' hgrow hnn hat
      replace hgrow : (w5.alloc (.cells #[.string ⟨(decB v).toArray⟩] 9)).grownBy w6 (Value.slice (some ⟨g, 0, none⟩) (k + 1) cap').ownBlock := hgrow
      obtain ⟨g', capn, rfl, hg1, hg2⟩ := hown'.form (by omega)
      have sW := (World.Since.refl w5.heap.size w5).alloc (Nat.le_refl _) (.cells #[.string ⟨(decB v).toArray⟩] 9)
      have sX : wr.Since wr.heap.size (w5.alloc (.cells #[.string ⟨(decB v).toArray⟩] 9)) := s5.trans (sinceMono sW s5.size)
      have zW : (w5.alloc (.cells #[.string ⟨(decB v).toArray⟩] 9)).heap.size = w5.heap.size + 1 := by simp
      have z6 := hgrow.size
      have lg := O.lt g rfl
      have S6 : w.Since w.heap.size w6 := (s.trans (sinceMono sX s.size)).grown hgrow (by omega) (fun q hq => by have := (O.lt q hq).1; omega)
      have O6 : w6.ownsRow (w.heap.size + 1 + 1) 9 1 (.slice (some ⟨g', 0, none⟩) (k + 1 + 1) capn) (k + 1 + 1) (strV (word :: (vals.map decB).take (k + 1))) := by
        have e : strV (word :: (vals.map decB).take (k + 1)) = strV (word :: (vals.map decB).take k) ++ [.string ⟨(decB v).toArray⟩] := by
          rw [List.take_add_one, List.getElem?_map, HV.out]; simp [strV]
        rw [e]
        exact hown'
      have kb : ∀ q, q < wr.heap.size → q ≠ g → w6.heap[q]? = wr.heap[q]? := fun q hq hn => (hgrow.block q (by omega) (by simp [Value.ownBlock]; omega)).trans (sX.block q hq)
      have N6 := hide (n4.out.blk (kb w.heap.size (by omega) (by omega)))
      have P6 : Hid (∀ (j f : Nat), fs[j]? = some f → w6.cell? ⟨gp, j, none⟩ = some (.pointer (some ⟨w.heap.size, f, none⟩))) := hide (fun j f h => (World.cell?_of_block (a := ⟨gp, j, none⟩) (kb gp hgl (fun e => hne e.symm))).trans (pc.out j f h))
      have hne6 : g' ≠ gp := by
        rcases hat with h | h
        · simp [Value.ownBlock] at h; omega
        · simp [Value.ownBlock] at h; omega
      clear hnn hat hown' hgrow
      go_wp2
      go_roundw
      case rel => exact ⟨k + 1, by omega, by go_num, S6, N6, P6, by omega, by omega, g', capn, rfl, hne6, O6⟩
      case measure => simp [intOf]; omega
    · have e : k = fs.length := by omega
      subst e
      have r5 := n4.out.c5
      have HV := hide (show (vals.map decB).take fs.length = vals.map decB by rw [← hlen]; exact List.take_of_length_le (by simp))
      go_wp2_with fail
      refine (textsOf_q a1 lo bV oV nv k1 V wr hn (LV.keep s) ok (hP.stay s)).mono ?_
      rintro e w5 ⟨g5, c5, rfl, O5, s5⟩
      have S5 := s.trans (sinceMono s5 s.size)
      have OW := own_keep O s5
      obtain ⟨cl5, l5, -, -, -⟩ := own_texts O5
      have z5 := s5.size
      clear r5
      go_wp2_with (at_builtin; refine wpList_append_own _ rfl _ _ 75 rfl (w.heap.size + 1 + 1) 9 i0 (.string ⟨#[]⟩) 1 16 Tryz.underlying75 hi hz0 hz1 hz2 rfl (by decide) _ _ _ rfl OW ⟨g5, 0, none⟩ nv _ (strV (txts V nv)) rfl (by rw [strV_len, txts_len]; omega) (fun j u h => by
        obtain ⟨x, hx, rfl⟩ := strV_some h
        rw [Go.WideShapes.add_plain, Nat.zero_add]
        exact cl5 j x hx) (strV_one _) (by unfold maxLen; omega) (by omega) (by omega) ?_)
      intro v' w6 hown' hgrow hnn
      replace hgrow : w5.grownBy w6 (Value.slice (some ⟨g, 0, none⟩) (fs.length + 1) cap').ownBlock := hgrow
      obtain ⟨g', capn, rfl, hg1, hg2⟩ := hown'.form (by omega)
      have S6 : w.Since w.heap.size w6 := S5.grown hgrow (by omega) (fun q hq => by have := (O.lt q hq).1; omega)
      have O6 : w6.ownsRow w.heap.size 9 1 (.slice (some ⟨g', 0, none⟩) (fs.length + 1 + nv) capn) (fs.length + 1 + nv) (strV (word :: (vals.map decB ++ txts V nv))) := by
        have e : strV (word :: (vals.map decB ++ txts V nv)) = strV (word :: (vals.map decB).take fs.length) ++ strV (txts V nv) := by
          rw [HV.out]; simp [strV]
        rw [e]
        exact own_lower (base := w.heap.size + 1 + 1) hown' (by omega)
      clear hnn hown' hgrow
      go_wp2
      go_ret
      exact ⟨g', _, capn, rfl, O6, S6⟩

end Go.Proofs.YtlpabmcebpppfaaGreatDoor

namespace Go.Proofs.YtlpabmcebpppfaaGreatDoor
open Go.RowKit

/-- How the program comes to a node's words: the kind T, its form's function F. -/
structure TxtF (u : Value) (T F : Nat) (fm : Value) (lo : Nat) (aV : Option Addr) (bV oV nv : Nat) (V : Nat → RatD) (ws : List (List UInt8)) : Prop where
  op : ∀ (w : World) (mk : Nat), Kinds w mk → Calls Tryz.prog 29 #[.map (some mk), u] w fun e w' => e = .returned (.tuple #[.iface T u, .bool true]) ∧ w.Since w.heap.size w'
  me : ∀ w : World, (method 350 T u "loop.example/s0015/impl.form").run Tryz.prog w = .ok (F, u) w
  en : ∀ (args : Array Value) (w : World), (callFunc F args).run Tryz.prog w = .ok (.enter F args) w
  fr : ∀ w : World, Calls Tryz.prog F #[u] w fun e w' => e = .returned fm ∧ w.Since w.heap.size w'
  wo : ∀ w : World, Pow w → Rats w lo aV bV oV nv V → Calls Tryz.prog 30 #[u, fm] w fun e w' => ∃ g n cap, e = .returned (.slice (some ⟨g, 0, none⟩) n cap) ∧ w'.ownsRow w.heap.size 9 1 (.slice (some ⟨g, 0, none⟩) n cap) n (strV ws) ∧ w.Since w.heap.size w'

theorem txtF (d : NodeD) (a1 : Option Addr) (lo bV oV k1 : Nat) (f : d.Form) (ha : 0 ≤ d.a) (hb : 0 ≤ d.b) (hd : d.size ≤ 1048576) (ia : d.a ≤ 9223372036854775807) (ib : d.b ≤ 9223372036854775807) :
    ∃ T F ub uk us nums, TxtF (.agg #[.int .i64 d.op, .int .i64 d.a, .int .i64 d.b, .int .i64 d.k, .int .i64 d.s, .slice a1 d.nv k1]) T F (.agg #[.int .i64 d.op, .bool ub, .bool uk, .bool us, .int .i64 nums]) lo a1 bV oV d.nv d.V (wordB d.op :: (intsB d ++ txts d.V d.nv)) := by
  have o1 := f.o1
  have o7 := f.o7
  have fk := f.k
  have fs := f.s
  have ok := f.ok
  unfold NodeD.size at hd
  clear f
  obtain ⟨op, v1, v2, v3, v4, nv, V⟩ := d
  dsimp only at *
  have hop : op = 1 ∨ op = 2 ∨ op = 3 ∨ op = 4 ∨ op = 5 ∨ op = 6 ∨ op = 7 := by omega
  rcases hop with ho | ho | ho | ho | ho | ho | ho
  · subst ho
    have fk : 1 ≤ v3 ∧ v3 ≤ 1000 := fk
    refine ⟨117, 198, false, true, false, (-1), fun w mk K => operatorOf1 mk _ _ _ _ _ _ _ w K, fun _ => by kernel_rfl, fun _ _ => by kernel_rfl, fun w => form1 _ _ _ _ _ _ _ _ w, fun w hP LV => ?_⟩
    have wp : WordsP [1, 3] [v1, v3] 1 v1 v2 v3 v4 := ⟨rfl, by decide, fun j f h => by
      match j, h with
      | 0, h => simp at h; subst h; exact ⟨v1, rfl, rfl, by omega, by omega⟩
      | 1, h => simp at h; subst h; exact ⟨v3, rfl, rfl, by omega, by omega⟩
      | j + 2, h => simp at h⟩
    refine (words_k 1 [100, 101, 110, 115, 101] false true false (-1) [1, 3] [v1, v3] v1 v2 v3 v4 nv V a1 lo bV oV k1 w hP wordOf1 (fun c w => ints010 _ _ c w) wp hd LV ok).mono ?_
    exact fun _ _ h => h
  · subst ho
    refine ⟨119, 201, false, false, false, 0, fun w mk K => operatorOf2 mk _ _ _ _ _ _ _ w K, fun _ => by kernel_rfl, fun _ _ => by kernel_rfl, fun w => form2 _ _ _ _ _ _ _ _ w, fun w hP LV => ?_⟩
    have wp : WordsP [1] [v1] 2 v1 v2 v3 v4 := ⟨rfl, by decide, fun j f h => by
      match j, h with
      | 0, h => simp at h; subst h; exact ⟨v1, rfl, rfl, by omega, by omega⟩
      | j + 1, h => simp at h⟩
    refine (words_k 2 [114, 101, 108, 117] false false false 0 [1] [v1] v1 v2 v3 v4 nv V a1 lo bV oV k1 w hP wordOf2 (fun c w => ints000 _ _ c w) wp hd LV ok).mono ?_
    exact fun _ _ h => h
  · subst ho
    refine ⟨120, 204, false, false, false, 1, fun w mk K => operatorOf3 mk _ _ _ _ _ _ _ w K, fun _ => by kernel_rfl, fun _ _ => by kernel_rfl, fun w => form3 _ _ _ _ _ _ _ _ w, fun w hP LV => ?_⟩
    have wp : WordsP [1] [v1] 3 v1 v2 v3 v4 := ⟨rfl, by decide, fun j f h => by
      match j, h with
      | 0, h => simp at h; subst h; exact ⟨v1, rfl, rfl, by omega, by omega⟩
      | j + 1, h => simp at h⟩
    refine (words_k 3 [108, 101, 97, 107, 121] false false false 1 [1] [v1] v1 v2 v3 v4 nv V a1 lo bV oV k1 w hP wordOf3 (fun c w => ints000 _ _ c w) wp hd LV ok).mono ?_
    exact fun _ _ h => h
  · subst ho
    refine ⟨121, 207, true, false, false, 0, fun w mk K => operatorOf4 mk _ _ _ _ _ _ _ w K, fun _ => by kernel_rfl, fun _ _ => by kernel_rfl, fun w => form4 _ _ _ _ _ _ _ _ w, fun w hP LV => ?_⟩
    have wp : WordsP [1, 2] [v1, v2] 4 v1 v2 v3 v4 := ⟨rfl, by decide, fun j f h => by
      match j, h with
      | 0, h => simp at h; subst h; exact ⟨v1, rfl, rfl, by omega, by omega⟩
      | 1, h => simp at h; subst h; exact ⟨v2, rfl, rfl, by omega, by omega⟩
      | j + 2, h => simp at h⟩
    refine (words_k 4 [97, 100, 100] true false false 0 [1, 2] [v1, v2] v1 v2 v3 v4 nv V a1 lo bV oV k1 w hP wordOf4 (fun c w => ints100 _ _ c w) wp hd LV ok).mono ?_
    exact fun _ _ h => h
  · subst ho
    have fk : 1 ≤ v3 ∧ v3 ≤ 1000 := fk
    refine ⟨122, 210, false, true, false, 0, fun w mk K => operatorOf5 mk _ _ _ _ _ _ _ w K, fun _ => by kernel_rfl, fun _ _ => by kernel_rfl, fun w => form5 _ _ _ _ _ _ _ _ w, fun w hP LV => ?_⟩
    have wp : WordsP [1, 3] [v1, v3] 5 v1 v2 v3 v4 := ⟨rfl, by decide, fun j f h => by
      match j, h with
      | 0, h => simp at h; subst h; exact ⟨v1, rfl, rfl, by omega, by omega⟩
      | 1, h => simp at h; subst h; exact ⟨v3, rfl, rfl, by omega, by omega⟩
      | j + 2, h => simp at h⟩
    refine (words_k 5 [109, 97, 120, 112, 111, 111, 108] false true false 0 [1, 3] [v1, v3] v1 v2 v3 v4 nv V a1 lo bV oV k1 w hP wordOf5 (fun c w => ints010 _ _ c w) wp hd LV ok).mono ?_
    exact fun _ _ h => h
  · subst ho
    have fk : 1 ≤ v3 ∧ v3 ≤ 1000 := fk
    have fs : 1 ≤ v4 ∧ v4 ≤ 1000 := fs
    refine ⟨123, 213, false, true, true, (-1), fun w mk K => operatorOf6 mk _ _ _ _ _ _ _ w K, fun _ => by kernel_rfl, fun _ _ => by kernel_rfl, fun w => form6 _ _ _ _ _ _ _ _ w, fun w hP LV => ?_⟩
    have wp : WordsP [1, 3, 4] [v1, v3, v4] 6 v1 v2 v3 v4 := ⟨rfl, by decide, fun j f h => by
      match j, h with
      | 0, h => simp at h; subst h; exact ⟨v1, rfl, rfl, by omega, by omega⟩
      | 1, h => simp at h; subst h; exact ⟨v3, rfl, rfl, by omega, by omega⟩
      | 2, h => simp at h; subst h; exact ⟨v4, rfl, rfl, by omega, by omega⟩
      | j + 3, h => simp at h⟩
    refine (words_k 6 [99, 111, 110, 118] false true true (-1) [1, 3, 4] [v1, v3, v4] v1 v2 v3 v4 nv V a1 lo bV oV k1 w hP wordOf6 (fun c w => ints011 _ _ c w) wp hd LV ok).mono ?_
    exact fun _ _ h => h
  · subst ho
    refine ⟨124, 216, false, false, false, 4, fun w mk K => operatorOf7 mk _ _ _ _ _ _ _ w K, fun _ => by kernel_rfl, fun _ _ => by kernel_rfl, fun w => form7 _ _ _ _ _ _ _ _ w, fun w hP LV => ?_⟩
    have wp : WordsP [1] [v1] 7 v1 v2 v3 v4 := ⟨rfl, by decide, fun j f h => by
      match j, h with
      | 0, h => simp at h; subst h; exact ⟨v1, rfl, rfl, by omega, by omega⟩
      | j + 1, h => simp at h⟩
    refine (words_k 7 [110, 111, 114, 109] false false false 4 [1] [v1] v1 v2 v3 v4 nv V a1 lo bV oV k1 w hP wordOf7 (fun c w => ints000 _ _ c w) wp hd LV ok).mono ?_
    exact fun _ _ h => h

end Go.Proofs.YtlpabmcebpppfaaGreatDoor
