import Derived.Test.YtnogbaapcjjngaaGreatDoorOwnP27
import Derived.Test.YtnogbaapcjjngaaGreatDoorOwnP3
import Derived.Deep.DeepCutAuto
import Derived.Test.YtnogbaapcjjngaaGreatDoorOwnP20
import Derived.Test.YtnogbaapcjjngaaGreatDoorOwnP7
namespace Go.Proofs.YtnogbaapcjjngaaGreatDoor
open Go.RowKit

/-- What the sizes of lines are. -/
structure LinZ (ls : List (Nat × List ByteArray)) : Prop where
  len : ls.length ≤ 100001
  at_ : ∀ (j n : Nat) (ws : List ByteArray), ls[j]? = some (n, ws) → 0 < ws.length ∧ ws.length ≤ 100001 ∧ ∀ x ∈ ws, x.size ≤ 100000

theorem lnsF_mem {t : Nat} {L : List ByteArray} {r : Nat × List ByteArray} (h : r ∈ lnsF t L) : ∃ l ∈ L, r.2 = wordsB l ∧ wordsB l ≠ [] := by
  induction L generalizing t with
  | nil => simp [lnsF] at h
  | cons x xs ih =>
    rw [lnsF] at h
    split at h
    · obtain ⟨l, hl, e⟩ := ih h
      exact ⟨l, by simp [hl], e⟩
    · rename_i hx
      rcases List.mem_cons.1 h with rfl | h
      · exact ⟨x, by simp, rfl, hx⟩
      · obtain ⟨l, hl, e⟩ := ih h
        exact ⟨l, by simp [hl], e⟩

theorem lnsF_z {s : ByteArray} (hs : s.size ≤ 100000) : LinZ (lnsF 0 (pcs 10 s)) := by
  refine ⟨?_, fun j n ws h => ?_⟩
  · have := lnsF_len 0 (pcs 10 s)
    have := pcs_len 10 s
    omega
  · obtain ⟨l, hl, e, hne⟩ := lnsF_mem (List.mem_of_getElem? h)
    simp only at e
    subst e
    have h1 := pcs_le hl
    have h2 := words_len l
    exact ⟨List.length_pos_iff.2 hne, by omega, fun x hx => by have := (words_le hx).1; omega⟩

theorem drop_get {ls : List (Nat × List ByteArray)} {p : Nat} (h : p < ls.length) : ls.drop p = ((ls[p]).1, (ls[p]).2) :: ls.drop (p + 1) := by
  rw [List.drop_eq_getElem_cons h]

theorem since_set {w w' : World} {B c k : Nat} {v : Value} (s : w.Since B w') (h : B ≤ c) : w.Since B (w'.setCell ⟨c, k, none⟩ v) := by
  have b : But c w' (w'.setCell ⟨c, k, none⟩ v) := (But.refl c w').set k v
  exact ⟨b.os.trans s.os, b.tape.trans s.tape, b.output.trans s.output, Nat.le_trans s.size b.size, fun q hq => (Below.heap_setCell _ _ _ _ (fun e => by simp at e; omega)).trans (s.block q hq)⟩

theorem own_blk' {w w' : World} {base : Nat} {e : TypeId} {size : Nat} {v : Value} {n : Nat} {xs : List Value} (h : w.ownsRow base e size v n xs) (hk : ∀ g, v.ownBlock = some g → w'.heap[g]? = w.heap[g]?) : w'.ownsRow base e size v n xs := by
  obtain ⟨hl, h | ⟨g, cap, cur, rfl, hb, hh, hr⟩⟩ := h
  · exact ⟨hl, Or.inl h⟩
  · exact ⟨hl, Or.inr ⟨g, cap, cur, rfl, hb, (hk g (by simp [Value.ownBlock])).trans hh, hr⟩⟩

section
variable {w1 : World} {R C : Nat} {l7 l15 l16 l17 l18 l19 l20 : Bool} {t10 t40 t48 t49 t50 t51 : Value} {w w' : World}
end

/-- Two lists of numbers that grow beside each other; d is another block. -/
structure Two (w : World) (lo d : Nat) (vW vB : Value) (lW lB : List ByteArray) (xW xB : List Value) : Prop where
  W : OutR w lo vW lW.length (wd lW) (fun _ q => lo ≤ q ∧ q ≠ d ∧ vB.ownBlock ≠ some q) xW
  B : OutR w lo vB lB.length (wd lB) (fun _ q => lo ≤ q ∧ q ≠ d ∧ vW.ownBlock ≠ some q) xB
  sep : ∀ g, vW.ownBlock = some g → vB.ownBlock ≠ some g
  dW : vW.ownBlock ≠ some d
  dB : vB.ownBlock ≠ some d

section
variable {w w' : World} {lo d : Nat} {vW vW' vB : Value} {lW lB l : List ByteArray} {xW xB xr : List Value}
theorem Two.swap (h : Two w lo d vW vB lW lB xW xB) : Two w lo d vB vW lB lW xB xW := ⟨h.B, h.W, fun g e e' => h.sep g e' e, h.dB, h.dW⟩
theorem Two.keep (h : Two w lo d vW vB lW lB xW xB) (s : w.Since w.heap.size w') : Two w' lo d vW vB lW lB xW xB := ⟨h.W.keep s, h.B.keep s, h.sep, h.dW, h.dB⟩
theorem Two.put (h : Two w lo d vW vB lW lB xW xB) (s : But d w w') : Two w' lo d vW vB lW lB xW xB :=
  ⟨h.W.chg s.c (fun _ e e' => h.dW (e' ▸ e)) (fun _ _ hq e => hq.2.1 e), h.B.chg s.c (fun _ e e' => h.dB (e' ▸ e)) (fun _ _ hq e => hq.2.1 e), h.sep, h.dW, h.dB⟩
/-- The first of the two grown by numbers that lie from B on. -/
theorem Two.add {n B lo' : Nat} {vr : Value} (h : Two w lo d vW vB lW lB xW xB) (r : OutR w lo' vr n (wd l) (fun _ q => B ≤ q) xr) (hn : n ≤ l.length) (hl : lo ≤ lo') (hW : ∀ g, vW.ownBlock = some g → g < B) (hB : ∀ g, vB.ownBlock = some g → g < B) (hd : d < B) (hlo : lo ≤ B) (hB' : B ≤ w.heap.size)
    (g : w.grownBy w' vW.ownBlock) (own : w'.ownsRow lo 61 3 vW' (lW.length + n) (xW ++ xr)) (hat : vW'.ownBlock = vW.ownBlock ∨ vW'.ownBlock = some w.heap.size) : Two w' lo d vW' vB (lW ++ l.take n) lB (xW ++ xr) xB := by
  have O1 := h.W.append (r.lower hl) g own hat (fun i q _ _ hq => ⟨⟨by omega, by omega, fun e => by have := hB q e; omega⟩, fun e => by have := hW q e; omega⟩)
  have O2 : OutR w' lo vW' (lW ++ l.take n).length (wd (lW ++ l.take n)) (fun _ q => lo ≤ q ∧ q ≠ d ∧ vB.ownBlock ≠ some q) (xW ++ xr) := by
    have e1 : (lW ++ l.take n).length = lW.length + n := by rw [List.length_append, List.length_take, Nat.min_eq_left hn]
    rw [e1]
    refine O1.congr (fun i hi => ?_)
    rw [wd_append]
    show (if i < lW.length then wd lW i else wd l (i - lW.length)) = _
    split
    · rfl
    · exact (wd_take (by omega)).symm
  have hb1 : ∀ q, vW'.ownBlock = some q → vB.ownBlock ≠ some q := fun q e e' => by
    rcases hat with k | k
    · exact h.sep q (k.symm.trans e) e'
    · rw [e] at k; simp at k; have := hB q e'; omega
  have O3 : OutR w' lo vB lB.length (wd lB) (fun _ q => lo ≤ q ∧ q ≠ d ∧ vW'.ownBlock ≠ some q) xB := by
    have h1 := h.B.imp' (p' := fun _ q => (lo ≤ q ∧ q ≠ d ∧ vW.ownBlock ≠ some q) ∧ vW'.ownBlock ≠ some q) (fun i q _ hq hp => ⟨hp, fun e => by
      rcases hat with k | k
      · exact hp.2.2 (k.symm.trans e)
      · rw [e] at k; simp at k; omega⟩)
    have h2 := h1.chg (Chg.of_grown g) (fun q e e' => h.sep q e' e) (fun i q hq e' => hq.1.2.2 e')
    exact h2.imp' (fun i q _ _ hq => ⟨hq.1.1, hq.1.2.1, hq.2⟩)
  exact ⟨O2, O3, hb1, fun e => by
    rcases hat with k | k
    · exact h.dW (k.symm.trans e)
    · rw [e] at k; simp at k; omega, h.dB⟩
end

/-- A list of one number, as an append lays it. -/
theorem OutR.one {w : World} {B : Nat} {b : Bool} {u1 u2 : Value} {x : ByteArray} (R : WordR w (fun q => B ≤ q) (.agg #[.bool b, u1, u2]) x) (hb : (parseO x).1 = b) :
    OutR (w.alloc (.cells #[.bool b, u1, u2] 61)) w.heap.size (.slice (some ⟨w.heap.size, 0, none⟩) 1 1) 1 (wd [x]) (fun _ q => B ≤ q) [.bool b, u1, u2] := by
  have s := (World.Since.refl w.heap.size w).alloc (Nat.le_refl _) (.cells #[.bool b, u1, u2] 61)
  refine ⟨⟨rfl, Or.inr ⟨w.heap.size, 1, #[.bool b, u1, u2], rfl, Nat.le_refl _, heap_alloc_new w _, Nat.le_refl _, by unfold maxLen; omega, rfl, rfl⟩⟩, fun i hi => ?_⟩
  have : i = 0 := by omega
  subst this
  show ∃ v1 v2, _ ∧ _ ∧ _ ∧ WordR _ _ (.agg #[.bool (parseO x).1, v1, v2]) x
  rw [show (parseO (wd [x] 0)).1 = b from hb, hb]
  refine ⟨u1, u2, rfl, rfl, rfl, ?_⟩
  have R2 := RatW.imp (p' := fun q => B ≤ q ∧ (Value.slice (some ⟨w.heap.size, 0, none⟩) 1 1).ownBlock ≠ some q) R (fun g hg hp => ⟨hp, fun e => by simp [Value.ownBlock] at e; omega⟩)
  exact RatW.keep R2 s

theorem step_append_at {P : Program} {w : World} {ops : Array Oper} {o : Oper} {a : Act} {K : Act → World → Prop} {Q : Exit → Act → World → Prop} {E : Prop} (hgd : o.guard = none) (s x : Operand) (t : TypeId)
    (ho : o.op = .call { callee := .builtin .append, args := #[s, x], argTypes := #[t, t] })
    (base : Nat) (e : TypeId) (i : TypeInfo) (z : Value) (size bytes : Nat) (ht : P.underlying t = some (.slice e)) (hi : P.info? e = some i) (hz : i.zero = some z)
    (hsize : i.size = size) (hby : i.bytes = bytes) (hzs : z.cells.size = size) (hsz : 0 < size)
    (g0 c0 n : Nat) (xs : List Value) (hs : a.eval s = .slice (some ⟨g0, 0, none⟩) n c0) (hown : w.ownsRow base e size (.slice (some ⟨g0, 0, none⟩) n c0) n xs)
    (ad : Addr) (m c : Nat) (news : List Value) (hx : a.eval x = .slice (some ad) m c) (hl : news.length = m * size) (hnews : ∀ j u, news[j]? = some u → w.cell? (ad.add j) = some u) (h1 : ∀ u ∈ news, u.oneCell' = true)
    (h63 : n + m ≤ maxLen) (hbytes : (n + m) * bytes ≤ 140737488355328) (hbase : base ≤ w.heap.size) (H : Nat) (hH : w.heap.size = H)
    (h : ∀ g cap w', w'.ownsRow base e size (.slice (some ⟨g, 0, none⟩) (n + m) cap) (n + m) (xs ++ news) → w.grownBy w' (some g0) → (g = g0 ∨ g = H) → g < w'.heap.size → K (a.put o.dst (.slice (some ⟨g, 0, none⟩) (n + m) cap)) w') :
    if Region.wanted o (yielded ops a.tmps) = true then Oper.wp P o a w K Q else E := by
  have hw : Region.wanted o (yielded ops a.tmps) = true := by simp [Region.wanted, hgd]
  rw [if_pos hw]
  obtain ⟨v', w', hr, h2, h3, h4, h5⟩ := run_append_own_at (P := P) w base t o.type e i z size bytes ht hi hz hsize hby hzs hsz _ n xs hown ad m c news hl hnews h1 h63 hbytes hbase
  unfold Oper.wp execOp
  simp only [ho, resolve, invoke, builtin, Sem.run_bind, Sem.run_pure, Result.andThen_ok, List.map_toArray, List.map_cons, List.map_nil, hs, hx, hr]
  have h2' := h2
  obtain ⟨-, ⟨e0, -⟩ | ⟨g, cap, cur, rfl, -⟩⟩ := h2'
  · have := (h4.1 e0).1
    simp at this
  · refine h g cap w' h2 h3 ?_ (h2.lt g rfl).2
    rcases h5 with h5 | h5
    · simp [Value.ownBlock] at h5; exact Or.inl h5
    · simp [Value.ownBlock] at h5; exact Or.inr (h5.trans hH)

end Go.Proofs.YtnogbaapcjjngaaGreatDoor

namespace Go.Proofs.YtnogbaapcjjngaaGreatDoor
open Go.RowKit

def graphW : ByteArray := ⟨#[103, 114, 97, 112, 104]⟩
def boxW : ByteArray := ⟨#[98, 111, 120]⟩
def outputW : ByteArray := ⟨#[111, 117, 116, 112, 117, 116]⟩

/-- A kind of node: its number, its word, which fields it uses, how many numbers. -/
structure Kd where
  op : Int
  word : ByteArray
  ub : Bool
  uk : Bool
  us : Bool
  nums : Int
  fs : List Nat

def kd1 : Kd := ⟨1, ⟨#[100, 101, 110, 115, 101]⟩, false, true, false, -1, [1, 3]⟩
def kd2 : Kd := ⟨2, ⟨#[114, 101, 108, 117]⟩, false, false, false, 0, [1]⟩
def kd3 : Kd := ⟨3, ⟨#[108, 101, 97, 107, 121]⟩, false, false, false, 1, [1]⟩
def kd4 : Kd := ⟨4, ⟨#[97, 100, 100]⟩, true, false, false, 0, [1, 2]⟩
def kd5 : Kd := ⟨5, ⟨#[109, 97, 120, 112, 111, 111, 108]⟩, false, true, false, 0, [1, 3]⟩
def kd6 : Kd := ⟨6, ⟨#[99, 111, 110, 118]⟩, false, true, true, -1, [1, 3, 4]⟩
def kd7 : Kd := ⟨7, ⟨#[110, 111, 114, 109]⟩, false, false, false, 4, [1]⟩

/-- A line of this kind. -/
def kdOk (kd : Kd) (ws : List ByteArray) : Prop := shapeOk ws kd.word kd.fs.length kd.nums.toNat kd.nums
def isKd (kd : Kd) : Prop := kd = kd1 ∨ kd = kd2 ∨ kd = kd3 ∨ kd = kd4 ∨ kd = kd5 ∨ kd = kd6 ∨ kd = kd7
def nodeOk (ws : List ByteArray) : Prop := ∃ kd, isKd kd ∧ kdOk kd ws

/-- A shape taken apart. -/
theorem shape_iff {ws : List ByteArray} {nm : ByteArray} {ints least : Nat} {most : Int} : shapeOk ws nm ints least most ↔ ∃ is ns : List ByteArray, ws = nm :: (is ++ ns) ∧ is.length = ints ∧ (∀ x ∈ is, isInt x) ∧ (∀ x ∈ ns, numOk x) ∧ least ≤ ns.length ∧ (0 ≤ most → (ns.length : Int) ≤ most) := by
  constructor
  · rintro ⟨h1, h2, h3, h4⟩
    match ws, h1, h2, h3, h4 with
    | [], h1, _, _, _ => simp at h1
    | a :: r, h1, h2, h3, h4 =>
      simp only [List.head?_cons, Option.some.injEq] at h1
      subst h1
      simp only [List.length_cons] at h2 h3
      refine ⟨r.take ints, r.drop ints, by rw [List.take_append_drop], by rw [List.length_take]; omega, fun x hx => ?_, fun x hx => ?_, by rw [List.length_drop]; omega, fun h => by rw [List.length_drop]; have := h3 h; omega⟩
      · obtain ⟨j, hj, e⟩ := List.getElem_of_mem hx
        rw [List.length_take] at hj
        have h5 := (h4 (j + 1) (by omega) (by simp; omega)).1 (by omega)
        have e2 : wd (a :: r) (j + 1) = x := by
          unfold wd
          rw [List.getD_eq_getElem?_getD, List.getElem?_cons_succ, List.getElem?_eq_getElem (by omega)]
          simp only [List.getElem_take] at e
          exact e
        rw [e2] at h5; exact h5
      · obtain ⟨j, hj, e⟩ := List.getElem_of_mem hx
        rw [List.length_drop] at hj
        have h5 := (h4 (ints + j + 1) (by omega) (by simp; omega)).2 (by omega)
        have e2 : wd (a :: r) (ints + j + 1) = x := by
          unfold wd
          rw [List.getD_eq_getElem?_getD, List.getElem?_cons_succ, List.getElem?_eq_getElem (by omega)]
          simp only [List.getElem_drop] at e
          exact e
        rw [e2] at h5; exact h5
  · rintro ⟨is, ns, rfl, rfl, h1, h2, h3, h4⟩
    refine ⟨rfl, by simp; omega, fun h => by simp; have := h4 h; omega, fun i hi hi2 => ⟨fun h => ?_, fun h => ?_⟩⟩
    · obtain ⟨j, rfl⟩ : ∃ j, i = j + 1 := ⟨i - 1, by omega⟩
      have e2 : wd (nm :: (is ++ ns)) (j + 1) = is[j] := by
        unfold wd
        rw [List.getD_eq_getElem?_getD, List.getElem?_cons_succ, List.getElem?_append_left (by omega), List.getElem?_eq_getElem (by omega)]
        rfl
      rw [e2]; exact h1 _ (List.getElem_mem _)
    · obtain ⟨j, rfl⟩ : ∃ j, i = j + 1 := ⟨i - 1, by omega⟩
      simp at hi2
      have e2 : wd (nm :: (is ++ ns)) (j + 1) = ns[j - is.length] := by
        unfold wd
        rw [List.getD_eq_getElem?_getD, List.getElem?_cons_succ, List.getElem?_append_right (by omega), List.getElem?_eq_getElem (by omega)]
        rfl
      rw [e2]; exact h2 _ (List.getElem_mem _)

theorem shape_graph {ws : List ByteArray} : shapeOk ws graphW 2 0 0 ↔ ∃ x1 x2, ws = [graphW, x1, x2] ∧ isInt x1 ∧ isInt x2 := by
  rw [shape_iff]
  constructor
  · rintro ⟨is, ns, rfl, h1, h2, h3, h4, h5⟩
    have h5 := h5 (Int.le_refl _)
    have hn : ns = [] := List.length_eq_zero_iff.1 (by omega)
    subst hn
    match is, h1, h2 with
    | [a, b], _, h2 => exact ⟨a, b, by simp, h2 a (by simp), h2 b (by simp)⟩
  · rintro ⟨x1, x2, rfl, i1, i2⟩
    exact ⟨[x1, x2], [], rfl, rfl, by simp [i1, i2], by simp, by simp, by simp⟩
theorem shape_box {ws : List ByteArray} : shapeOk ws boxW 0 2 2 ↔ ∃ x1 x2, ws = [boxW, x1, x2] ∧ numOk x1 ∧ numOk x2 := by
  rw [shape_iff]
  constructor
  · rintro ⟨is, ns, rfl, h1, h2, h3, h4, h5⟩
    have h5 := h5 (by omega)
    have hn : is = [] := List.length_eq_zero_iff.1 h1
    subst hn
    have hl : ns.length = 2 := by omega
    match ns, hl, h3 with
    | [a, b], _, h2 => exact ⟨a, b, by simp, h2 a (by simp), h2 b (by simp)⟩
  · rintro ⟨x1, x2, rfl, i1, i2⟩
    exact ⟨[], [x1, x2], rfl, rfl, by simp, by simp [i1, i2], by simp, by simp⟩
theorem shape_out {ws : List ByteArray} : shapeOk ws outputW 1 0 0 ↔ ∃ x1, ws = [outputW, x1] ∧ isInt x1 := by
  rw [shape_iff]
  constructor
  · rintro ⟨is, ns, rfl, h1, h2, h3, h4, h5⟩
    have h5 := h5 (Int.le_refl _)
    have hn : ns = [] := List.length_eq_zero_iff.1 (by omega)
    subst hn
    match is, h1, h2 with
    | [a], _, h2 => exact ⟨a, by simp, h2 a (by simp)⟩
  · rintro ⟨x1, rfl, i1⟩
    exact ⟨[x1], [], rfl, rfl, by simp [i1], by simp, by simp, by simp⟩

/-- The fields of a node behind its first k ints. -/
def fldv (fs : List Nat) (ws : List ByteArray) : Nat → Nat → Int
  | 0, _ => 0
  | k + 1, g => if fs[k]? = some g then ((dv (wd ws (1 + k)) (wd ws (1 + k)).size : Nat) : Int) else fldv fs ws k g

/-- The node of a line. -/
def nodeD (kd : Kd) (ws : List ByteArray) : NodeD := ⟨kd.op, fldv kd.fs ws kd.fs.length 1, fldv kd.fs ws kd.fs.length 2, fldv kd.fs ws kd.fs.length 3, fldv kd.fs ws kd.fs.length 4, (ws.drop (1 + kd.fs.length)).length, numF (ws.drop (1 + kd.fs.length))⟩

theorem isKd.nums {kd : Kd} (h : isKd kd) : kd.nums = -1 ∨ 0 ≤ kd.nums ∧ kd.nums ≤ 4 := by
  rcases h with rfl | rfl | rfl | rfl | rfl | rfl | rfl <;> decide
theorem isKd.one {kd kd' : Kd} (h : isKd kd) (h' : isKd kd') (e : kd.word = kd'.word) : kd = kd' := by
  rcases h with rfl | rfl | rfl | rfl | rfl | rfl | rfl <;> rcases h' with rfl | rfl | rfl | rfl | rfl | rfl | rfl <;> first | rfl | (exact absurd e (by decide))
theorem isKd.nout {kd : Kd} (h : isKd kd) : kd.word ≠ outputW := by
  rcases h with rfl | rfl | rfl | rfl | rfl | rfl | rfl <;> decide

theorem ba_beq {x y : ByteArray} (h : x ≠ y) : (x == y) = false := by
  cases hb : (x == y) with
  | false => rfl
  | true =>
    refine absurd ?_ h
    cases x with | mk a =>
    cases y with | mk b =>
    have hb : (a == b) = true := hb
    rw [eq_of_beq hb]

/-- A word that is no kind's is not found. -/
theorem find_no {x : ByteArray} (h : ∀ kd, isKd kd → kd.word ≠ x) : Instr.findNow .string (.string x) kindsE.toList 0 = some none := by
  have key : ∀ kd, isKd kd → (x == kd.word) = false := fun kd hk => by
    exact ba_beq (fun e => h kd hk e.symm)
  have k1 := key kd1 (Or.inl rfl)
  have k2 := key kd2 (Or.inr (Or.inl rfl))
  have k3 := key kd3 (Or.inr (Or.inr (Or.inl rfl)))
  have k4 := key kd4 (Or.inr (Or.inr (Or.inr (Or.inl rfl))))
  have k5 := key kd5 (Or.inr (Or.inr (Or.inr (Or.inr (Or.inl rfl)))))
  have k6 := key kd6 (Or.inr (Or.inr (Or.inr (Or.inr (Or.inr (Or.inl rfl))))))
  have k7 := key kd7 (Or.inr (Or.inr (Or.inr (Or.inr (Or.inr (Or.inr rfl))))))
  simp only [kd1, kd2, kd3, kd4, kd5, kd6, kd7] at k1 k2 k3 k4 k5 k6 k7
  simp only [kindsE, Instr.findNow, Instr.sameNow, k1, k2, k3, k4, k5, k6, k7]

end Go.Proofs.YtnogbaapcjjngaaGreatDoor

namespace Go.Proofs.YtnogbaapcjjngaaGreatDoor
open Go.RowKit

theorem Box6.but {w w' : World} {c d : Nat} {x y z u v t : Value} (h : Box6 w d x y z u v t) (s : But c w w') (hn : d ≠ c) : Box6 w' d x y z u v t := by
  have kd := s.block d h.lt (by simpa using hn)
  refine ⟨(World.cell?_of_block (a := ⟨d, 0, none⟩) kd).trans h.c0, (World.cell?_of_block (a := ⟨d, 1, none⟩) kd).trans h.c1, (World.cell?_of_block (a := ⟨d, 2, none⟩) kd).trans h.c2, (World.cell?_of_block (a := ⟨d, 3, none⟩) kd).trans h.c3, (World.cell?_of_block (a := ⟨d, 4, none⟩) kd).trans h.c4, (World.cell?_of_block (a := ⟨d, 5, none⟩) kd).trans h.c5, fun j => ?_⟩
  have := h.f j
  unfold World.frozen? at this ⊢
  rw [kd]; exact this
theorem Kinds.but {w w' : World} {c m : Nat} (h : Kinds w m) (s : But c w w') (hn : m ≠ c) : Kinds w' m := by
  unfold Kinds
  rw [s.block m h.lt (by simpa using hn)]
  exact h

/-- How takeHead ends. -/
def HeadE (w' : World) (c bl t d : Nat) (L : List ByteArray) (y z u v : Value) (w : World) (e : Ending) : Prop :=
  (lnsF t (L.drop t) = [] ∧ e = Wrong ((L.length : Int) + 1)) ∨
  ∃ n ws rest, lnsF t (L.drop t) = (n, ws) :: rest ∧ ((¬ shapeOk ws graphW 2 0 0 ∧ e = Wrong n) ∨
    ∃ x1 x2 wb, ws = [graphW, x1, x2] ∧ isInt x1 ∧ isInt x2 ∧ e = .returned (.tuple #[]) ∧ Rdr w' c bl wb L n [] ∧ w.heap.size ≤ wb ∧ lnsF n (L.drop n) = rest ∧ Box6 w' d (.int .i64 (dv x1 x1.size : Nat)) (.int .i64 (dv x2 x2.size : Nat)) y z u v)

/-- Two blocks were changed. -/
def But2 (c d : Nat) (w w' : World) : Prop := Chg (fun q => q = c ∨ q = d) w w'
theorem But2.refl (c d : Nat) (w : World) : But2 c d w w := ⟨rfl, rfl, rfl, Nat.le_refl _, fun _ _ _ => rfl⟩
theorem But2.l {c d : Nat} {w w1 w2 : World} (h : But2 c d w w1) (b : But c w1 w2) : But2 c d w w2 :=
  ⟨b.os.trans h.os, b.tape.trans h.tape, b.output.trans h.output, Nat.le_trans h.size b.size, fun q hq hn => (b.block q (Nat.lt_of_lt_of_le hq h.size) (by simp; exact fun e => hn (Or.inl e))).trans (h.block q hq hn)⟩
theorem But2.r {c d : Nat} {w w1 w2 : World} (h : But2 c d w w1) (b : But d w1 w2) : But2 c d w w2 :=
  ⟨b.os.trans h.os, b.tape.trans h.tape, b.output.trans h.output, Nat.le_trans h.size b.size, fun q hq hn => (b.block q (Nat.lt_of_lt_of_le hq h.size) (by simp; exact fun e => hn (Or.inr e))).trans (h.block q hq hn)⟩

set_option maxHeartbeats 6400000 in
set_option maxRecDepth 100000 in
theorem takeHead_q (c bl wb t d : Nat) (L ws0 : List ByteArray) (z0 z1 : Int) (y z u v : Value) (w : World) (h : Rdr w c bl wb L t ws0) (B : Box6 w d (.int .i64 z0) (.int .i64 z1) y z u v) (hdc : d ≠ c) (hdb : d ≠ bl) :
    Calls Tryz.prog 70 #[.pointer (some ⟨c, 0, none⟩), .pointer (some ⟨d, 0, none⟩)] w fun e w' => But2 c d w w' ∧ HeadE w' c bl t d L y z u v w e := by
  have hdl := B.lt
  go_enter Tryz.func70, Tryz.ntmps70
  go_wp2_with fail
  refine (needLine_q c bl wb t L ws0 w h).mono ?_
  rintro e w1 ⟨B1, ⟨e1, rfl⟩ | ⟨n0, l, rest1, wb1, e1, rfl, R1, hw1, e2, hl0⟩⟩
  · have E1 := hide e1
    clear e1
    unfold Wrong
    go_wp2
    exact ⟨rfl, (But2.refl c d w).l B1, Or.inl ⟨E1.out, rfl⟩⟩
  have E1 := hide e1
  have E2 := hide e2
  have C1 := (But2.refl c d w).l B1
  have b1 := B.but B1 hdc
  have hwd : wb1 ≠ d := by omega
  clear e1 e2
  go_wp2_with fail
  refine (takeThe_q graphW c bl wb1 n0 L l w1 R1).mono ?_
  rintro e w2 ⟨B2, ⟨h2, rfl⟩ | ⟨l1, h2, rfl, R2⟩⟩
  · have HNO : Hid (¬ shapeOk l graphW 2 0 0) := hide (fun hs => by
      obtain ⟨x1, x2, e, -⟩ := shape_graph.1 hs
      exact h2 _ e)
    clear h2
    unfold Wrong
    go_wp2
    exact ⟨rfl, C1.l B2, Or.inr ⟨n0, l, rest1, E1.out, Or.inl ⟨HNO.out, rfl⟩⟩⟩
  subst h2
  have b2 := b1.but B2 hdc
  go_wp2_with fail
  refine (takeInt_q c bl wb1 n0 L l1 w2 R2).mono ?_
  rintro e w3 ⟨B3, ⟨h3, rfl⟩ | ⟨x1, l2, h3, i1, rfl, R3⟩⟩
  · have HNO : Hid (¬ shapeOk (graphW :: l1) graphW 2 0 0) := hide (fun hs => by
      obtain ⟨x1, x2, e, j1, -⟩ := shape_graph.1 hs
      simp only [List.cons.injEq, true_and] at e
      exact h3 _ _ e j1)
    clear h3
    unfold Wrong
    go_wp2
    exact ⟨rfl, (C1.l B2).l B3, Or.inr ⟨n0, _, rest1, E1.out, Or.inl ⟨HNO.out, rfl⟩⟩⟩
  subst h3
  have b3 := b2.but B3 hdc
  obtain ⟨V1, hV1⟩ : ∃ V, dv x1 x1.size = V := ⟨_, rfl⟩
  rw [hV1]
  have HV1 := hide hV1
  have p0 := b3.c0
  have f0 := b3.f 0
  have BS1 : But d w3 (w3.setCell ⟨d, 0, none⟩ (.int .i64 (V1 : Int))) := (But.refl d w3).set 0 _
  have b4 := b3.set0 (.int .i64 (V1 : Int))
  have R4 := R3.oth BS1 (by omega) (by omega) (by omega)
  have C4 := ((C1.l B2).l B3).r BS1
  have I1 := hide i1
  clear hV1 i1
  go_wp2_with fail
  generalize w3.setCell ⟨d, 0, none⟩ (.int .i64 (V1 : Int)) = w4 at *
  clear p0 f0 BS1
  refine (takeInt_q c bl wb1 n0 L l2 w4 R4).mono ?_
  rintro e w5 ⟨B5, ⟨h5, rfl⟩ | ⟨x2, l3, h5, i2, rfl, R5⟩⟩
  · have HNO : Hid (¬ shapeOk (graphW :: x1 :: l2) graphW 2 0 0) := hide (fun hs => by
      obtain ⟨y1, y2, e, _, j2⟩ := shape_graph.1 hs
      simp only [List.cons.injEq, true_and] at e
      exact h5 _ _ e.2 j2)
    clear h5
    unfold Wrong
    go_wp2
    exact ⟨rfl, C4.l B5, Or.inr ⟨n0, _, rest1, E1.out, Or.inl ⟨HNO.out, rfl⟩⟩⟩
  subst h5
  have b5 := b4.but B5 hdc
  obtain ⟨V2, hV2⟩ : ∃ V, dv x2 x2.size = V := ⟨_, rfl⟩
  rw [hV2]
  have HV2 := hide hV2
  have p0 := b5.c1
  have f0 := b5.f 1
  have BS1 : But d w5 (w5.setCell ⟨d, 1, none⟩ (.int .i64 (V2 : Int))) := (But.refl d w5).set 1 _
  have b6 := b5.set1 (.int .i64 (V2 : Int))
  have R6 := R5.oth BS1 (by omega) (by omega) (by omega)
  have C6 := (C4.l B5).r BS1
  have I2 := hide i2
  clear hV2 i2
  go_wp2_with fail
  generalize w5.setCell ⟨d, 1, none⟩ (.int .i64 (V2 : Int)) = w6 at *
  clear p0 f0 BS1
  refine (endLine_q c bl wb1 n0 L l3 w6 R6).mono ?_
  rintro e w7 ⟨rfl, ⟨h7, rfl⟩ | ⟨h7, rfl⟩⟩
  · subst h7
    go_wp2
    go_end0
    exact ⟨C6, Or.inr ⟨n0, _, rest1, E1.out, Or.inr ⟨x1, x2, wb1, rfl, I1.out, I2.out, rfl, R6, hw1, E2.out, by rw [HV1.out, HV2.out]; exact b6⟩⟩⟩
  · have HNO : Hid (¬ shapeOk (graphW :: x1 :: x2 :: l3) graphW 2 0 0) := hide (fun hs => by
      obtain ⟨y1, y2, e, _⟩ := shape_graph.1 hs
      simp only [List.cons.injEq, true_and] at e
      exact h7 e.2.2)
    clear h7
    unfold Wrong
    go_wp2
    exact ⟨rfl, C6, Or.inr ⟨n0, _, rest1, E1.out, Or.inl ⟨HNO.out, rfl⟩⟩⟩

end Go.Proofs.YtnogbaapcjjngaaGreatDoor

namespace Go.Proofs.YtnogbaapcjjngaaGreatDoor
open Go.RowKit

/-- The two lists of a box's sides that are read; d is the graph's block. -/
structure SideO (w : World) (lo d : Nat) (vL vH : Value) (lL lH : List ByteArray) (xL xH : List Value) : Prop where
  T : Two w lo d vL vH lL lH xL xH
  A : Apt lo w.heap.size (xL ++ xH)

/-- How takeSide ends. -/
def SideE (w w' : World) (c bl t lo d : Nat) (L : List ByteArray) (x y : Value) (lL lH : List ByteArray) (u v : Value) (e : Ending) : Prop :=
  (lnsF t (L.drop t) = [] ∧ e = Wrong ((L.length : Int) + 1)) ∨
  ∃ n ws rest, lnsF t (L.drop t) = (n, ws) :: rest ∧ ((¬ shapeOk ws boxW 0 2 2 ∧ e = Wrong n) ∨
    ∃ x1 x2 wb aL cL aH cH xL' xH', ws = [boxW, x1, x2] ∧ numOk x1 ∧ numOk x2 ∧ e = .returned (.tuple #[]) ∧ Rdr w' c bl wb L n [] ∧ w.heap.size ≤ wb ∧ lnsF n (L.drop n) = rest ∧ Box6 w' d x y (.slice aL (lL.length + 1) cL) (.slice aH (lH.length + 1) cH) u v ∧ SideO w' lo d (.slice aL (lL.length + 1) cL) (.slice aH (lH.length + 1) cH) (lL ++ [x1]) (lH ++ [x2]) xL' xH')

theorem Two.but {w w' : World} {lo d c : Nat} {vW vB : Value} {lW lB : List ByteArray} {xW xB : List Value} (h : Two w lo d vW vB lW lB xW xB) (s : But c w w') (hc : c < lo) : Two w' lo d vW vB lW lB xW xB :=
  ⟨h.W.but s hc (fun _ _ hq => hq.1), h.B.but s hc (fun _ _ hq => hq.1), h.sep, h.dW, h.dB⟩

/-- What a number appended to the first of two lists makes. -/
theorem Two.push {w1 w' : World} {lo d B : Nat} {vW vB vW' : Value} {lW lB : List ByteArray} {xW xB : List Value} {b : Bool} {u1 u2 : Value} {x : ByteArray} (h : Two w1 lo d vW vB lW lB xW xB) (R : WordR w1 (fun q => B ≤ q) (.agg #[.bool b, u1, u2]) x) (hb : (parseO x).1 = b) (hW : ∀ g, vW.ownBlock = some g → g < B) (hB : ∀ g, vB.ownBlock = some g → g < B) (hd : d < B) (hlo : lo ≤ B) (hB' : B ≤ w1.heap.size)
    (g : (w1.alloc (.cells #[.bool b, u1, u2] 61)).grownBy w' vW.ownBlock) (own : w'.ownsRow lo 61 3 vW' (lW.length + 1) (xW ++ [.bool b, u1, u2])) (hat : vW'.ownBlock = vW.ownBlock ∨ vW'.ownBlock = some (w1.heap.size + 1)) :
    Two w' lo d vW' vB (lW ++ [x]) lB (xW ++ [.bool b, u1, u2]) xB := by
  have sW := (World.Since.refl w1.heap.size w1).alloc (Nat.le_refl _) (.cells #[.bool b, u1, u2] 61)
  have zW : (w1.alloc (.cells #[.bool b, u1, u2] 61)).heap.size = w1.heap.size + 1 := by simp
  exact (h.keep sW).add (OutR.one R hb) (Nat.le_refl _) (by omega) hW hB hd hlo (by omega) g own (by rw [zW]; exact hat)

theorem Box6.blk9 {w w' : World} {c : Nat} {x y z u v t : Value} (h : Box6 w c x y z u v t) (e : w'.heap[c]? = w.heap[c]?) : Box6 w' c x y z u v t :=
  ⟨(World.cell?_of_block (a := ⟨c, 0, none⟩) e).trans h.c0, (World.cell?_of_block (a := ⟨c, 1, none⟩) e).trans h.c1, (World.cell?_of_block (a := ⟨c, 2, none⟩) e).trans h.c2, (World.cell?_of_block (a := ⟨c, 3, none⟩) e).trans h.c3, (World.cell?_of_block (a := ⟨c, 4, none⟩) e).trans h.c4, (World.cell?_of_block (a := ⟨c, 5, none⟩) e).trans h.c5, fun o => by
    have := h.f o
    unfold World.frozen? at this ⊢
    rw [e]; exact this⟩

theorem chg_but {R : Nat → Prop} {c : Nat} {w w1 w2 : World} (h : Chg R w w1) (b : But c w1 w2) (hc : R c) : Chg R w w2 :=
  ⟨b.os.trans h.os, b.tape.trans h.tape, b.output.trans h.output, Nat.le_trans h.size b.size, fun q hq hn => (b.block q (Nat.lt_of_lt_of_le hq h.size) (by simp; exact fun e => hn (e ▸ hc))).trans (h.block q hq hn)⟩
theorem chg_since {R : Nat → Prop} {w w1 w2 : World} (h : Chg R w w1) (s : w1.Since w1.heap.size w2) : Chg R w w2 :=
  ⟨s.os.trans h.os, s.tape.trans h.tape, s.output.trans h.output, Nat.le_trans h.size s.size, fun q hq hn => (s.block q (Nat.lt_of_lt_of_le hq h.size)).trans (h.block q hq hn)⟩
theorem chg_grown {R : Nat → Prop} {r : Option Nat} {w w1 w2 : World} (h : Chg R w w1) (g : w1.grownBy w2 r) (hr : ∀ q, r = some q → q < w.heap.size → R q) : Chg R w w2 :=
  ⟨g.os.trans h.os, g.tape.trans h.tape, g.output.trans h.output, Nat.le_trans h.size g.size, fun q hq hn => (g.block q (Nat.lt_of_lt_of_le hq h.size) (fun e => hn (hr q e.symm hq))).trans (h.block q hq hn)⟩

set_option maxHeartbeats 12800000 in
set_option maxRecDepth 100000 in
theorem takeSide_q (c bl wb t d lo nL nH cL cH : Nat) (aL aH : Option Addr) (L ws0 : List ByteArray) (x y : Value) (lL lH : List ByteArray) (xL xH : List Value) (u v : Value) (w : World) (h : Rdr w c bl wb L t ws0) (B : Box6 w d x y (.slice aL nL cL) (.slice aH nH cH) u v) (O : SideO w lo d (.slice aL nL cL) (.slice aH nH cH) lL lH xL xH) (hnL : lL.length = nL) (hnH : lH.length = nH) (hdc : d ≠ c) (hdb : d ≠ bl) (hcl : c < lo) (hbl : bl < lo) (hdl : d < lo) (hlo : lo ≤ w.heap.size) (hll : nL ≤ 1000000) (hhl : nH ≤ 1000000) :
    Calls Tryz.prog 71 #[.pointer (some ⟨c, 0, none⟩), .pointer (some ⟨d, 0, none⟩)] w fun e w' => Chg (fun q => q = c ∨ q = d ∨ lo ≤ q) w w' ∧ SideE w w' c bl t lo d L x y lL lH u v e := by
  obtain ⟨i0, hi, hz0, hz1, hz2⟩ := infoRat
  have HNL := hide hnL
  have HNH := hide hnH
  have HA := hide O.A
  have HT := hide O.T
  have HT0 := hide O.T
  have C0 : Chg (fun q => q = c ∨ q = d ∨ lo ≤ q) w w := ⟨rfl, rfl, rfl, Nat.le_refl _, fun _ _ _ => rfl⟩
  clear hnL hnH O
  go_enter Tryz.func71, Tryz.ntmps71
  go_wp2_with fail
  refine (needLine_q c bl wb t L ws0 w h).mono ?_
  rintro e w1 ⟨B1, ⟨e1, rfl⟩ | ⟨n0, l, rest1, wb1, e1, rfl, R1, hw1, e2, hl0⟩⟩
  · have E1 := hide e1
    clear e1
    unfold Wrong
    go_wp2
    exact ⟨rfl, chg_but C0 B1 (Or.inl rfl), Or.inl ⟨E1.out, rfl⟩⟩
  have E1 := hide e1
  have E2 := hide e2
  have C1 := chg_but C0 B1 (Or.inl rfl)
  have b1 := B.but B1 hdc
  have z1 := B1.size
  clear e1 e2
  go_wp2_with fail
  refine (takeThe_q boxW c bl wb1 n0 L l w1 R1).mono ?_
  rintro e w2 ⟨B2, ⟨h2, rfl⟩ | ⟨l1, h2, rfl, R2⟩⟩
  · have HNO : Hid (¬ shapeOk l boxW 0 2 2) := hide (fun hs => by
      obtain ⟨x1, x2, e, -⟩ := shape_box.1 hs
      exact h2 _ e)
    clear h2
    unfold Wrong
    go_wp2
    exact ⟨rfl, chg_but C1 B2 (Or.inl rfl), Or.inr ⟨n0, l, rest1, E1.out, Or.inl ⟨HNO.out, rfl⟩⟩⟩
  subst h2
  have b2 := b1.but B2 hdc
  have C2 := chg_but C1 B2 (Or.inl rfl)
  have z2 := B2.size
  have T2 := hide ((HT.out.but B1 hcl).but B2 hcl)
  have A2 : Hid (Apt lo w2.heap.size (xL ++ xH)) := hide (HA.out.wide (Nat.le_refl _) (by omega))
  clear b1 R1 B1 B2 HT HA
  by_cases hnum0 : ∃ x r, l1 = x :: r ∧ (parseO x).2.2.2 = 0
  rotate_left
  · have HNO : Hid (¬ shapeOk (boxW :: l1) boxW 0 2 2) := hide (fun hs => by
      obtain ⟨y1, y2, e, j1, j2⟩ := shape_box.1 hs
      simp only [List.cons.injEq, true_and] at e
      exact hnum0 ⟨y1, [y2], e, j1⟩)
    have JP : Calls Tryz.prog 99 #[.pointer (some ⟨c, 0, none⟩)] w2.drew fun e w' => But c w2 w' ∧ e = Wrong n0 := by
      have dr : w2.Since w2.heap.size w2.drew := (World.Since.refl _ _).drew
      refine (takeNum_q c bl wb1 n0 L l1 w2.drew (R2.keep dr)).mono ?_
      rintro e w' ⟨Bq, ⟨-, he⟩ | ⟨x, r, v, hx, hk, -⟩⟩
      · exact ⟨(But.of dr).trans Bq, he⟩
      · exact absurd ⟨x, r, hx, hk⟩ hnum0
    have p0 := b2.c2
    clear hnum0
    go_wp2_with fail
    refine wp_region_held_drew (S := fun w' => w'.cell? ⟨d, 2, none⟩ = some (.slice aL nL cL)) (by kernel_rfl) ?_ (fun hHeld => ?_)
    · simpa using p0
    refine take_at 0 (some 8) (.pointer (some ⟨d, 0, none⟩)) rfl (by kernel_rfl) (by kernel_rfl) (by kernel_rfl) (by kernel_rfl) (fun _ _ _ h => h) (by kernel_rfl) (by assumption) ?_ ?_
    · intro w' hSw
      try dsimp only at hSw
      go_simp
    simp only [Act.put, List.setIfInBounds_toArray, List.set_cons_zero, List.set_cons_succ]
    refine take_at 1 (some 9) (.pointer (some ⟨d, 0, none⟩)) rfl (by kernel_rfl) (by kernel_rfl) (by kernel_rfl) (by kernel_rfl) (fun _ _ _ h => h) (by kernel_rfl) (by assumption) ?_ ?_
    · intro w' hSw
      try dsimp only at hSw
      go_simp
    simp only [Act.put, List.setIfInBounds_toArray, List.set_cons_zero, List.set_cons_succ]
    refine take_at 2 (some 10) (.pointer (some ⟨d, 0, none⟩)) rfl (by kernel_rfl) (by kernel_rfl) (by kernel_rfl) (by kernel_rfl) (fun _ _ _ h => h) (by kernel_rfl) (by assumption) ?_ ?_
    · intro w' hSw
      try dsimp only at hSw
      go_simp
    simp only [Act.put, List.setIfInBounds_toArray, List.set_cons_zero, List.set_cons_succ]
    refine take_at 3 (some 11) (.pointer (some ⟨d, 2, none⟩)) rfl (by kernel_rfl) (by kernel_rfl) (by kernel_rfl) (by kernel_rfl) (fun _ _ _ h => h) (by kernel_rfl) (by assumption) ?_ ?_
    · intro w' hSw
      try dsimp only at hSw
      go_simp
    simp only [Act.put, List.setIfInBounds_toArray, List.set_cons_zero, List.set_cons_succ]
    refine take_at 4 (some 12) (.slice aL nL cL) rfl (by kernel_rfl) (by kernel_rfl) (by kernel_rfl) (by kernel_rfl) (fun _ _ _ h => h) (by kernel_rfl) (by assumption) ?_ ?_
    · intro w' hSw
      try dsimp only at hSw
      go_simp
    simp only [Act.put, List.setIfInBounds_toArray, List.set_cons_zero, List.set_cons_succ]
    refine take_at 5 (some 13) (.pointer (some ⟨c, 0, none⟩)) rfl (by kernel_rfl) (by kernel_rfl) (by kernel_rfl) (by kernel_rfl) (fun _ _ _ h => h) (by kernel_rfl) (by assumption) ?_ ?_
    · intro w' hSw
      try dsimp only at hSw
      go_simp
    simp only [Act.put, List.setIfInBounds_toArray, List.set_cons_zero, List.set_cons_succ]
    refine wpAnyH_ready (rs := [6]) (by kernel_rfl) (by simp) ?_
    refine AllReadyH.cons rfl (fun K hK => ?_) AllReadyH.nil
    go_simp
    refine JP.mono ?_
    rintro e w3 ⟨B3, rfl⟩
    unfold Wrong
    have C3 := chg_but C2 B3 (Or.inl rfl)
    clear JP
    go_wp2
    exact ⟨rfl, C3, Or.inr ⟨n0, _, rest1, E1.out, Or.inl ⟨HNO.out, rfl⟩⟩⟩
  obtain ⟨x1, l2, rfl, hk0⟩ := hnum0
  have HK0 := hide hk0
  have dr2 : w2.Since w2.heap.size w2.drew := (World.Since.refl _ _).drew
  have JO0 : Calls Tryz.prog 99 #[.pointer (some ⟨c, 0, none⟩)] w2.drew fun e w' => But c w2 w' ∧ ∃ v, e = .returned v ∧ RatV w' v (parseO x1).1 (parseO x1).2.1 (parseO x1).2.2.1 w2.heap.size 67108864 ∧ Rdr w' c bl wb1 L n0 l2 := by
    refine (takeNum_q c bl wb1 n0 L (x1 :: l2) w2.drew (R2.keep dr2)).mono ?_
    rintro e w' ⟨Bq, ⟨hno, -⟩ | ⟨y, r, v, hy, -, he, hv, hr⟩⟩
    · exact absurd HK0.out (hno _ _ rfl)
    · simp only [List.cons.injEq] at hy
      obtain ⟨rfl, rfl⟩ := hy
      exact ⟨(But.of dr2).trans Bq, v, he, hv, hr⟩
  have own0 : ∀ g, (Value.slice aL nL cL).ownBlock = some g → lo ≤ g ∧ g < w2.heap.size := fun g e => (T2.out.W.own.lt g e)
  have oth0 : ∀ g, (Value.slice aH nH cH).ownBlock = some g → lo ≤ g ∧ g < w2.heap.size := fun g e => (T2.out.B.own.lt g e)
  have nod0 : (Value.slice aL nL cL).ownBlock ≠ some d := fun e => by have := own0 d e; omega
  have p0 := b2.c2
  have q0 : w2.drew.cell? ⟨d, 2, none⟩ = some (.slice aL nL cL) := p0
  have f0 := b2.f 2
  clear hk0
  have hwb0 : ∀ e : (Value.slice aL nL cL).ownBlock = some wb1, False := fun e => by
    have h9 := HT0.out.W.own.lt wb1 e
    omega
  go_upto_region 2 with fail
  go_cut [] (fun wx => ∃ (g5 c5 : Nat) (x5 : List Value), Hid (Box6 wx d x y (.slice (some ⟨g5, 0, none⟩) (nL + 1) c5) (.slice aH nH cH) u v) ∧ Hid (Two wx lo d (.slice (some ⟨g5, 0, none⟩) (nL + 1) c5) (.slice aH nH cH) (lL ++ [x1]) lH x5 xH) ∧ Hid (Apt lo wx.heap.size (x5 ++ xH)) ∧ Hid (Rdr wx c bl wb1 L n0 l2) ∧ Chg (fun q => q = c ∨ q = d ∨ lo ≤ q) w wx)
  case first =>
    go_region_law
      (first
        | (refine step_append_lies _ rfl _ _ 30 rfl lo 61 i0 _ 3 56 Tryz.underlying30 hi hz0 hz1 hz2 rfl (by decide) _ nL xL rfl (O3.out.alloc _) ⟨w3.heap.size, 0, none⟩ 1 1 [.bool nb, .slice a1 q1 c1, .slice a2 q2 c2] rfl rfl (newR _ _ _ _ _) (oneR _ _ _ _ _ _ _) (by decide) (by unfold maxLen; omega) (by omega) (by simp; omega) (w3.heap.size + 1) (by simp) ?_
           intro g5 c5 w4 hown hgrow hat hlt4
           have BX4 := (BX3.keep sW).blk9 (hgrow.block d (by simp; omega) (fun e => nod0 e.symm))
           have r4 := BX4.c2
           have rf4 := BX4.f 2)
        | (go_simp
           go_at_call 99
           with_reducible refine JO0.mono ?_
           rintro e w3 ⟨B3, vv, rfl, RV, R3⟩
           have W3 := RV.w
           obtain ⟨v1, v2, g1, g2, rfl, N1, N2, -, -, -⟩ := RV
           obtain ⟨a1, q1, c1, Y1, rfl, -⟩ := N1
           obtain ⟨a2, q2, c2, Y2, rfl, -⟩ := N2
           obtain ⟨nb, hnb⟩ : ∃ b, (parseO x1).1 = b := ⟨_, rfl⟩
           have W3 : Hid (WordR w3 (fun q => w2.heap.size ≤ q) (.agg #[.bool nb, .slice a1 q1 c1, .slice a2 q2 c2]) x1) := hide (by rw [← hnb]; exact W3)
           rw [hnb]
           have HNB := hide hnb
           have sW := (World.Since.refl w3.heap.size w3).alloc (Nat.le_refl _) (.cells #[.bool nb, .slice a1 q1 c1, .slice a2 q2 c2] 61)
           have BX3 := b2.but B3 hdc
           have p3 := BX3.c2
           have p3' := (BX3.keep sW).c2
           have O3 : Hid (w3.ownsRow lo 61 3 (.slice aL nL cL) nL xL) := hide (by have := (T2.out.but B3 hcl).W.own; rw [HNL.out] at this; exact this)
           have z3 := B3.size
           have T3 := hide (T2.out.but B3 hcl)
           clear hnb))
    all_goals
      have T4 := T3.out.push W3.out HNB.out (vW' := (.slice (some ⟨g5, 0, none⟩) (nL + 1) c5)) (fun g e => (own0 g e).2) (fun g e => (oth0 g e).2) (by omega) (by omega) z3 hgrow (by rw [HNL.out]; exact hown) (by
        rcases hat with h9 | h9
        · exact Or.inl h9.symm
        · right; rw [h9]; rfl)
      have AP4 : Apt lo w4.heap.size ((xL ++ [.bool nb, .slice a1 q1 c1, .slice a2 q2 c2]) ++ xH) := by
        have h9 := A2.out.append (RatW.apt (lo := w2.heap.size) (hi := w3.heap.size) W3.out (fun g hg hp => ⟨hp, hg⟩)) (Nat.le_refl _) (by omega) z3
        refine (h9.wide (Nat.le_refl _) (by have := hgrow.size; simp at this; omega)).perm ?_
        rw [List.append_assoc, List.append_assoc]
        exact List.Perm.append_left _ List.perm_append_comm
      have BS : But d w4 (w4.setCell ⟨d, 2, none⟩ (.slice (some ⟨g5, 0, none⟩) (nL + 1) c5)) := (But.refl d w4).set 2 _
      have T5 := hide (T4.put BS)
      have BX5 := hide (BX4.set2 (.slice (some ⟨g5, 0, none⟩) (nL + 1) c5))
      have z4 := hgrow.size
      have z5 := BS.size
      have AP5 : Hid (Apt lo (w4.setCell ⟨d, 2, none⟩ (.slice (some ⟨g5, 0, none⟩) (nL + 1) c5)).heap.size ((xL ++ [.bool nb, .slice a1 q1 c1, .slice a2 q2 c2]) ++ xH)) := hide (AP4.wide (Nat.le_refl _) z5)
      have R5 := hide (((R3.keep sW).chg (Chg.of_grown hgrow) (fun e => by have := own0 c e; omega) (fun e => by have := own0 bl e; omega) (fun e => hwb0 e)).oth BS (by omega) (by omega) (by omega))
      have C5 : Chg (fun q => q = c ∨ q = d ∨ lo ≤ q) w (w4.setCell ⟨d, 2, none⟩ (.slice (some ⟨g5, 0, none⟩) (nL + 1) c5)) := chg_but (chg_grown (chg_since (chg_but C2 B3 (Or.inl rfl)) sW) hgrow (fun q e _ => Or.inr (Or.inr (own0 q e).1))) BS (Or.inr (Or.inl rfl))
      have hz5 : w.heap.size ≤ (w4.setCell ⟨d, 2, none⟩ (.slice (some ⟨g5, 0, none⟩) (nL + 1) c5)).heap.size := C5.size
      clear T4 BS hown hgrow hat W3 O3 AP4 JO0
      go_wp2_with fail
      go_meet
      case rel => exact ⟨g5, c5, _, BX5, T5, AP5, R5, C5⟩
  case rest =>
  obtain ⟨g5, c5, x5, BX6, T6, A6, R6', C6⟩ := hcut
  clear JO0 p0 q0 f0 T2 A2 R2 b2 C2 own0 oth0 nod0 dr2
  rename World => w6
  have b6 := BX6.out
  have R6 := R6'.out
  have z6 := C6.size
  by_cases hnum1 : ∃ x r, l2 = x :: r ∧ (parseO x).2.2.2 = 0
  rotate_left
  · have HNO : Hid (¬ shapeOk (boxW :: x1 :: l2) boxW 0 2 2) := hide (fun hs => by
      obtain ⟨y1, y2, e, j1, j2⟩ := shape_box.1 hs
      simp only [List.cons.injEq, true_and] at e
      exact hnum1 ⟨y2, [], e.2, j2⟩)
    have JP : Calls Tryz.prog 99 #[.pointer (some ⟨c, 0, none⟩)] w6.drew fun e w' => But c w6 w' ∧ e = Wrong n0 := by
      have dr : w6.Since w6.heap.size w6.drew := (World.Since.refl _ _).drew
      refine (takeNum_q c bl wb1 n0 L l2 w6.drew (R6.keep dr)).mono ?_
      rintro e w' ⟨Bq, ⟨-, he⟩ | ⟨x, r, v, hx, hk, -⟩⟩
      · exact ⟨(But.of dr).trans Bq, he⟩
      · exact absurd ⟨x, r, hx, hk⟩ hnum1
    have p0 := b6.c3
    clear hnum1
    go_wp2_with fail
    refine wp_region_held_drew (S := fun w' => w'.cell? ⟨d, 3, none⟩ = some (.slice aH nH cH)) (by kernel_rfl) ?_ (fun hHeld => ?_)
    · simpa using p0
    refine take_at 0 (some 19) (.pointer (some ⟨d, 0, none⟩)) rfl (by kernel_rfl) (by kernel_rfl) (by kernel_rfl) (by kernel_rfl) (fun _ _ _ h => h) (by kernel_rfl) (by assumption) ?_ ?_
    · intro w' hSw
      try dsimp only at hSw
      go_simp
    simp only [Act.put, List.setIfInBounds_toArray, List.set_cons_zero, List.set_cons_succ]
    refine take_at 1 (some 20) (.pointer (some ⟨d, 0, none⟩)) rfl (by kernel_rfl) (by kernel_rfl) (by kernel_rfl) (by kernel_rfl) (fun _ _ _ h => h) (by kernel_rfl) (by assumption) ?_ ?_
    · intro w' hSw
      try dsimp only at hSw
      go_simp
    simp only [Act.put, List.setIfInBounds_toArray, List.set_cons_zero, List.set_cons_succ]
    refine take_at 2 (some 21) (.pointer (some ⟨d, 0, none⟩)) rfl (by kernel_rfl) (by kernel_rfl) (by kernel_rfl) (by kernel_rfl) (fun _ _ _ h => h) (by kernel_rfl) (by assumption) ?_ ?_
    · intro w' hSw
      try dsimp only at hSw
      go_simp
    simp only [Act.put, List.setIfInBounds_toArray, List.set_cons_zero, List.set_cons_succ]
    refine take_at 3 (some 22) (.pointer (some ⟨d, 3, none⟩)) rfl (by kernel_rfl) (by kernel_rfl) (by kernel_rfl) (by kernel_rfl) (fun _ _ _ h => h) (by kernel_rfl) (by assumption) ?_ ?_
    · intro w' hSw
      try dsimp only at hSw
      go_simp
    simp only [Act.put, List.setIfInBounds_toArray, List.set_cons_zero, List.set_cons_succ]
    refine take_at 4 (some 23) (.slice aH nH cH) rfl (by kernel_rfl) (by kernel_rfl) (by kernel_rfl) (by kernel_rfl) (fun _ _ _ h => h) (by kernel_rfl) (by assumption) ?_ ?_
    · intro w' hSw
      try dsimp only at hSw
      go_simp
    simp only [Act.put, List.setIfInBounds_toArray, List.set_cons_zero, List.set_cons_succ]
    refine take_at 5 (some 24) (.pointer (some ⟨c, 0, none⟩)) rfl (by kernel_rfl) (by kernel_rfl) (by kernel_rfl) (by kernel_rfl) (fun _ _ _ h => h) (by kernel_rfl) (by assumption) ?_ ?_
    · intro w' hSw
      try dsimp only at hSw
      go_simp
    simp only [Act.put, List.setIfInBounds_toArray, List.set_cons_zero, List.set_cons_succ]
    refine wpAnyH_ready (rs := [6]) (by kernel_rfl) (by simp) ?_
    refine AllReadyH.cons rfl (fun K hK => ?_) AllReadyH.nil
    go_simp
    refine JP.mono ?_
    rintro e w3 ⟨B3, rfl⟩
    unfold Wrong
    have C3 := chg_but C6 B3 (Or.inl rfl)
    clear JP
    go_wp2
    exact ⟨rfl, C3, Or.inr ⟨n0, _, rest1, E1.out, Or.inl ⟨HNO.out, rfl⟩⟩⟩
  obtain ⟨x2, l3, rfl, hk1⟩ := hnum1
  have HK1 := hide hk1
  have dr6 : w6.Since w6.heap.size w6.drew := (World.Since.refl _ _).drew
  have JO1 : Calls Tryz.prog 99 #[.pointer (some ⟨c, 0, none⟩)] w6.drew fun e w' => But c w6 w' ∧ ∃ v, e = .returned v ∧ RatV w' v (parseO x2).1 (parseO x2).2.1 (parseO x2).2.2.1 w6.heap.size 67108864 ∧ Rdr w' c bl wb1 L n0 l3 := by
    refine (takeNum_q c bl wb1 n0 L (x2 :: l3) w6.drew (R6.keep dr6)).mono ?_
    rintro e w' ⟨Bq, ⟨hno, -⟩ | ⟨y, r, v, hy, -, he, hv, hr⟩⟩
    · exact absurd HK1.out (hno _ _ rfl)
    · simp only [List.cons.injEq] at hy
      obtain ⟨rfl, rfl⟩ := hy
      exact ⟨(But.of dr6).trans Bq, v, he, hv, hr⟩
  have own1 : ∀ g, (Value.slice aH nH cH).ownBlock = some g → lo ≤ g ∧ g < w6.heap.size := fun g e => (T6.out.B.own.lt g e)
  have oth1 : ∀ g, (Value.slice (some ⟨g5, 0, none⟩) (nL + 1) c5).ownBlock = some g → lo ≤ g ∧ g < w6.heap.size := fun g e => (T6.out.W.own.lt g e)
  have nod1 : (Value.slice aH nH cH).ownBlock ≠ some d := fun e => by have := own1 d e; omega
  have p1 := b6.c3
  have q1 : w6.drew.cell? ⟨d, 3, none⟩ = some (.slice aH nH cH) := p1
  have f1 := b6.f 3
  clear hk1
  have hwb1 : ∀ e : (Value.slice aH nH cH).ownBlock = some wb1, False := fun e => by
    have h9 := HT0.out.B.own.lt wb1 e
    omega
  go_wp2_with fail
  go_region_law
    (first
      | (refine step_append_lies _ rfl _ _ 30 rfl lo 61 i0 _ 3 56 Tryz.underlying30 hi hz0 hz1 hz2 rfl (by decide) _ nH xH rfl (O3.out.alloc _) ⟨w3.heap.size, 0, none⟩ 1 1 [.bool nb, .slice a1 q1 c1, .slice a2 q2 c2] rfl rfl (newR _ _ _ _ _) (oneR _ _ _ _ _ _ _) (by decide) (by unfold maxLen; omega) (by omega) (by simp; omega) (w3.heap.size + 1) (by simp) ?_
         intro g9 c9 w4 hown hgrow hat hlt4
         have BX4 := (BX3.keep sW).blk9 (hgrow.block d (by simp; omega) (fun e => nod1 e.symm))
         have r4 := BX4.c3
         have rf4 := BX4.f 3)
      | (go_simp
         go_at_call 99
         with_reducible refine JO1.mono ?_
         rintro e w3 ⟨B3, vv, rfl, RV, R3⟩
         have W3 := RV.w
         obtain ⟨v1, v2, g1, g2, rfl, N1, N2, -, -, -⟩ := RV
         obtain ⟨a1, q1, c1, Y1, rfl, -⟩ := N1
         obtain ⟨a2, q2, c2, Y2, rfl, -⟩ := N2
         obtain ⟨nb, hnb⟩ : ∃ b, (parseO x2).1 = b := ⟨_, rfl⟩
         have W3 : Hid (WordR w3 (fun q => w6.heap.size ≤ q) (.agg #[.bool nb, .slice a1 q1 c1, .slice a2 q2 c2]) x2) := hide (by rw [← hnb]; exact W3)
         rw [hnb]
         have HNB := hide hnb
         have sW := (World.Since.refl w3.heap.size w3).alloc (Nat.le_refl _) (.cells #[.bool nb, .slice a1 q1 c1, .slice a2 q2 c2] 61)
         have BX3 := b6.but B3 hdc
         have p3 := BX3.c3
         have p3' := (BX3.keep sW).c3
         have O3 : Hid (w3.ownsRow lo 61 3 (.slice aH nH cH) nH xH) := hide (by have := (T6.out.but B3 hcl).B.own; rw [HNH.out] at this; exact this)
         have z3 := B3.size
         have T3 := hide (T6.out.but B3 hcl)
         clear hnb))
  all_goals
    have T4 := (T3.out.swap.push W3.out HNB.out (vW' := (.slice (some ⟨g9, 0, none⟩) (nH + 1) c9)) (fun g e => (own1 g e).2) (fun g e => (oth1 g e).2) (by omega) (by omega) z3 hgrow (by rw [HNH.out]; exact hown) (by
      rcases hat with h9 | h9
      · exact Or.inl h9.symm
      · right; rw [h9]; rfl)).swap
    have AP4 : Apt lo w4.heap.size (x5 ++ (xH ++ [.bool nb, .slice a1 q1 c1, .slice a2 q2 c2])) := by
      have h9 := A6.out.append (RatW.apt (lo := w6.heap.size) (hi := w3.heap.size) W3.out (fun g hg hp => ⟨hp, hg⟩)) (Nat.le_refl _) (by omega) z3
      rw [List.append_assoc] at h9
      exact h9.wide (Nat.le_refl _) (by have := hgrow.size; simp at this; omega)
    have BS : But d w4 (w4.setCell ⟨d, 3, none⟩ (.slice (some ⟨g9, 0, none⟩) (nH + 1) c9)) := (But.refl d w4).set 3 _
    have T5 := hide (T4.put BS)
    have BX5 := hide (BX4.set3 (.slice (some ⟨g9, 0, none⟩) (nH + 1) c9))
    have z4 := hgrow.size
    have z5 := BS.size
    have AP5 : Hid (Apt lo (w4.setCell ⟨d, 3, none⟩ (.slice (some ⟨g9, 0, none⟩) (nH + 1) c9)).heap.size (x5 ++ (xH ++ [.bool nb, .slice a1 q1 c1, .slice a2 q2 c2]))) := hide (AP4.wide (Nat.le_refl _) z5)
    have R5 := hide (((R3.keep sW).chg (Chg.of_grown hgrow) (fun e => by have := own1 c e; omega) (fun e => by have := own1 bl e; omega) (fun e => hwb1 e)).oth BS (by omega) (by omega) (by omega))
    have C5 : Chg (fun q => q = c ∨ q = d ∨ lo ≤ q) w (w4.setCell ⟨d, 3, none⟩ (.slice (some ⟨g9, 0, none⟩) (nH + 1) c9)) := chg_but (chg_grown (chg_since (chg_but C6 B3 (Or.inl rfl)) sW) hgrow (fun q e _ => Or.inr (Or.inr (own1 q e).1))) BS (Or.inr (Or.inl rfl))
    have hz5 : w.heap.size ≤ (w4.setCell ⟨d, 3, none⟩ (.slice (some ⟨g9, 0, none⟩) (nH + 1) c9)).heap.size := C5.size
    clear T4 BS hown hgrow hat W3 O3 AP4 JO1
    go_wp2_with fail
    refine (endLine_q c bl wb1 n0 L l3 _ R5.out).mono ?_
    rintro e w7 ⟨rfl, ⟨h7, rfl⟩ | ⟨h7, rfl⟩⟩
    · subst h7
      go_wp2
      go_end0
      refine ⟨C5, Or.inr ⟨n0, _, rest1, E1.out, Or.inr ⟨x1, x2, wb1, some ⟨g5, 0, none⟩, c5, some ⟨g9, 0, none⟩, c9, x5, xH ++ [.bool nb, .slice a1 q1 c1, .slice a2 q2 c2], rfl, HK0.out, HK1.out, rfl, R5.out, hw1, E2.out, ?_, ⟨?_, AP5.out⟩⟩⟩⟩
      · rw [HNL.out, HNH.out]; exact BX5.out
      · rw [HNL.out, HNH.out]; exact T5.out
    · have HNO : Hid (¬ shapeOk (boxW :: x1 :: x2 :: l3) boxW 0 2 2) := hide (fun hs => by
        obtain ⟨y1, y2, e, _⟩ := shape_box.1 hs
        simp only [List.cons.injEq, true_and] at e
        exact h7 e.2.2)
      clear h7
      unfold Wrong
      go_wp2
      exact ⟨rfl, C5, Or.inr ⟨n0, _, rest1, E1.out, Or.inl ⟨HNO.out, rfl⟩⟩⟩

end Go.Proofs.YtnogbaapcjjngaaGreatDoor

namespace Go.Proofs.YtnogbaapcjjngaaGreatDoor
open Go.RowKit

/-- What the walk wants to know of a kind: its place in the map, its function, its type, its method. -/
structure KdP (kd : Kd) (T F G i : Nat) : Prop where
  find : Instr.findNow .string (.string kd.word) kindsE.toList 0 = some (some (i, .func (.func F) #[] #[]))
  enF : ∀ (args : Array Value) (w : World), (callFunc F args).run Tryz.prog w = .ok (.enter F args) w
  be : ∀ w, Calls Tryz.prog F #[.agg #[.int .i64 0, .int .i64 0, .int .i64 0, .int .i64 0, .int .i64 0, .slice none 0 0]] w fun e w' => e = .returned (.iface T (.agg #[.int .i64 0, .int .i64 0, .int .i64 0, .int .i64 0, .int .i64 0, .slice none 0 0])) ∧ w.Since w.heap.size w'
  me : ∀ w : World, (method 380 T (.agg #[.int .i64 0, .int .i64 0, .int .i64 0, .int .i64 0, .int .i64 0, .slice none 0 0]) "loop.example/s0015/impl.form").run Tryz.prog w = .ok (G, .agg #[.int .i64 0, .int .i64 0, .int .i64 0, .int .i64 0, .int .i64 0, .slice none 0 0]) w
  enG : ∀ (args : Array Value) (w : World), (callFunc G args).run Tryz.prog w = .ok (.enter G args) w
  fo : ∀ w, Calls Tryz.prog G #[.agg #[.int .i64 0, .int .i64 0, .int .i64 0, .int .i64 0, .int .i64 0, .slice none 0 0]] w fun e w' => e = .returned (.agg #[.int .i64 kd.op, .bool kd.ub, .bool kd.uk, .bool kd.us, .int .i64 kd.nums]) ∧ w.Since w.heap.size w'
  ins : ∀ (c : Nat) (w : World), Calls Tryz.prog 115 #[.agg #[.int .i64 kd.op, .bool kd.ub, .bool kd.uk, .bool kd.us, .int .i64 kd.nums], .pointer (some ⟨c, 0, none⟩)] w fun e w' => ∃ g cap, e = .returned (.slice (some ⟨g, 0, none⟩) kd.fs.length cap) ∧ w'.ownsRow (w.heap.size + 1) 157 1 (.slice (some ⟨g, 0, none⟩) kd.fs.length cap) kd.fs.length (ptrV c kd.fs) ∧ w.Since w.heap.size w'

theorem isKd.p {kd : Kd} (h : isKd kd) : ∃ T F G i, KdP kd T F G i := by
  rcases h with rfl | rfl | rfl | rfl | rfl | rfl | rfl
  · exact ⟨142, 108, 262, 0, by kernel_rfl, fun _ _ => by kernel_rfl, become1 0 0 0 0 0 none 0 0, fun _ => by kernel_rfl, fun _ _ => by kernel_rfl, form1 0 0 0 0 0 none 0 0, fun c w => ints010 1 (-1) c w⟩
  · exact ⟨144, 109, 265, 1, by kernel_rfl, fun _ _ => by kernel_rfl, become2 0 0 0 0 0 none 0 0, fun _ => by kernel_rfl, fun _ _ => by kernel_rfl, form2 0 0 0 0 0 none 0 0, fun c w => ints000 2 0 c w⟩
  · exact ⟨145, 110, 268, 2, by kernel_rfl, fun _ _ => by kernel_rfl, become3 0 0 0 0 0 none 0 0, fun _ => by kernel_rfl, fun _ _ => by kernel_rfl, form3 0 0 0 0 0 none 0 0, fun c w => ints000 3 1 c w⟩
  · exact ⟨146, 111, 271, 3, by kernel_rfl, fun _ _ => by kernel_rfl, become4 0 0 0 0 0 none 0 0, fun _ => by kernel_rfl, fun _ _ => by kernel_rfl, form4 0 0 0 0 0 none 0 0, fun c w => ints100 4 0 c w⟩
  · exact ⟨147, 112, 274, 4, by kernel_rfl, fun _ _ => by kernel_rfl, become5 0 0 0 0 0 none 0 0, fun _ => by kernel_rfl, fun _ _ => by kernel_rfl, form5 0 0 0 0 0 none 0 0, fun c w => ints010 5 0 c w⟩
  · exact ⟨148, 113, 277, 5, by kernel_rfl, fun _ _ => by kernel_rfl, become6 0 0 0 0 0 none 0 0, fun _ => by kernel_rfl, fun _ _ => by kernel_rfl, form6 0 0 0 0 0 none 0 0, fun c w => ints011 6 (-1) c w⟩
  · exact ⟨149, 114, 280, 6, by kernel_rfl, fun _ _ => by kernel_rfl, become7 0 0 0 0 0 none 0 0, fun _ => by kernel_rfl, fun _ _ => by kernel_rfl, form7 0 0 0 0 0 none 0 0, fun c w => ints000 7 4 c w⟩

theorem isKd.fs {kd : Kd} (h : isKd kd) : kd.fs.length ≤ 3 ∧ ∀ (j f : Nat), kd.fs[j]? = some f → 1 ≤ f ∧ f ≤ 4 := by
  have key : ∀ fs : List Nat, (fs.all fun f => decide (1 ≤ f ∧ f ≤ 4)) = true → ∀ (j f : Nat), fs[j]? = some f → 1 ≤ f ∧ f ≤ 4 := fun fs h j f hj => by
    have := List.all_eq_true.1 h f (List.mem_of_getElem? hj)
    simpa using this
  rcases h with rfl | rfl | rfl | rfl | rfl | rfl | rfl
  all_goals exact ⟨by decide, key _ (by decide)⟩

/-- A field of a node is set. -/
theorem box_set {w : World} {c f : Nat} {z y : Int} {v v' : Nat → Int} {x : Value} (B : Box6 w c (.int .i64 z) (.int .i64 (v 1)) (.int .i64 (v 2)) (.int .i64 (v 3)) (.int .i64 (v 4)) x) (h1 : 1 ≤ f) (h4 : f ≤ 4) (hv : ∀ g, v' g = if f = g then y else v g) : Box6 (w.setCell ⟨c, f, none⟩ (.int .i64 y)) c (.int .i64 z) (.int .i64 (v' 1)) (.int .i64 (v' 2)) (.int .i64 (v' 3)) (.int .i64 (v' 4)) x := by
  have : f = 1 ∨ f = 2 ∨ f = 3 ∨ f = 4 := by omega
  rcases this with rfl | rfl | rfl | rfl
  · simp only [hv]; exact B.set1 _
  · simp only [hv]; exact B.set2 _
  · simp only [hv]; exact B.set3 _
  · simp only [hv]; exact B.set4 _
theorem box_cell {w : World} {c f : Nat} {z : Int} {v : Nat → Int} {x : Value} (B : Box6 w c (.int .i64 z) (.int .i64 (v 1)) (.int .i64 (v 2)) (.int .i64 (v 3)) (.int .i64 (v 4)) x) (h1 : 1 ≤ f) (h4 : f ≤ 4) : w.cell? ⟨c, f, none⟩ = some (.int .i64 (v f)) := by
  have : f = 1 ∨ f = 2 ∨ f = 3 ∨ f = 4 := by omega
  rcases this with rfl | rfl | rfl | rfl
  · exact B.c1
  · exact B.c2
  · exact B.c3
  · exact B.c4

theorem size_node : (Tryz.prog.info? 64).map (·.size) = some 6 := by kernel_rfl

set_option maxHeartbeats 1600000 in
set_option maxRecDepth 100000 in
/-- takeNode at a word that is no kind's. -/
theorem takeNode_no (c bl wb t m : Nat) (L : List ByteArray) (x : ByteArray) (r : List ByteArray) (w : World) (h : Rdr w c bl wb L t (x :: r)) (K : Kinds w m) (hmc : m ≠ c) (hx : ∀ kd, isKd kd → kd.word ≠ x) :
    Calls Tryz.prog 73 #[.pointer (some ⟨c, 0, none⟩), .map (some m)] w fun e w' => But c w w' ∧ e = Wrong t := by
  have sA : w.Since w.heap.size (w.alloc (.cells #[.int .i64 0, .int .i64 0, .int .i64 0, .int .i64 0, .int .i64 0, .slice none 0 0] 64)) := (World.Since.refl _ _).alloc (Nat.le_refl _) _
  have HF := hide (find_no hx)
  clear hx
  go_enter Tryz.func73, Tryz.ntmps73
  go_wp2_with fail
  generalize w.alloc (.cells #[.int .i64 0, .int .i64 0, .int .i64 0, .int .i64 0, .int .i64 0, .slice none 0 0] 64) = wA at *
  refine (takeWord_q c bl wb t L (x :: r) wA (h.keep sA)).mono ?_
  rintro e w1 ⟨B1, ⟨h1, -⟩ | ⟨y, r', h1, rfl, R1⟩⟩
  · simp at h1
  simp only [List.cons.injEq] at h1
  obtain ⟨rfl, rfl⟩ := h1
  have K1 := (K.keep sA).but B1 hmc
  have hz : (zeroValue 143).run Tryz.prog w1 = .ok .nilFunc w1 := by kernel_rfl
  have hl := run_look_no (s := x) kinds_under string_under K1 HF.out hz
  have C1 := (But.of sA).trans B1
  clear hz
  go_wp2_with fail
  refine (stop_q c bl wb t L r w1 R1).mono ?_
  rintro e w2 ⟨rfl, rfl⟩
  unfold Wrong
  go_wp2
  exact ⟨rfl, C1, rfl⟩

end Go.Proofs.YtnogbaapcjjngaaGreatDoor

namespace Go.Proofs.YtnogbaapcjjngaaGreatDoor
open Go.RowKit

theorem wd_cons (x : ByteArray) (r : List ByteArray) (k : Nat) : wd (x :: r) (1 + k) = wd r k := by
  unfold wd
  rw [Nat.add_comm 1 k, List.getD_eq_getElem?_getD, List.getD_eq_getElem?_getD, List.getElem?_cons_succ]

theorem kdOk_iff {kd : Kd} {r : List ByteArray} : kdOk kd (kd.word :: r) ↔ kd.fs.length ≤ r.length ∧ (∀ j, j < kd.fs.length → isInt (wd r j)) ∧ (∀ x ∈ r.drop kd.fs.length, numOk x) ∧ kd.nums.toNat ≤ (r.drop kd.fs.length).length ∧ (0 ≤ kd.nums → ((r.drop kd.fs.length).length : Int) ≤ kd.nums) := by
  unfold kdOk
  rw [shape_iff]
  constructor
  · rintro ⟨is, ns, e, h1, h2, h3, h4, h5⟩
    simp only [List.cons.injEq, true_and] at e
    subst e
    rw [← h1]
    have ed : (is ++ ns).drop is.length = ns := by simp
    rw [ed]
    refine ⟨by simp, fun j hj => ?_, h3, h4, h5⟩
    have e2 : wd (is ++ ns) j = is[j] := by
      unfold wd
      rw [List.getD_eq_getElem?_getD, List.getElem?_append_left hj, List.getElem?_eq_getElem hj]; rfl
    rw [e2]; exact h2 _ (List.getElem_mem _)
  · rintro ⟨h1, h2, h3, h4, h5⟩
    refine ⟨r.take kd.fs.length, r.drop kd.fs.length, by rw [List.take_append_drop], by rw [List.length_take]; omega, fun x hx => ?_, h3, h4, h5⟩
    obtain ⟨j, hj, e⟩ := List.getElem_of_mem hx
    rw [List.length_take] at hj
    have h6 := h2 j (by omega)
    have e2 : wd r j = x := by
      unfold wd
      rw [List.getD_eq_getElem?_getD, List.getElem?_eq_getElem (by omega)]
      simp only [List.getElem_take] at e
      exact e
    rw [e2] at h6; exact h6

theorem allNum_all {ws : List ByteArray} {n : Nat} (h : allNum ws n) (hn : ws.length ≤ n) : ∀ x ∈ ws, numOk x := fun x hx => by
  obtain ⟨j, hj, e⟩ := List.getElem_of_mem hx
  have := h.2 j (by omega)
  unfold wd at this
  rw [List.getD_eq_getElem?_getD, List.getElem?_eq_getElem hj] at this
  rw [← e]; exact this
theorem allNum_of {ws : List ByteArray} {n : Nat} (h : ∀ x ∈ ws, numOk x) (hn : n ≤ ws.length) : allNum ws n := ⟨hn, fun i hi => h _ (wd_mem (by omega))⟩

theorem Box5.but {w w' : World} {c d : Nat} {x y z u v : Value} (h : Box5 w d x y z u v) (s : But c w w') (hn : d ≠ c) : Box5 w' d x y z u v := by
  have kd := s.block d h.lt (by simpa using hn)
  refine ⟨(World.cell?_of_block (a := ⟨d, 0, none⟩) kd).trans h.c0, (World.cell?_of_block (a := ⟨d, 1, none⟩) kd).trans h.c1, (World.cell?_of_block (a := ⟨d, 2, none⟩) kd).trans h.c2, (World.cell?_of_block (a := ⟨d, 3, none⟩) kd).trans h.c3, (World.cell?_of_block (a := ⟨d, 4, none⟩) kd).trans h.c4, fun j => ?_⟩
  have := h.f j
  unfold World.frozen? at this ⊢
  rw [kd]; exact this

theorem ptrV_at {c j f : Nat} {fs : List Nat} (h : fs[j]? = some f) : (ptrV c fs)[j]? = some (.pointer (some ⟨c, f, none⟩)) := by
  unfold ptrV
  rw [List.getElem?_map, h]; rfl

theorem own_sl {w : World} {base : Nat} {e : TypeId} {size : Nat} {v : Value} {n : Nat} {xs : List Value} (h : w.ownsRow base e size v n xs) : ∃ a cc, v = .slice a n cc := by
  obtain ⟨-, ⟨e, e0⟩ | ⟨g', cap', cur, e, -⟩⟩ := h
  · exact ⟨none, 0, by rw [e, e0]⟩
  · exact ⟨_, _, e⟩
theorem OutF.but {w w' : World} {lo k c : Nat} {v : Value} {x : Nat → ByteArray} {F : Nat → Nat} {xs : List Value} (h : OutF w lo v k x F xs) (s : But c w w') (hc : c < lo) : OutF w' lo v k x F xs :=
  ⟨h.out.but s hc (fun i _ hp => Nat.le_trans h.lo (Nat.le_trans (mono_le h.mono (Nat.zero_le i)) hp.1)), h.mono, h.lo, Nat.le_trans h.hi s.size⟩
theorem OutF.lower {w : World} {lo lo' k : Nat} {v : Value} {x : Nat → ByteArray} {F : Nat → Nat} {xs : List Value} (h : OutF w lo v k x F xs) (hl : lo' ≤ lo) : OutF w lo' v k x F xs := ⟨h.out.lower hl, h.mono, Nat.le_trans hl h.lo, h.hi⟩

set_option maxHeartbeats 12800000 in
set_option maxRecDepth 100000 in
theorem takeNode_k (kd : Kd) (hk : isKd kd) (c bl wb t m : Nat) (L : List ByteArray) (r : List ByteArray) (w : World) (h : Rdr w c bl wb L t (kd.word :: r)) (K : Kinds w m) (hmc : m ≠ c) :
    Calls Tryz.prog 73 #[.pointer (some ⟨c, 0, none⟩), .map (some m)] w fun e w' => But c w w' ∧ ((¬ kdOk kd (kd.word :: r) ∧ e = Wrong t) ∨
      (kdOk kd (kd.word :: r) ∧ ∃ a cap F xs, e = .returned (.agg #[.int .i64 (nodeD kd (kd.word :: r)).op, .int .i64 (nodeD kd (kd.word :: r)).a, .int .i64 (nodeD kd (kd.word :: r)).b, .int .i64 (nodeD kd (kd.word :: r)).k, .int .i64 (nodeD kd (kd.word :: r)).s, .slice a (r.drop kd.fs.length).length cap]) ∧ OutF w' w.heap.size (.slice a (r.drop kd.fs.length).length cap) (r.drop kd.fs.length).length (wd (r.drop kd.fs.length)) F xs ∧ Rdr w' c bl wb L t [])) := by
  obtain ⟨T, F, G, i, kp⟩ := hk.p
  obtain ⟨hf3, hff⟩ := hk.fs
  have hnu := hk.nums
  have HIFF := hide (@kdOk_iff kd r)
  obtain ⟨OK, hOK⟩ : ∃ OK : Prop, OK = kdOk kd (kd.word :: r) := ⟨_, rfl⟩
  rw [← hOK] at HIFF ⊢
  have hcl := h.lt
  have hbl := h.lb
  have hwl := h.lw
  have hfind := hide kp.find
  have henF := kp.enF
  have hbe := kp.be
  have hme := kp.me
  have henG := kp.enG
  have hfo := kp.fo
  have hin := kp.ins
  have sA : w.Since w.heap.size (w.alloc (.cells #[.int .i64 0, .int .i64 0, .int .i64 0, .int .i64 0, .int .i64 0, .slice none 0 0] 64)) := (World.Since.refl _ _).alloc (Nat.le_refl _) _
  have bA := Box6.new w (.int .i64 0) (.int .i64 0) (.int .i64 0) (.int .i64 0) (.int .i64 0) (.slice none 0 0) 64
  have ZA := hide (show (w.alloc (.cells #[.int .i64 0, .int .i64 0, .int .i64 0, .int .i64 0, .int .i64 0, .slice none 0 0] 64)).heap.size = w.heap.size + 1 by simp)
  unfold nodeD
  simp only
  obtain ⟨op, word, ub, uk, us, nums, fs⟩ := kd
  simp only at *
  clear kp hk hOK
  go_enter Tryz.func73, Tryz.ntmps73
  go_wp2_with fail
  generalize w.alloc (.cells #[.int .i64 0, .int .i64 0, .int .i64 0, .int .i64 0, .int .i64 0, .slice none 0 0] 64) = wA at *
  refine (takeWord_q c bl wb t L (word :: r) wA (h.keep sA)).mono ?_
  rintro e w1 ⟨B1, ⟨h1, -⟩ | ⟨y, r', h1, rfl, R1⟩⟩
  · simp at h1
  simp only [List.cons.injEq] at h1
  obtain ⟨rfl, rfl⟩ := h1
  have K1 := (K.keep sA).but B1 hmc
  have hl := run_look_has (s := word) kinds_under string_under K1 (i := i) (val := .func (.func F) #[] #[]) hfind.out
  have C1 := (But.of sA).trans B1
  have hd0 : w.heap.size ≠ c := by omega
  have b1 := bA.but B1 hd0
  have z1 := B1.size
  clear K1 K h
  go_wp2_with fail
  refine (hbe w1).mono ?_
  rintro e w2 ⟨rfl, s2⟩
  go_wp2_with fail
  refine (hfo w2).mono ?_
  rintro e w3 ⟨rfl, s3⟩
  have b3 := (b1.keep s2).keep s3
  have R3 := (R1.keep s2).keep s3
  have C3 := (C1.since' s2).since' s3
  have z3 := s3.size
  have z2 := s2.size
  have sB : w3.Since w3.heap.size ((w3.alloc (.cells #[.int .i64 op, .bool ub, .bool uk, .bool us, .int .i64 nums] 152)).alloc (.cells #[.int .i64 op, .int .i64 0, .int .i64 0, .int .i64 0, .int .i64 0, .slice none 0 0] 64)) := ((World.Since.refl _ _).alloc (Nat.le_refl _) _).alloc (by simp) _
  have sB1 : (w3.alloc (.cells #[.int .i64 op, .bool ub, .bool uk, .bool us, .int .i64 nums] 152)).Since (w3.alloc (.cells #[.int .i64 op, .bool ub, .bool uk, .bool us, .int .i64 nums] 152)).heap.size ((w3.alloc (.cells #[.int .i64 op, .bool ub, .bool uk, .bool us, .int .i64 nums] 152)).alloc (.cells #[.int .i64 op, .int .i64 0, .int .i64 0, .int .i64 0, .int .i64 0, .slice none 0 0] 64)) := (World.Since.refl _ _).alloc (Nat.le_refl _) _
  have fB := (Box5.new w3 (.int .i64 op) (.bool ub) (.bool uk) (.bool us) (.int .i64 nums) 152).keep sB1
  have nB := Box6.new (w3.alloc (.cells #[.int .i64 op, .bool ub, .bool uk, .bool us, .int .i64 nums] 152)) (.int .i64 op) (.int .i64 0) (.int .i64 0) (.int .i64 0) (.int .i64 0) (.slice none 0 0) 64
  rw [show (w3.alloc (.cells #[.int .i64 op, .bool ub, .bool uk, .bool us, .int .i64 nums] 152)).heap.size = w3.heap.size + 1 by simp] at nB
  have ZB := hide (show ((w3.alloc (.cells #[.int .i64 op, .bool ub, .bool uk, .bool us, .int .i64 nums] 152)).alloc (.cells #[.int .i64 op, .int .i64 0, .int .i64 0, .int .i64 0, .int .i64 0, .slice none 0 0] 64)).heap.size = w3.heap.size + 1 + 1 by simp)
  have b4 := b3.keep sB
  have R4 := R3.keep sB
  have C4 := C3.since' sB
  have p0 := fB.c0
  have p1 := fB.c1
  have p2 := fB.c2
  have p3 := fB.c3
  have p4 := fB.c4
  clear sB1 hl
  go_wp2_with fail
  generalize (w3.alloc (.cells #[.int .i64 op, .bool ub, .bool uk, .bool us, .int .i64 nums] 152)).alloc (.cells #[.int .i64 op, .int .i64 0, .int .i64 0, .int .i64 0, .int .i64 0, .slice none 0 0] 64) = w4 at *
  generalize w3.heap.size = df at *
  refine (hin (df + 1) w4).mono ?_
  rintro e w5 ⟨gp, capp, rfl, OP, s5⟩
  have hgp := OP.lt gp rfl
  have PC : Hid (∀ (j f : Nat), fs[j]? = some f → w5.cell? ⟨gp, j, none⟩ = some (.pointer (some ⟨df + 1, f, none⟩))) := hide (fun j f h => by
    have e1 := (@World.ownsRow.cells _ _ _ _ _ _ _ OP) (g := gp) rfl _ _ (ptrV_at h)
    rw [Go.WideShapes.add_plain, Nat.zero_add] at e1
    exact e1)
  have b5 := hide (b4.keep s5)
  have f5 := hide (fB.keep s5)
  have n5 := hide (nB.keep s5)
  have R5 := hide (R4.keep s5)
  have C5 := C4.since' s5
  have hfsz : (fs.length : Int) ≤ 3 := by omega
  have HW4 : Hid (w4.heap.size = df + 1 + 1) := ZB
  have HDF : Hid (w.heap.size < df) := hide (by have := ZA.out; omega)
  have HGP : Hid (df + 1 < gp) := hide (by have := ZB.out; omega)
  clear p0 p1 p2 p3 p4 OP hbe hfo hin hme henF henG b4 fB nB R4 ZB
  go_wp2_with fail
  go_loopw [32] (fun i wr => ∃ k : Nat, k ≤ fs.length ∧ k ≤ r.length ∧ i = .int .i64 (k : Int) ∧ But c w wr ∧ gp < wr.heap.size ∧ Hid (Box6 wr w.heap.size (.int .i64 0) (.int .i64 0) (.int .i64 0) (.int .i64 0) (.int .i64 0) (.slice none 0 0)) ∧ Hid (Box5 wr df (.int .i64 op) (.bool ub) (.bool uk) (.bool us) (.int .i64 nums)) ∧ Hid (Box6 wr (df + 1) (.int .i64 op) (.int .i64 (fldv fs (word :: r) k 1)) (.int .i64 (fldv fs (word :: r) k 2)) (.int .i64 (fldv fs (word :: r) k 3)) (.int .i64 (fldv fs (word :: r) k 4)) (.slice none 0 0)) ∧ Hid (∀ (j f : Nat), fs[j]? = some f → wr.cell? ⟨gp, j, none⟩ = some (.pointer (some ⟨df + 1, f, none⟩))) ∧ Hid (Rdr wr c bl wb L t (r.drop k)) ∧ Hid (∀ j, j < k → isInt (wd r j))) (fun i _ => fs.length - (intOf i).toNat)
  case atStart => exact ⟨0, Nat.zero_le _, Nat.zero_le _, rfl, C5, hgp.2, b5, f5, n5, PC, R5, hide (fun j hj => absurd hj (by omega))⟩
  case round =>
    clear C5 b5 f5 n5 PC R5
    obtain ⟨k, hk, hkr, rfl, C, hgl, b6, f6, n6, pc, R6, HI⟩ := hrel
    have hdf := HDF.out
    have hgpd := HGP.out
    by_cases hlt : k < fs.length
    · have hz : (k : Int) < (fs.length : Int) := by omega
      obtain ⟨f, hf⟩ : ∃ f, fs[k]? = some f := ⟨_, List.getElem?_eq_getElem hlt⟩
      have r1 := pc.out k f hf
      obtain ⟨h1f, h4f⟩ := hff k f hf
      have HF := hide hf
      clear hf
      go_wp2_with fail
      refine (takeInt_q c bl wb t L (r.drop k) wr R6.out).mono ?_
      rintro e w7 ⟨B7, ⟨h7, rfl⟩ | ⟨x, r7, h7, i7, rfl, R7⟩⟩
      · have HNO : Hid (¬ OK) := hide (fun ho => by
          obtain ⟨hl, hi, -⟩ := HIFF.out.1 ho
          refine h7 (wd r k) (r.drop (k + 1)) ?_ (hi k hlt)
          rw [List.drop_eq_getElem_cons (by omega)]
          unfold wd
          rw [List.getD_eq_getElem?_getD, List.getElem?_eq_getElem (by omega)]
          rfl)
        clear h7
        unfold Wrong
        go_wp2
        exact ⟨rfl, C.trans B7, Or.inl ⟨HNO.out, rfl⟩⟩
      obtain ⟨hkl, hxw, hr7⟩ := drop_wd h7
      have n7 := n6.out.but B7 (by omega)
      have cf := box_cell n7 h1f h4f
      have ff := n7.f f
      obtain ⟨V, hV⟩ : ∃ V, dv x x.size = V := ⟨_, rfl⟩
      rw [hV]
      have BS : But (df + 1) w7 (w7.setCell ⟨df + 1, f, none⟩ (.int .i64 (V : Int))) := (But.refl _ w7).set f _
      have n8 := hide (box_set (v' := fldv fs (word :: r) (k + 1)) n7 h1f h4f (y := (V : Int)) (fun g => by
        rw [fldv, HF.out, wd_cons, hxw, hV]
        simp only [Option.some.injEq]))
      have z7 := B7.size
      have z8 := BS.size
      have R8 := hide (R7.oth BS (by omega) (by omega) (by omega))
      have R8' : Hid (Rdr (w7.setCell ⟨df + 1, f, none⟩ (.int .i64 (V : Int))) c bl wb L t (r.drop (k + 1))) := hide (by rw [hr7]; exact R8.out)
      have b8 := hide ((b6.out.but B7 (by omega)).but BS (by omega))
      have f8 := hide ((f6.out.but B7 (by omega)).but BS (by omega))
      have C8 : But c w (w7.setCell ⟨df + 1, f, none⟩ (.int .i64 (V : Int))) := ((C.trans B7).chg BS.c (fun q e => by omega))
      have PC8 : Hid (∀ (j f' : Nat), fs[j]? = some f' → (w7.setCell ⟨df + 1, f, none⟩ (.int .i64 (V : Int))).cell? ⟨gp, j, none⟩ = some (.pointer (some ⟨df + 1, f', none⟩))) := hide (fun j f' h => by
        have e1 := pc.out j f' h
        have e2 : (w7.setCell ⟨df + 1, f, none⟩ (.int .i64 (V : Int))).heap[gp]? = wr.heap[gp]? := (BS.block gp (by omega) (by simp; omega)).trans (B7.block gp hgl (by simp; omega))
        exact (World.cell?_of_block (a := ⟨gp, j, none⟩) e2).trans e1)
      have HI8 : Hid (∀ j, j < k + 1 → isInt (wd r j)) := hide (fun j hj => by
        by_cases e : j = k
        · subst e; rw [hxw]; exact i7
        · exact HI.out j (by omega))
      have hgl8 : gp < (w7.setCell ⟨df + 1, f, none⟩ (.int .i64 (V : Int))).heap.size := by omega
      clear hV i7 h7 hxw hr7 R7 BS R8
      go_wp2
      go_roundw
      case rel => exact ⟨k + 1, by omega, by omega, by go_num, C8, hgl8, b8, f8, n8, PC8, R8', HI8⟩
      case measure => simp [intOf]; omega
    · have e : k = fs.length := by omega
      subst e
      have hz : ¬ ((fs.length : Int) < (fs.length : Int)) := by omega
      have q4 := f6.out.c4
      obtain ⟨D, hD⟩ : ∃ D, r.drop fs.length = D := ⟨_, rfl⟩
      have HIFF2 : Hid (OK ↔ ((∀ x ∈ D, numOk x) ∧ nums.toNat ≤ D.length ∧ (0 ≤ nums → (D.length : Int) ≤ nums))) := hide ⟨fun ho => by
        have := HIFF.out.1 ho
        rw [hD] at this
        exact this.2.2, fun ho => HIFF.out.2 (by rw [hD]; exact ⟨hkr, HI.out, ho⟩)⟩
      rw [hD] at R6
      have HDD := hide hD
      have hDl := R6.out.wl
      obtain ⟨cn, hcn⟩ : ∃ cn, cn = if nums = -1 then D.length else nums.toNat := ⟨_, rfl⟩
      have hcnt : nums = (cn : Int) ∨ (nums = -1 ∧ cn = D.length) := by
        rcases hnu with h9 | h9
        · right; exact ⟨h9, by rw [hcn, if_pos h9]⟩
        · left; rw [hcn, if_neg (by omega)]; omega
      have hcnl : cn ≤ 100001 := by
        rcases hcnt with h9 | h9 <;> omega
      have JN := takeNums_q nums cn c bl wb t L D wr R6.out hcnt (by omega)
      have HCN := hide hcnt
      clear hcn hcnt hD
      go_wp2_with fail
      refine JN.mono ?_
      rintro e w7 ⟨B7, ⟨h7, rfl⟩ | ⟨h7, v7, F7, x7, rfl, O7, hv7, R7⟩⟩
      · have HNO : Hid (¬ OK) := hide (fun ho => by
          obtain ⟨h8, h9, h10⟩ := HIFF2.out.1 ho
          refine h7 (allNum_of h8 ?_)
          rcases HCN.out with e | ⟨-, e⟩ <;> omega)
        clear h7 JN
        unfold Wrong
        go_wp2
        exact ⟨rfl, C.trans B7, Or.inl ⟨HNO.out, rfl⟩⟩
      have n7 := n6.out.but B7 (by omega)
      have c5 := n7.c5
      have ff := n7.f 5
      have hv := O7.out.own
      obtain ⟨a7, cap7, rfl⟩ := own_sl hv
      have BS : But (df + 1) w7 (w7.setCell ⟨df + 1, 5, none⟩ (.slice a7 cn cap7)) := (But.refl _ w7).set 5 _
      have n8 := n7.set5 (.slice a7 cn cap7)
      have z7 := B7.size
      have z8 := BS.size
      have R8 := R7.oth BS (by omega) (by omega) (by omega)
      have b8 := (b6.out.but B7 (by omega)).but BS (by omega)
      have C8 : But c w (w7.setCell ⟨df + 1, 5, none⟩ (.slice a7 cn cap7)) := ((C.trans B7).chg BS.c (fun q e => by omega))
      have H7 := hide h7
      have O7' := hide O7
      have BS8 := hide BS
      clear JN h7 hv hv7 O7
      go_wp2_with fail
      generalize hw8 : w7.setCell ⟨df + 1, 5, none⟩ (.slice a7 cn cap7) = w8 at *
      refine (endLine_q c bl wb t L (D.drop cn) w8 R8).mono ?_
      rintro e w9 ⟨rfl, ⟨h9, rfl⟩ | ⟨h9, rfl⟩⟩
      rotate_left
      · have HNO : Hid (¬ OK) := hide (fun ho => by
          obtain ⟨h8, h10, h11⟩ := HIFF2.out.1 ho
          refine h9 (List.drop_of_length_le ?_)
          rcases HCN.out with e | ⟨-, e⟩
          · have := h11 (by omega); omega
          · omega)
        clear h9
        unfold Wrong
        go_wp2
        exact ⟨rfl, C8, Or.inl ⟨HNO.out, rfl⟩⟩
      have hDle : D.length ≤ cn := by
        have := congrArg List.length h9
        rw [List.length_drop] at this
        simp at this
        omega
      have hcD : cn = D.length := by have := H7.out.1; omega
      have HOK : Hid OK := hide (HIFF2.out.2 ⟨allNum_all H7.out hDle, by rcases HCN.out with e | ⟨e, -⟩ <;> omega, fun h0 => by rcases HCN.out with e | ⟨e, -⟩ <;> omega⟩)
      have m0 := n8.c0
      have m1 := n8.c1
      have m2 := n8.c2
      have m3 := n8.c3
      have m4 := n8.c4
      have m5 := n8.c5
      have k0 := b8.c0
      have k1 := b8.c1
      have k2 := b8.c2
      have k3 := b8.c3
      have k4 := b8.c4
      have k5 := b8.c5
      have l0 := b8.f 0
      have l1 := b8.f 1
      have l2 := b8.f 2
      have l3 := b8.f 3
      have l4 := b8.f 4
      have l5 := b8.f 5
      have R9 := hide R8
      rw [h9] at R9
      subst hcD
      clear h9 hDle R8 R7 BS
      go_wp2
      have rC := (((((b8.set0 (.int .i64 op)).set1 (.int .i64 (fldv fs (word :: r) fs.length 1))).set2 (.int .i64 (fldv fs (word :: r) fs.length 2))).set3 (.int .i64 (fldv fs (word :: r) fs.length 3))).set4 (.int .i64 (fldv fs (word :: r) fs.length 4))).set5 (.slice a7 D.length cap7)
      refine bodyPost_ret (results_box6T rfl Tryz.underlying64 rfl size_node _ _ _ _ _ _ _ _ _ rfl rC) rfl ?_
      have M : Marked w9 _ w.heap.size := ((((((Marked.refl w9 _).setCell 0 (.int .i64 op)).setCell 1 (.int .i64 (fldv fs (word :: r) fs.length 1))).setCell 2 (.int .i64 (fldv fs (word :: r) fs.length 2))).setCell 3 (.int .i64 (fldv fs (word :: r) fs.length 3))).setCell 4 (.int .i64 (fldv fs (word :: r) fs.length 4))).setCell 5 (.slice a7 D.length cap7)
      have BT := ((((((But.refl w.heap.size w9).set 0 (.int .i64 op)).set 1 (.int .i64 (fldv fs (word :: r) fs.length 1))).set 2 (.int .i64 (fldv fs (word :: r) fs.length 2))).set 3 (.int .i64 (fldv fs (word :: r) fs.length 3))).set 4 (.int .i64 (fldv fs (word :: r) fs.length 4))).set 5 (.slice a7 D.length cap7)
      refine ⟨C8.marked M (Nat.le_refl _), Or.inr ⟨HOK.out, a7, cap7, F7, x7, ?_, ?_, ?_⟩⟩
      · rw [HDD.out]
      · rw [HDD.out]
        exact (((O7'.out.but BS8.out (by omega)).but BT (by omega)).lower (by omega))
      · exact R9.out.oth BT (by omega) (by omega) (by omega)

end Go.Proofs.YtnogbaapcjjngaaGreatDoor

namespace Go.Proofs.YtnogbaapcjjngaaGreatDoor
open Go.RowKit

/-- Line ws may stand behind the lines prev. -/
def mayOk (prev : List (Nat × List ByteArray)) (ws : List ByteArray) : Prop :=
  (prev = [] ∧ shapeOk ws graphW 2 0 0) ∨
  ∃ h t, prev = h :: t ∧ ((t.length < dv (wd h.2 1) (wd h.2 1).size ∧ shapeOk ws boxW 0 2 2) ∨
    (¬ t.length < dv (wd h.2 1) (wd h.2 1).size ∧ (∀ x, prev.getLast? = some x → x.2.head? ≠ some outputW) ∧ (nodeOk ws ∨ shapeOk ws outputW 1 0 0)))

/-- All lines may stand where they stand. -/
def AllMay (ls : List (Nat × List ByteArray)) : Prop := ∀ (pre : List (Nat × List ByteArray)) x rest, ls = pre ++ x :: rest → mayOk pre x.2

theorem AllMay.nil : AllMay [] := fun pre x rest e => by simp at e
theorem AllMay.snoc {ls : List (Nat × List ByteArray)} {x : Nat × List ByteArray} (h : AllMay ls) (hx : mayOk ls x.2) : AllMay (ls ++ [x]) := fun pre y rest e => by
  rcases List.eq_nil_or_concat rest with rfl | ⟨r', z, rfl⟩
  · have e2 : ls ++ [x] = pre ++ [y] := e
    obtain ⟨rfl, e3⟩ := List.append_inj' e2 rfl
    simp only [List.cons.injEq, and_true] at e3
    subst e3; exact hx
  · have e2 : ls ++ [x] = (pre ++ y :: r') ++ [z] := by rw [e]; simp
    obtain ⟨rfl, -⟩ := List.append_inj' e2 rfl
    exact h pre y r' rfl
/-- The first line that may not stand where it stands has the number p. -/
def BadAt (ls : List (Nat × List ByteArray)) (p : Nat) : Prop := ∃ pre ws rest, ls = pre ++ (p, ws) :: rest ∧ AllMay pre ∧ ¬ mayOk pre ws
/-- The text ends too early. -/
def EndBad (ls : List (Nat × List ByteArray)) : Prop := AllMay ls ∧ ∀ x, ls.getLast? = some x → x.2.head? ≠ some outputW

theorem BadAt.not {ls : List (Nat × List ByteArray)} {p : Nat} (h : BadAt ls p) (k : AllMay ls) : False := by
  obtain ⟨pre, ws, rest, e, -, hn⟩ := h
  exact hn (k pre _ rest e)
theorem BadAt.only {ls : List (Nat × List ByteArray)} {p q : Nat} (h : BadAt ls p) (k : BadAt ls q) : p = q := by
  obtain ⟨pre, ws, rest, e, ha, hn⟩ := h
  obtain ⟨pre', ws', rest', e', ha', hn'⟩ := k
  rw [e] at e'
  rcases List.append_eq_append_iff.1 e' with ⟨zz, h1, h2⟩ | ⟨zz, h1, h2⟩
  · rcases zz with _ | ⟨y, zz⟩
    · simp only [List.nil_append, List.cons.injEq, Prod.mk.injEq] at h2
      exact h2.1.1
    · simp only [List.cons_append, List.cons.injEq] at h2
      rw [← h2.1] at h1
      exact absurd (ha' _ _ _ h1) hn
  · rcases zz with _ | ⟨y, zz⟩
    · simp only [List.nil_append, List.cons.injEq, Prod.mk.injEq] at h2
      exact h2.1.1.symm
    · simp only [List.cons_append, List.cons.injEq] at h2
      rw [← h2.1] at h1
      exact absurd (ha _ _ _ h1) hn'

theorem snocInd {α : Type} {P : List α → Prop} (h0 : P []) (hs : ∀ l x, P l → P (l ++ [x])) (l : List α) : P l := by
  have key : ∀ r : List α, P r.reverse := by
    intro r
    induction r with
    | nil => exact h0
    | cons x xs ih => rw [List.reverse_cons]; exact hs _ _ ih
  have := key l.reverse
  rw [List.reverse_reverse] at this
  exact this
theorem last_snoc {α : Type} (x y : α) (l : List α) : (x :: (l ++ [y])).getLast? = some y := by
  rw [show x :: (l ++ [y]) = (x :: l) ++ [y] from rfl, List.getLast?_concat]

/-- A list of sides: the lines of a box. -/
def BoxS (bs : List (Nat × List ByteArray)) : Prop := ∀ b ∈ bs, ∃ x1 x2, b.2 = [boxW, x1, x2] ∧ numOk x1 ∧ numOk x2
def NodS (ns : List (Nat × List ByteArray)) : Prop := ∀ x ∈ ns, nodeOk x.2

/-- What the lines of a graph are. -/
structure GoodS (ls : List (Nat × List ByteArray)) (x1 x2 xo : ByteArray) (bs ns : List (Nat × List ByteArray)) : Prop where
  ex : ∃ n0 no, ls = (n0, [graphW, x1, x2]) :: (bs ++ ns ++ [(no, [outputW, xo])])
  i1 : isInt x1
  i2 : isInt x2
  io : isInt xo
  len : bs.length = dv x1 x1.size
  box : BoxS bs
  nod : NodS ns

theorem nodeOk.head {ws : List ByteArray} (h : nodeOk ws) : ∃ kd, isKd kd ∧ ws.head? = some kd.word ∧ kdOk kd ws := by
  obtain ⟨kd, hk, ho⟩ := h
  exact ⟨kd, hk, ho.1, ho⟩
theorem nodeOk.nout {ws : List ByteArray} (h : nodeOk ws) : ws.head? ≠ some outputW := by
  obtain ⟨kd, hk, e, -⟩ := h.head
  rw [e]; simp; exact hk.nout

theorem may_head {ws : List ByteArray} : mayOk [] ws ↔ shapeOk ws graphW 2 0 0 := by
  constructor
  · rintro (⟨-, h⟩ | ⟨h, t, e, -⟩)
    · exact h
    · simp at e
  · exact fun h => Or.inl ⟨rfl, h⟩
theorem may_box {n0 : Nat} {x1 x2 : ByteArray} {t : List (Nat × List ByteArray)} {ws : List ByteArray} (h : t.length < dv x1 x1.size) : mayOk ((n0, [graphW, x1, x2]) :: t) ws ↔ shapeOk ws boxW 0 2 2 := by
  have e1 : wd [graphW, x1, x2] 1 = x1 := rfl
  constructor
  · rintro (⟨e, -⟩ | ⟨h', t', e, h2⟩)
    · simp at e
    · simp only [List.cons.injEq] at e
      obtain ⟨rfl, rfl⟩ := e
      simp only [e1] at h2
      rcases h2 with ⟨-, h2⟩ | ⟨h2, -⟩
      · exact h2
      · exact absurd h h2
  · exact fun hs => Or.inr ⟨_, _, rfl, Or.inl ⟨by simp only [e1]; exact h, hs⟩⟩
theorem may_rest {n0 : Nat} {x1 x2 : ByteArray} {t : List (Nat × List ByteArray)} {ws : List ByteArray} (h : ¬ t.length < dv x1 x1.size) (hl : ∀ x, ((n0, [graphW, x1, x2]) :: t).getLast? = some x → x.2.head? ≠ some outputW) : mayOk ((n0, [graphW, x1, x2]) :: t) ws ↔ (nodeOk ws ∨ shapeOk ws outputW 1 0 0) := by
  have e1 : wd [graphW, x1, x2] 1 = x1 := rfl
  constructor
  · rintro (⟨e, -⟩ | ⟨h', t', e, h2⟩)
    · simp at e
    · simp only [List.cons.injEq] at e
      obtain ⟨rfl, rfl⟩ := e
      simp only [e1] at h2
      rcases h2 with ⟨h2, -⟩ | ⟨-, -, h2⟩
      · exact absurd h2 h
      · exact h2
  · exact fun hs => Or.inr ⟨_, _, rfl, Or.inr ⟨by simp only [e1]; exact h, hl, hs⟩⟩
theorem may_end {n0 : Nat} {x1 x2 : ByteArray} {t : List (Nat × List ByteArray)} {y : Nat × List ByteArray} {ws : List ByteArray} (h : ¬ (t ++ [y]).length < dv x1 x1.size) (hy : y.2.head? = some outputW) : ¬ mayOk ((n0, [graphW, x1, x2]) :: (t ++ [y])) ws := by
  have e1 : wd [graphW, x1, x2] 1 = x1 := rfl
  rintro (⟨e, -⟩ | ⟨h', t', e, h2⟩)
  · simp at e
  · simp only [List.cons.injEq] at e
    obtain ⟨rfl, rfl⟩ := e
    simp only [e1] at h2
    rcases h2 with ⟨h2, -⟩ | ⟨-, h2, -⟩
    · exact h h2
    · exact h2 y (last_snoc _ _ _) hy

theorem last_pre {n0 : Nat} {x1 x2 : ByteArray} {bs ns : List (Nat × List ByteArray)} (hb : BoxS bs) (hn : NodS ns) : ∀ x, ((n0, [graphW, x1, x2]) :: (bs ++ ns)).getLast? = some x → x.2.head? ≠ some outputW := fun x hx => by
  have hm := List.mem_of_getLast? hx
  rcases List.mem_cons.1 hm with rfl | hm
  · simp [graphW, outputW]
  · rcases List.mem_append.1 hm with hm | hm
    · obtain ⟨y1, y2, e, -⟩ := hb x hm
      rw [e]; simp [boxW, outputW]
    · exact (hn x hm).nout

/-- What stands before the line at hand: a head, sides, nodes. -/
theorem pre_may {n0 : Nat} {x1 x2 : ByteArray} {bs ns : List (Nat × List ByteArray)} (i1 : isInt x1) (i2 : isInt x2) (hb : BoxS bs) (hn : NodS ns) (hl : bs.length ≤ dv x1 x1.size) (hl2 : ns ≠ [] → bs.length = dv x1 x1.size) : AllMay ((n0, [graphW, x1, x2]) :: (bs ++ ns)) := by
  have k0 : ∀ bs : List (Nat × List ByteArray), BoxS bs → bs.length ≤ dv x1 x1.size → AllMay ((n0, [graphW, x1, x2]) :: bs) := by
    refine snocInd ?_ ?_
    · intro _ _
      exact (AllMay.nil).snoc (x := (n0, [graphW, x1, x2])) (may_head.2 (shape_graph.2 ⟨x1, x2, rfl, i1, i2⟩))
    · intro bs b ih hb hl
      have hb' : BoxS bs := fun y hy => hb y (by simp [hy])
      have hlen : bs.length < dv x1 x1.size := by simp at hl; omega
      exact (ih hb' (by omega)).snoc (x := b) ((may_box hlen).2 (shape_box.2 (hb b (by simp))))
  have key : ∀ ns : List (Nat × List ByteArray), NodS ns → (ns ≠ [] → bs.length = dv x1 x1.size) → AllMay ((n0, [graphW, x1, x2]) :: (bs ++ ns)) := by
    refine snocInd ?_ ?_
    · intro _ _
      rw [List.append_nil]
      exact k0 bs hb hl
    · intro ns y ih hn hl2
      have hn' : NodS ns := fun z hz => hn z (by simp [hz])
      have hlen := hl2 (by simp)
      have h1 := (ih hn' (fun _ => hlen)).snoc (x := y) ((may_rest (by rw [List.length_append]; omega) (last_pre hb hn')).2 (Or.inl (hn y (by simp))))
      rw [List.cons_append, List.append_assoc] at h1
      exact h1
  exact key ns hn hl2

theorem GoodS.may {ls : List (Nat × List ByteArray)} {x1 x2 xo : ByteArray} {bs ns : List (Nat × List ByteArray)} (h : GoodS ls x1 x2 xo bs ns) : AllMay ls := by
  obtain ⟨n0, no, e⟩ := h.ex
  have h1 := (pre_may (n0 := n0) h.i1 h.i2 h.box h.nod (Nat.le_of_eq h.len) (fun _ => h.len)).snoc (x := (no, [outputW, xo])) ((may_rest (by rw [List.length_append, h.len]; omega) (last_pre h.box h.nod)).2 (Or.inr (shape_out.2 ⟨xo, rfl, h.io⟩)))
  rw [e]
  exact h1
theorem GoodS.last {ls : List (Nat × List ByteArray)} {x1 x2 xo : ByteArray} {bs ns : List (Nat × List ByteArray)} (h : GoodS ls x1 x2 xo bs ns) : ∃ no, ls.getLast? = some (no, [outputW, xo]) := by
  obtain ⟨n0, no, e⟩ := h.ex
  exact ⟨no, by rw [e]; exact last_snoc _ _ _⟩

end Go.Proofs.YtnogbaapcjjngaaGreatDoor

namespace Go.Proofs.YtnogbaapcjjngaaGreatDoor
open Go.RowKit

/-- The kind of a node's line. -/
def kdBy (x : ByteArray) : Kd := ([kd1, kd2, kd3, kd4, kd5, kd6, kd7].find? fun k => decide (x = k.word)).getD kd1
def kdOf : List ByteArray → Kd
  | [] => kd1
  | x :: _ => kdBy x
theorem kdOf_eq {ws : List ByteArray} {kd : Kd} (h : isKd kd) (k : kdOk kd ws) : kdOf ws = kd := by
  match ws, k.1 with
  | x :: _, e =>
    obtain rfl : x = kd.word := Option.some.inj e
    show kdBy kd.word = kd
    rcases h with rfl | rfl | rfl | rfl | rfl | rfl | rfl <;> kernel_rfl
theorem kdOf_ok {ws : List ByteArray} (h : nodeOk ws) : isKd (kdOf ws) ∧ kdOk (kdOf ws) ws := by
  obtain ⟨kd, a, b⟩ := h
  rw [kdOf_eq a b]
  exact ⟨a, b⟩
/-- The node of a line. -/
def nD (ws : List ByteArray) : NodeD := nodeD (kdOf ws) ws
/-- The words of its numbers. -/
def vw (ws : List ByteArray) : List ByteArray := ws.drop (1 + (kdOf ws).fs.length)

/-- Nodes that are read, grown by append. -/
structure OutN (w : World) (lo : Nat) (v : Value) (k : Nat) (N : Nat → List ByteArray) (xs : List Value) (zs : List (List Value)) : Prop where
  zl : zs.length = k
  own : w.ownsRow lo 64 6 v k xs
  at_ : ∀ i, i < k → ∃ a cap xV, xs[i * 6]? = some (.int .i64 (nD (N i)).op) ∧ xs[i * 6 + 1]? = some (.int .i64 (nD (N i)).a) ∧ xs[i * 6 + 2]? = some (.int .i64 (nD (N i)).b) ∧ xs[i * 6 + 3]? = some (.int .i64 (nD (N i)).k) ∧ xs[i * 6 + 4]? = some (.int .i64 (nD (N i)).s) ∧ xs[i * 6 + 5]? = some (.slice a (vw (N i)).length cap) ∧
    OutR w 0 (.slice a (vw (N i)).length cap) (vw (N i)).length (wd (vw (N i))) (fun _ q => lo ≤ q ∧ v.ownBlock ≠ some q) xV ∧ (∀ g, (Value.slice a (vw (N i)).length cap).ownBlock = some g → lo ≤ g ∧ v.ownBlock ≠ some g) ∧ zs[i]? = some (.slice a (vw (N i)).length cap :: xV)

section
variable {w w' w1 : World} {lo k : Nat} {v v' : Value} {N : Nat → List ByteArray} {xs : List Value} {zs : List (List Value)}
theorem OutN.chg {R : Nat → Prop} (h : OutN w lo v k N xs zs) (s : Chg R w w') (hR : ∀ q, R q → q < lo) : OutN w' lo v k N xs zs := by
  refine ⟨h.zl, ?_, fun i hi => ?_⟩
  · obtain ⟨hl, h1 | ⟨g, cap, cur, rfl, hb', hh, hr⟩⟩ := h.own
    · exact ⟨hl, Or.inl h1⟩
    · exact ⟨hl, Or.inr ⟨g, cap, cur, rfl, hb', (s.block g (Array.getElem?_eq_some_iff.1 hh).1 (fun e => by have := hR g e; omega)).trans hh, hr⟩⟩
  · obtain ⟨a, cap, xV, h1, h2, h3, h4, h5, h6, O, ho, hz⟩ := h.at_ i hi
    exact ⟨a, cap, xV, h1, h2, h3, h4, h5, h6, O.chg s (fun g e e' => by have := hR g e'; have := (ho g e).1; omega) (fun _ g hp e' => by have := hR g e'; have := hp.1; omega), ho, hz⟩
theorem OutN.congr {N' : Nat → List ByteArray} (h : OutN w lo v k N xs zs) (hN : ∀ i, i < k → N i = N' i) : OutN w lo v k N' xs zs :=
  ⟨h.zl, h.own, fun i hi => by rw [← hN i hi]; exact h.at_ i hi⟩
theorem OutN.snoc (h : OutN w lo v k N xs zs) (s1 : w.Since w.heap.size w1) (hs : w.heap.size < w1.heap.size) (g : w1.grownBy w' v.ownBlock) {a : Option Addr} {cap : Nat} {xV : List Value}
    (own : w'.ownsRow lo 64 6 v' (k + 1) (xs ++ [.int .i64 (nD (N k)).op, .int .i64 (nD (N k)).a, .int .i64 (nD (N k)).b, .int .i64 (nD (N k)).k, .int .i64 (nD (N k)).s, .slice a (vw (N k)).length cap]))
    (hat : v'.ownBlock = v.ownBlock ∨ v'.ownBlock = some w1.heap.size) (A : OutR w 0 (.slice a (vw (N k)).length cap) (vw (N k)).length (wd (vw (N k))) (fun _ q => lo ≤ q ∧ v.ownBlock ≠ some q) xV) (ho : ∀ g, (Value.slice a (vw (N k)).length cap).ownBlock = some g → lo ≤ g ∧ v.ownBlock ≠ some g) :
    OutN w' lo v' (k + 1) N (xs ++ [.int .i64 (nD (N k)).op, .int .i64 (nD (N k)).a, .int .i64 (nD (N k)).b, .int .i64 (nD (N k)).k, .int .i64 (nD (N k)).s, .slice a (vw (N k)).length cap]) (zs ++ [.slice a (vw (N k)).length cap :: xV]) := by
  have hzl := h.zl
  have hl : xs.length = k * 6 := h.own.1
  have nv' : ∀ q, q < w.heap.size → v.ownBlock ≠ some q → v'.ownBlock ≠ some q := fun q hq hn e => by
    rcases hat with h | h
    · exact hn (h.symm.trans e)
    · rw [e] at h; simp at h; omega
  have kb : ∀ q, q < w.heap.size → v.ownBlock ≠ some q → w'.heap[q]? = w.heap[q]? := fun q hq hn => (g.block q (by omega) (fun e => hn e.symm)).trans (s1.block q hq)
  have mv : ∀ {a : Option Addr} {n cap : Nat} {x : Nat → ByteArray} {xV : List Value}, OutR w 0 (.slice a n cap) n x (fun _ q => lo ≤ q ∧ v.ownBlock ≠ some q) xV → (∀ g, (Value.slice a n cap).ownBlock = some g → lo ≤ g ∧ v.ownBlock ≠ some g) → OutR w' 0 (.slice a n cap) n x (fun _ q => lo ≤ q ∧ v'.ownBlock ≠ some q) xV ∧ (∀ g, (Value.slice a n cap).ownBlock = some g → lo ≤ g ∧ v'.ownBlock ≠ some g) := fun {a n cap x xV} O ho => by
    refine ⟨?_, fun q e => ⟨(ho q e).1, nv' q (O.own.lt q e).2 (ho q e).2⟩⟩
    have r2 := O.imp' (p' := fun _ q => (lo ≤ q ∧ v.ownBlock ≠ some q) ∧ v'.ownBlock ≠ some q) (fun _ q _ hq hp => ⟨hp, nv' q hq hp.2⟩)
    have r3 := r2.blocks (w' := w') (by have := g.size; omega) (fun q e => kb q (O.own.lt q e).2 (ho q e).2) (fun _ q _ hq hp => kb q hq hp.1.2)
    exact r3.imp' (fun _ q _ _ hp => ⟨hp.1.1, hp.2⟩)
  refine ⟨by simp [hzl], own, fun i hi => ?_⟩
  by_cases e : i = k
  · subst e
    obtain ⟨m1, m2⟩ := mv A ho
    refine ⟨a, cap, xV, ?_, ?_, ?_, ?_, ?_, ?_, m1, m2, by rw [List.getElem?_append_right (by omega), hzl]; simp⟩
    all_goals (rw [List.getElem?_append_right (by omega), hl]; simp)
  · obtain ⟨a', cap', xV', h1, h2, h3, h4, h5, h6, O, ho', hz⟩ := h.at_ i (by omega)
    obtain ⟨m1, m2⟩ := mv O ho'
    exact ⟨a', cap', xV', by rw [List.getElem?_append_left (by omega)]; exact h1, by rw [List.getElem?_append_left (by omega)]; exact h2, by rw [List.getElem?_append_left (by omega)]; exact h3, by rw [List.getElem?_append_left (by omega)]; exact h4, by rw [List.getElem?_append_left (by omega)]; exact h5, by rw [List.getElem?_append_left (by omega)]; exact h6, m1, m2, by rw [List.getElem?_append_left (by omega)]; exact hz⟩
end

/-- The sides, whose blocks lie from lo to hi. -/
structure SideQ (w : World) (lo hi d : Nat) (vL vH : Value) (lL lH : List ByteArray) (xL xH : List Value) : Prop where
  L : OutR w lo vL lL.length (wd lL) (fun _ q => (lo ≤ q ∧ q ≠ d ∧ vH.ownBlock ≠ some q) ∧ q < hi) xL
  H : OutR w lo vH lH.length (wd lH) (fun _ q => (lo ≤ q ∧ q ≠ d ∧ vL.ownBlock ≠ some q) ∧ q < hi) xH
  sep : ∀ g, vL.ownBlock = some g → vH.ownBlock ≠ some g
  dL : vL.ownBlock ≠ some d
  dH : vH.ownBlock ≠ some d
  oL : ∀ g, vL.ownBlock = some g → g < hi
  oH : ∀ g, vH.ownBlock = some g → g < hi
  A : Apt lo hi (xL ++ xH)

theorem SideO.q {w : World} {lo d : Nat} {vL vH : Value} {lL lH : List ByteArray} {xL xH : List Value} (h : SideO w lo d vL vH lL lH xL xH) : SideQ w lo w.heap.size d vL vH lL lH xL xH :=
  ⟨h.T.W.imp' (fun _ _ _ hq hp => ⟨hp, hq⟩), h.T.B.imp' (fun _ _ _ hq hp => ⟨hp, hq⟩), h.T.sep, h.T.dW, h.T.dB, fun g e => (h.T.W.own.lt g e).2, fun g e => (h.T.B.own.lt g e).2, h.A⟩
theorem SideQ.chg {w w' : World} {lo hi d : Nat} {vL vH : Value} {lL lH : List ByteArray} {xL xH : List Value} {R : Nat → Prop} (h : SideQ w lo hi d vL vH lL lH xL xH) (k : Chg R w w') (hR : ∀ q, R q → q < lo ∨ q = d ∨ hi ≤ q) : SideQ w' lo hi d vL vH lL lH xL xH := by
  have n1 : ∀ q, lo ≤ q → q ≠ d → q < hi → ¬ R q := fun q h1 h2 h3 e => by have := hR q e; omega
  exact ⟨h.L.chg k (fun g e => n1 g (h.L.own.lt g e).1 (fun e' => h.dL (e' ▸ e)) (h.oL g e)) (fun _ q hq => n1 q hq.1.1 hq.1.2.1 hq.2), h.H.chg k (fun g e => n1 g (h.H.own.lt g e).1 (fun e' => h.dH (e' ▸ e)) (h.oH g e)) (fun _ q hq => n1 q hq.1.1 hq.1.2.1 hq.2), h.sep, h.dL, h.dH, h.oL, h.oH, h.A⟩
theorem Chg.of_since {w w' : World} (s : w.Since w.heap.size w') : Chg (fun _ => False) w w' := ⟨s.os, s.tape, s.output, s.size, fun q hq _ => s.block q hq⟩
theorem SideQ.keep {w w' : World} {lo hi d : Nat} {vL vH : Value} {lL lH : List ByteArray} {xL xH : List Value} (h : SideQ w lo hi d vL vH lL lH xL xH) (s : w.Since w.heap.size w') : SideQ w' lo hi d vL vH lL lH xL xH := h.chg (Chg.of_since s) (fun _ e => e.elim)

end Go.Proofs.YtnogbaapcjjngaaGreatDoor

namespace Go.Proofs.YtnogbaapcjjngaaGreatDoor
open Go.RowKit

/-- The words of a line in memory. -/
structure LinC (w : World) (q cq : Nat) (ws : List ByteArray) : Prop where
  c : ∀ (j : Nat) (x : ByteArray), ws[j]? = some x → w.cell? ⟨q, j, none⟩ = some (.string x)
  z : ∀ x ∈ ws, x.size ≤ 100000
  p : 0 < ws.length
  l : ws.length ≤ 100001
  cap : ws.length ≤ cq
theorem LinC.keep {w w' : World} {q cq : Nat} {ws : List ByteArray} (h : LinC w q cq ws) (s : w.Since w.heap.size w') : LinC w' q cq ws :=
  ⟨fun j x hx => (s.cell (a := ⟨q, j, none⟩) (World.block_lt_of_cell? _ _ (h.c j x hx))).trans (h.c j x hx), h.z, h.p, h.l, h.cap⟩
theorem LinC.shape {w : World} {q cq : Nat} {ws : List ByteArray} (h : LinC w q cq ws) (nm : ByteArray) (ints least : Nat) (most : Int) (hi : ints ≤ 10) (hl : least ≤ 10) (hm : -1 ≤ most) (hm' : most ≤ 10) :
    Calls Tryz.prog 19 #[.slice (some ⟨q, 0, none⟩) ws.length cq, .string nm, .int .i64 (ints : Int), .int .i64 (least : Int), .int .i64 most] w fun e w' => RetB w (shapeOk ws nm ints least most) e w' :=
  l2Shape_q nm ints least most (some ⟨q, 0, none⟩) q 0 cq ws w (fun j x hx => ⟨rfl, by rw [Nat.zero_add]; exact h.c j x hx⟩) h.z h.p h.l hi hl hm hm'

theorem nodeOk_iff {ws : List ByteArray} : nodeOk ws ↔ (kdOk kd1 ws ∨ kdOk kd2 ws ∨ kdOk kd3 ws ∨ kdOk kd4 ws ∨ kdOk kd5 ws ∨ kdOk kd6 ws ∨ kdOk kd7 ws) := by
  constructor
  · rintro ⟨kd, rfl | rfl | rfl | rfl | rfl | rfl | rfl, h⟩
    · exact Or.inl h
    · exact Or.inr (Or.inl h)
    · exact Or.inr (Or.inr (Or.inl h))
    · exact Or.inr (Or.inr (Or.inr (Or.inl h)))
    · exact Or.inr (Or.inr (Or.inr (Or.inr (Or.inl h))))
    · exact Or.inr (Or.inr (Or.inr (Or.inr (Or.inr (Or.inl h)))))
    · exact Or.inr (Or.inr (Or.inr (Or.inr (Or.inr (Or.inr h)))))
  · rintro (h | h | h | h | h | h | h)
    · exact ⟨_, Or.inl rfl, h⟩
    · exact ⟨_, Or.inr (Or.inl rfl), h⟩
    · exact ⟨_, Or.inr (Or.inr (Or.inl rfl)), h⟩
    · exact ⟨_, Or.inr (Or.inr (Or.inr (Or.inl rfl))), h⟩
    · exact ⟨_, Or.inr (Or.inr (Or.inr (Or.inr (Or.inl rfl)))), h⟩
    · exact ⟨_, Or.inr (Or.inr (Or.inr (Or.inr (Or.inr (Or.inl rfl))))), h⟩
    · exact ⟨_, Or.inr (Or.inr (Or.inr (Or.inr (Or.inr (Or.inr rfl))))), h⟩

set_option maxHeartbeats 6400000 in
set_option maxRecDepth 100000 in
theorem l2IsNode_q (q cq : Nat) (ws : List ByteArray) (w : World) (h : LinC w q cq ws) :
    Calls Tryz.prog 68 #[.slice (some ⟨q, 0, none⟩) ws.length cq] w fun e w' => RetB w (nodeOk ws) e w' := by
  have HI := hide (@nodeOk_iff ws)
  obtain ⟨NO, hNO⟩ : ∃ P : Prop, P = nodeOk ws := ⟨_, rfl⟩
  rw [← hNO] at HI ⊢
  clear hNO
  have HH := hide h
  clear h
  have S0 : w.Since w.heap.size w := World.Since.refl _ _
  go_enter Tryz.func68, Tryz.ntmps68
  have J0 : Calls Tryz.prog 19 #[.slice (some ⟨q, 0, none⟩) ws.length cq, .string ⟨#[100, 101, 110, 115, 101]⟩, .int .i64 2, .int .i64 0, .int .i64 (-1)] w fun e w' => RetB w (kdOk kd1 ws) e w' := (HH.out.keep S0).shape ⟨#[100, 101, 110, 115, 101]⟩ 2 0 (-1) (by omega) (by omega) (by omega) (by omega)
  go_wp2_with fail
  refine J0.mono ?_
  rintro e w1 ⟨r, rfl, ir, s1⟩
  have IR0 := hide ir
  have S1 := S0.trans (sinceMono s1 S0.size)
  clear ir J0
  cases r
  rotate_left
  · go_wp2
    go_ret
    exact RetB.yes (HI.out.2 (Or.inl (IR0.out.1 (by simp)))) S1
  have J1 : Calls Tryz.prog 19 #[.slice (some ⟨q, 0, none⟩) ws.length cq, .string ⟨#[114, 101, 108, 117]⟩, .int .i64 1, .int .i64 0, .int .i64 0] w1 fun e w' => RetB w1 (kdOk kd2 ws) e w' := (HH.out.keep S1).shape ⟨#[114, 101, 108, 117]⟩ 1 0 0 (by omega) (by omega) (by omega) (by omega)
  go_wp2_with fail
  refine J1.mono ?_
  rintro e w2 ⟨r, rfl, ir, s2⟩
  have IR1 := hide ir
  have S2 := S1.trans (sinceMono s2 S1.size)
  clear ir J1
  cases r
  rotate_left
  · go_wp2
    go_ret
    exact RetB.yes (HI.out.2 (Or.inr (Or.inl (IR1.out.1 (by simp))))) S2
  have J2 : Calls Tryz.prog 19 #[.slice (some ⟨q, 0, none⟩) ws.length cq, .string ⟨#[108, 101, 97, 107, 121]⟩, .int .i64 1, .int .i64 1, .int .i64 1] w2 fun e w' => RetB w2 (kdOk kd3 ws) e w' := (HH.out.keep S2).shape ⟨#[108, 101, 97, 107, 121]⟩ 1 1 1 (by omega) (by omega) (by omega) (by omega)
  go_wp2_with fail
  refine J2.mono ?_
  rintro e w3 ⟨r, rfl, ir, s3⟩
  have IR2 := hide ir
  have S3 := S2.trans (sinceMono s3 S2.size)
  clear ir J2
  cases r
  rotate_left
  · go_wp2
    go_ret
    exact RetB.yes (HI.out.2 (Or.inr (Or.inr (Or.inl (IR2.out.1 (by simp)))))) S3
  have J3 : Calls Tryz.prog 19 #[.slice (some ⟨q, 0, none⟩) ws.length cq, .string ⟨#[97, 100, 100]⟩, .int .i64 2, .int .i64 0, .int .i64 0] w3 fun e w' => RetB w3 (kdOk kd4 ws) e w' := (HH.out.keep S3).shape ⟨#[97, 100, 100]⟩ 2 0 0 (by omega) (by omega) (by omega) (by omega)
  go_wp2_with fail
  refine J3.mono ?_
  rintro e w4 ⟨r, rfl, ir, s4⟩
  have IR3 := hide ir
  have S4 := S3.trans (sinceMono s4 S3.size)
  clear ir J3
  cases r
  rotate_left
  · go_wp2
    go_ret
    exact RetB.yes (HI.out.2 (Or.inr (Or.inr (Or.inr (Or.inl (IR3.out.1 (by simp))))))) S4
  have J4 : Calls Tryz.prog 19 #[.slice (some ⟨q, 0, none⟩) ws.length cq, .string ⟨#[109, 97, 120, 112, 111, 111, 108]⟩, .int .i64 2, .int .i64 0, .int .i64 0] w4 fun e w' => RetB w4 (kdOk kd5 ws) e w' := (HH.out.keep S4).shape ⟨#[109, 97, 120, 112, 111, 111, 108]⟩ 2 0 0 (by omega) (by omega) (by omega) (by omega)
  go_wp2_with fail
  refine J4.mono ?_
  rintro e w5 ⟨r, rfl, ir, s5⟩
  have IR4 := hide ir
  have S5 := S4.trans (sinceMono s5 S4.size)
  clear ir J4
  cases r
  rotate_left
  · go_wp2
    go_ret
    exact RetB.yes (HI.out.2 (Or.inr (Or.inr (Or.inr (Or.inr (Or.inl (IR4.out.1 (by simp)))))))) S5
  have J5 : Calls Tryz.prog 19 #[.slice (some ⟨q, 0, none⟩) ws.length cq, .string ⟨#[99, 111, 110, 118]⟩, .int .i64 3, .int .i64 0, .int .i64 (-1)] w5 fun e w' => RetB w5 (kdOk kd6 ws) e w' := (HH.out.keep S5).shape ⟨#[99, 111, 110, 118]⟩ 3 0 (-1) (by omega) (by omega) (by omega) (by omega)
  go_wp2_with fail
  refine J5.mono ?_
  rintro e w6 ⟨r, rfl, ir, s6⟩
  have IR5 := hide ir
  have S6 := S5.trans (sinceMono s6 S5.size)
  clear ir J5
  cases r
  rotate_left
  · go_wp2
    go_ret
    exact RetB.yes (HI.out.2 (Or.inr (Or.inr (Or.inr (Or.inr (Or.inr (Or.inl (IR5.out.1 (by simp))))))))) S6
  have J6 : Calls Tryz.prog 19 #[.slice (some ⟨q, 0, none⟩) ws.length cq, .string ⟨#[110, 111, 114, 109]⟩, .int .i64 1, .int .i64 4, .int .i64 4] w6 fun e w' => RetB w6 (kdOk kd7 ws) e w' := (HH.out.keep S6).shape ⟨#[110, 111, 114, 109]⟩ 1 4 4 (by omega) (by omega) (by omega) (by omega)
  go_wp2_with fail
  refine J6.mono ?_
  rintro e w7 ⟨r, rfl, ir, s7⟩
  have IR6 := hide ir
  have S7 := S6.trans (sinceMono s7 S6.size)
  clear ir J6
  cases r
  · go_wp2
    go_ret
    refine RetB.no (fun hn => ?_) S7
    rcases HI.out.1 hn with h9 | h9 | h9 | h9 | h9 | h9 | h9
    · have := IR0.out.2 h9
      simp at this
    · have := IR1.out.2 h9
      simp at this
    · have := IR2.out.2 h9
      simp at this
    · have := IR3.out.2 h9
      simp at this
    · have := IR4.out.2 h9
      simp at this
    · have := IR5.out.2 h9
      simp at this
    · have := IR6.out.2 h9
      simp at this
  · go_wp2
    go_ret
    exact RetB.yes (HI.out.2 (Or.inr (Or.inr (Or.inr (Or.inr (Or.inr (Or.inr (IR6.out.1 (by simp))))))))) S7

end Go.Proofs.YtnogbaapcjjngaaGreatDoor

namespace Go.Proofs.YtnogbaapcjjngaaGreatDoor
open Go.RowKit

theorem may_cons {h : Nat × List ByteArray} {t : List (Nat × List ByteArray)} {ws : List ByteArray} : mayOk (h :: t) ws ↔ ((t.length < dv (wd h.2 1) (wd h.2 1).size ∧ shapeOk ws boxW 0 2 2) ∨
    (¬ t.length < dv (wd h.2 1) (wd h.2 1).size ∧ (∀ x, (h :: t).getLast? = some x → x.2.head? ≠ some outputW) ∧ (nodeOk ws ∨ shapeOk ws outputW 1 0 0))) := by
  constructor
  · rintro (⟨e, -⟩ | ⟨h', t', e, h2⟩)
    · simp at e
    · simp only [List.cons.injEq] at e
      obtain ⟨rfl, rfl⟩ := e
      exact h2
  · exact fun h2 => Or.inr ⟨_, _, rfl, h2⟩

theorem LinL.c {w : World} {gl : Nat} {ls : List (Nat × List ByteArray)} (h : LinL w gl ls) (Z : LinZ ls) {j n : Nat} {ws : List ByteArray} (hj : ls[j]? = some (n, ws)) : ∃ q cq, w.cell? ⟨gl, j * 2, none⟩ = some (.int .i64 (n : Int)) ∧ w.cell? ⟨gl, j * 2 + 1, none⟩ = some (.slice (some ⟨q, 0, none⟩) ws.length cq) ∧ LinC w q cq ws := by
  obtain ⟨h1, q, cq, h2, h3, h4⟩ := h j n ws hj
  obtain ⟨z0, z1, z2⟩ := Z.at_ j n ws hj
  exact ⟨q, cq, h1, h2, ⟨h4, z2, z0, z1, h3⟩⟩

set_option maxHeartbeats 6400000 in
set_option maxRecDepth 100000 in
theorem l2May_q (gl cl i q cq : Nat) (ls : List (Nat × List ByteArray)) (ws : List ByteArray) (w : World) (H : LinL w gl ls) (Z : LinZ ls) (hi : i ≤ ls.length) (hM : AllMay (ls.take i)) (hC : LinC w q cq ws) :
    Calls Tryz.prog 31 #[.slice (some ⟨gl, 0, none⟩) i cl, .slice (some ⟨q, 0, none⟩) ws.length cq] w fun e w' => RetB w (mayOk (ls.take i) ws) e w' := by
  have hll := Z.len
  have HC := hide hC
  clear hC
  match i, hi, hM with
  | 0, _, _ =>
    rw [List.take_zero]
    have HI := hide (@may_head ws)
    obtain ⟨NO, hNO⟩ : ∃ P : Prop, P = mayOk [] ws := ⟨_, rfl⟩
    rw [← hNO] at HI ⊢
    clear hNO
    have J : Calls Tryz.prog 19 #[.slice (some ⟨q, 0, none⟩) ws.length cq, .string ⟨#[103, 114, 97, 112, 104]⟩, .int .i64 2, .int .i64 0, .int .i64 0] w fun e w' => RetB w (shapeOk ws graphW 2 0 0) e w' := HC.out.shape graphW 2 0 0 (by omega) (by omega) (by omega) (by omega)
    go_enter Tryz.func31, Tryz.ntmps31
    go_wp2_with fail
    refine J.mono ?_
    rintro e w1 ⟨r, rfl, ir, s1⟩
    have IR := hide ir
    clear ir J
    go_wp2
    go_ret
    exact ⟨r, rfl, by rw [HI.out]; exact IR.out, s1⟩
  | k + 1, hi, hM =>
    have h0 : 0 < ls.length := by omega
    obtain ⟨h, t0, rfl⟩ : ∃ h t, ls = h :: t := by
      cases ls with
      | nil => simp at h0
      | cons h t => exact ⟨h, t, rfl⟩
    have hi' : k ≤ t0.length := by simpa using hi
    have hll' : t0.length + 1 ≤ 100001 := by simpa using hll
    rw [List.take_succ_cons] at hM ⊢
    have hM0 := hM [] h (t0.take k) rfl
    obtain ⟨x1, x2, eh, i1, -⟩ := shape_graph.1 (may_head.1 hM0)
    obtain ⟨n0, wg⟩ := h
    simp only at eh
    subst eh
    have ltl : (t0.take k).length = k := by rw [List.length_take]; simp at hi; omega
    have HI := hide (@may_cons (n0, [graphW, x1, x2]) (t0.take k) ws)
    rw [ltl] at HI
    simp only [show wd [graphW, x1, x2] 1 = x1 from rfl] at HI
    obtain ⟨NO, hNO⟩ : ∃ P : Prop, P = mayOk ((n0, [graphW, x1, x2]) :: t0.take k) ws := ⟨_, rfl⟩
    rw [← hNO] at HI ⊢
    clear hNO
    obtain ⟨q0, cq0, -, c1, C0⟩ := H.c Z (j := 0) (n := n0) (ws := [graphW, x1, x2]) rfl
    have k1 := C0.c 1 x1 rfl
    have hI := isInt_lim i1
    have JI := l2Int_d x1 w i1
    obtain ⟨I, eI⟩ : ∃ I, dv x1 x1.size = I := ⟨_, rfl⟩
    rw [eI] at JI HI hI
    have c1 : w.cell? ⟨gl, 1, none⟩ = some (.slice (some ⟨q0, 0, none⟩) 3 cq0) := c1
    -- the last line ahead
    obtain ⟨nl, wl, hlast, hgl⟩ : ∃ nl wl, ((n0, [graphW, x1, x2]) :: t0)[k]? = some (nl, wl) ∧ ((n0, [graphW, x1, x2]) :: t0.take k).getLast? = some (nl, wl) := by
      have hk : k < ((n0, [graphW, x1, x2]) :: t0).length := by simp at hi ⊢; omega
      refine ⟨_, _, List.getElem?_eq_getElem hk, ?_⟩
      rw [← List.take_succ_cons, List.getLast?_eq_getElem?, List.length_take, Nat.min_eq_left (by simp at hi ⊢; omega), Nat.add_sub_cancel, List.getElem?_take, if_pos (by omega), List.getElem?_eq_getElem hk]
      rfl
    obtain ⟨ql, cql, -, cl1, CL⟩ := H.c Z hlast
    obtain ⟨xl, hxl⟩ : ∃ x, wl[0]? = some x := ⟨_, List.getElem?_eq_getElem CL.p⟩
    have kl := CL.c 0 xl hxl
    have HHD : Hid (wl.head? = some xl) := hide (by rw [List.head?_eq_getElem?]; exact hxl)
    have HGL := hide hgl
    have hwl := CL.p
    obtain ⟨NL, hNL⟩ : ∃ n, wl.length = n := ⟨_, rfl⟩
    rw [hNL] at cl1 hwl
    have hwl' : (0 : Int) < (NL : Int) := by omega
    have hk1 : IntKind.i64.wrap ((k : Int) + 1 - 1) = (k : Int) := by rw [IntKind.wrap_i64]; omega
    have hkk : (k : Int) < (k : Int) + 1 := by omega
    have hz0 : ¬ ((k : Int) + 1 = 0) := by omega
    have hpz : (0 : Int) < (k : Int) + 1 := by omega
    have hkl : k ≤ 100001 := by omega
    clear hll hi' hll'
    have EI := hide eI
    clear H Z hM hM0 C0 i1 eI hlast hgl CL hxl hNL ltl hi h0
    go_enter Tryz.func31, Tryz.ntmps31
    go_wp2_with fail
    refine JI.mono ?_
    rintro e w1 ⟨rfl, s1⟩
    have cl1 := (s1.cell (a := ⟨gl, k * 2 + 1, none⟩) (World.block_lt_of_cell? _ _ cl1)).trans cl1
    have kl := (s1.cell (a := ⟨ql, 0, none⟩) (World.block_lt_of_cell? _ _ kl)).trans kl
    clear JI c1 k1
    by_cases hlt : k < I
    · have hlt' : (k : Int) + 1 < 1 + (I : Int) := by omega
      have J : Calls Tryz.prog 19 #[.slice (some ⟨q, 0, none⟩) ws.length cq, .string ⟨#[98, 111, 120]⟩, .int .i64 0, .int .i64 2, .int .i64 2] w1 fun e w' => RetB w1 (shapeOk ws boxW 0 2 2) e w' := (HC.out.keep s1).shape boxW 0 2 2 (by omega) (by omega) (by omega) (by omega)
      go_wp2_with fail
      refine J.mono ?_
      rintro e w2 ⟨r, rfl, ir, s2⟩
      have IR := hide ir
      have S2 := s1.trans (sinceMono s2 s1.size)
      clear ir J
      go_wp2
      go_ret
      refine ⟨r, rfl, ?_, S2⟩
      rw [IR.out, HI.out]
      exact ⟨fun hs => Or.inl ⟨hlt, hs⟩, fun hs => by
        rcases hs with ⟨-, hs⟩ | ⟨hs, -⟩
        · exact hs
        · exact absurd hlt hs⟩
    have hlt' : ¬ ((k : Int) + 1 < 1 + (I : Int)) := by omega
    by_cases hx : xl.toList = [111, 117, 116, 112, 117, 116]
    · have hbe : (xl.toList == [111, 117, 116, 112, 117, 116]) = true := by simpa using hx
      have HX : Hid (xl = outputW) := hide (str_eq.1 (by rw [hx]; decide +kernel))
      go_wp2
      go_ret
      refine RetB.no (fun hn => ?_) s1
      rcases HI.out.1 hn with ⟨h9, -⟩ | ⟨-, h9, -⟩
      · exact hlt h9
      · exact h9 _ HGL.out (by rw [HHD.out, HX.out])
    · have hbe : (xl.toList == [111, 117, 116, 112, 117, 116]) = false := by simpa using hx
      have HX : Hid (xl ≠ outputW) := hide (fun e => hx (by rw [e]; decide +kernel))
      have J := l2IsNode_q q cq ws w1 (HC.out.keep s1)
      go_wp2_with fail
      refine J.mono ?_
      rintro e w2 ⟨r, rfl, ir, s2⟩
      have IR := hide ir
      have S2 := s1.trans (sinceMono s2 s1.size)
      clear ir J
      have HLST : Hid (∀ x, ((n0, [graphW, x1, x2]) :: t0.take k).getLast? = some x → x.2.head? ≠ some outputW) := hide (fun y hy => by
        rw [HGL.out] at hy
        simp only [Option.some.injEq] at hy
        subst hy
        rw [HHD.out]
        simp
        exact HX.out)
      cases r
      rotate_left
      · go_wp2
        go_ret
        exact RetB.yes (HI.out.2 (Or.inr ⟨hlt, HLST.out, Or.inl (IR.out.1 (by simp))⟩)) S2
      · have J : Calls Tryz.prog 19 #[.slice (some ⟨q, 0, none⟩) ws.length cq, .string ⟨#[111, 117, 116, 112, 117, 116]⟩, .int .i64 1, .int .i64 0, .int .i64 0] w2 fun e w' => RetB w2 (shapeOk ws outputW 1 0 0) e w' := (HC.out.keep S2).shape outputW 1 0 0 (by omega) (by omega) (by omega) (by omega)
        go_wp2_with fail
        refine J.mono ?_
        rintro e w3 ⟨r, rfl, ir, s3⟩
        have IR3 := hide ir
        have S3 := S2.trans (sinceMono s3 S2.size)
        clear ir J
        go_wp2
        go_ret
        refine ⟨r, rfl, ?_, S3⟩
        rw [IR3.out, HI.out]
        exact ⟨fun hs => Or.inr ⟨hlt, HLST.out, Or.inr hs⟩, fun hs => by
          rcases hs with ⟨hs, -⟩ | ⟨-, -, hs | hs⟩
          · exact absurd hs hlt
          · have := IR.out.2 hs; simp at this
          · exact hs⟩

end Go.Proofs.YtnogbaapcjjngaaGreatDoor
