import Derived.Shelf.LaysM
import Derived.Shelf.Strconv.Itoa1
import Derived.Shelf.Strconv.Itoa2
import Derived.Shelf.Strconv.AppendUint10
import Derived.Shelf.Strings.Repeat
import Derived.Test.YtabemlkdpgglaaaDoorProg
import Derived.Test.YtabemlkdpgglaaaDoorChecked
import Derived.WalkKit
import Derived.Deep.OwnRows
import Derived.Deep.LoopGhost
import Derived.Deep.Light
import Derived.Deep.QuietTactic
import Derived.BigQuiet
import Derived.Laws.AppendOwnNone
import Derived.Laws.BitsAllLaws
namespace Go.Proofs
open Go.Shelf
def Tryd.lays283_ren : Go.Shelf.Ren := ⟨fun | 283 => 114 | n => n, fun | 3 => 3 | 9 => 9 | 4 => 4 | n => n, fun | n => n⟩
theorem Tryd.lays283 : Go.Proofs.Lays.n283 Tryd.prog Tryd.lays283_ren := {
  mixed := by kernel_rfl
  f283 := Tryd.func114.trans (congrArg some (by kernel_rfl))
  t3 := Tryd.underlying3
  a3 := Tryd.isAgg3
  z3 := Tryd.sizeOf3
  v3 := Tryd.zeroValue3
  t4 := Tryd.underlying4
  a4 := Tryd.isAgg4
  z4 := Tryd.sizeOf4
  v4 := Tryd.zeroValue4
  t9 := Tryd.underlying9
  a9 := Tryd.isAgg9
  z9 := Tryd.sizeOf9
  v9 := Tryd.zeroValue9 }
open Go.Lib in
theorem Tryd.internal_strconv_small (i : Nat) (h : i < 100) (w : World) :
    Calls Tryd.prog 114 #[.int .i64 i] w fun e w' => e = .returned (.string ⟨(Lib.decDigits i).toArray⟩) ∧ w' = w := Any.internal_strconv_small Tryd.lays283 i h w
def Tryd.laysM284_ren : Go.Shelf.Ren := ⟨fun | 284 => 115 | 129 => 130 | 317 => 129 | 318 => 131 | n => n, fun | 53 => 47 | 3 => 3 | 212 => 134 | 0 => 0 | 4 => 4 | 46 => 96 | 5 => 5 | 9 => 9 | n => n, fun | 17 => 1 | n => n⟩
theorem Tryd.laysM284 : Go.Proofs.LaysM.n284 Tryd.prog Tryd.laysM284_ren := {
  mixed := by kernel_rfl
  f129 := Tryd.func130.trans (congrArg some (by kernel_rfl))
  f284 := Tryd.func115.trans (congrArg some (by kernel_rfl))
  f317 := Tryd.func129.trans (congrArg some (by kernel_rfl))
  f318 := Tryd.func131.trans (congrArg some (by kernel_rfl))
  t0 := Tryd.underlying0
  a0 := Tryd.isAgg0
  z0 := Tryd.sizeOf0
  v0 := Tryd.zeroValue0
  t3 := Tryd.underlying3
  a3 := Tryd.isAgg3
  z3 := Tryd.sizeOf3
  v3 := Tryd.zeroValue3
  t4 := Tryd.underlying4
  a4 := Tryd.isAgg4
  z4 := Tryd.sizeOf4
  v4 := Tryd.zeroValue4
  t5 := Tryd.underlying5
  a5 := Tryd.isAgg5
  z5 := Tryd.sizeOf5
  v5 := Tryd.zeroValue5
  t9 := Tryd.underlying9
  a9 := Tryd.isAgg9
  z9 := Tryd.sizeOf9
  v9 := Tryd.zeroValue9
  t46 := Tryd.underlying96
  a46 := Tryd.isAgg96
  z46 := Tryd.sizeOf96
  v46 := Tryd.zeroValue96
  t53 := Tryd.underlying47
  a53 := Tryd.isAgg47
  z53 := Tryd.sizeOf47
  v53 := Tryd.zeroValue47
  t212 := Tryd.underlying134
  a212 := Tryd.isAgg134
  z212 := Tryd.sizeOf134
  v212 := Tryd.zeroValue134
  g17 := by kernel_rfl
  i0 := by kernel_rfl
  i3 := by kernel_rfl
  i4 := by kernel_rfl
  i5 := by kernel_rfl
  i9 := by kernel_rfl
  i46 := by kernel_rfl
  i53 := by kernel_rfl
  i212 := by kernel_rfl
  m17 := by kernel_rfl }
open Go.Lib in
theorem Tryd.internal_strconv_numDigits (u : Nat) (h1 : 1 ≤ u) (h2 : u < 18446744073709551616) (w : World) (htab : Lib.TabIs Tryd.prog w "internal/strconv.uint64pow10" .u64 Lib.pow10Tab) :
    Calls Tryd.prog 115 #[.int .u64 u] w fun e w' => e = .returned (.int .i64 (Lib.nDigits u)) ∧ w' = w := Any.internal_strconv_numDigits Tryd.laysM284 u h1 h2 w htab
def Tryd.lays285_ren : Go.Shelf.Ren := ⟨fun | 285 => 116 | n => n, fun | 37 => 22 | 53 => 47 | 3 => 3 | 4 => 4 | 51 => 58 | 9 => 9 | 5 => 5 | 0 => 0 | n => n, fun | n => n⟩
theorem Tryd.lays285 : Go.Proofs.Lays.n285 Tryd.prog Tryd.lays285_ren := {
  mixed := by kernel_rfl
  f285 := Tryd.func116.trans (congrArg some (by kernel_rfl))
  t0 := Tryd.underlying0
  a0 := Tryd.isAgg0
  z0 := Tryd.sizeOf0
  v0 := Tryd.zeroValue0
  t3 := Tryd.underlying3
  a3 := Tryd.isAgg3
  z3 := Tryd.sizeOf3
  v3 := Tryd.zeroValue3
  t4 := Tryd.underlying4
  a4 := Tryd.isAgg4
  z4 := Tryd.sizeOf4
  v4 := Tryd.zeroValue4
  t5 := Tryd.underlying5
  a5 := Tryd.isAgg5
  z5 := Tryd.sizeOf5
  v5 := Tryd.zeroValue5
  t9 := Tryd.underlying9
  a9 := Tryd.isAgg9
  z9 := Tryd.sizeOf9
  v9 := Tryd.zeroValue9
  t37 := Tryd.underlying22
  a37 := Tryd.isAgg22
  z37 := Tryd.sizeOf22
  v37 := Tryd.zeroValue22
  t51 := Tryd.underlying58
  a51 := Tryd.isAgg58
  z51 := Tryd.sizeOf58
  v51 := Tryd.zeroValue58
  t53 := Tryd.underlying47
  a53 := Tryd.isAgg47
  z53 := Tryd.sizeOf47
  v53 := Tryd.zeroValue47 }
open Go.RowKit Go.Sort Go.Lib in
theorem Tryd.internal_strconv_formatBase10 (blk off cap : Nat) (u : Nat) (d : Array UInt8) (w : World) (hH : Holds (fun (b : UInt8) => Value.int .u8 (b.toNat : Int)) w blk off d) (hu : u < 10 ^ d.size) (hu64 : u < 18446744073709551616) (hsz : d.size < 4611686018427387904) :
    Calls Tryd.prog 116 #[.slice (some ⟨blk, off, none⟩) d.size cap, .int .u64 u] w fun e w' =>
      e = .returned (.tuple #[]) ∧ ∃ (n v' : Nat) (dk : Array UInt8), w' = (putRow (fun (b : UInt8) => Value.int .u8 (b.toNat : Int)) w blk off dk).drewN n ∧ FmtInv d.size u 0 v' dk := Any.internal_strconv_formatBase10 Tryd.lays285 blk off cap u d w hH hu hu64 hsz
def Tryd.laysM288_ren : Go.Shelf.Ren := ⟨fun | 288 => 97 | 283 => 114 | 284 => 115 | 285 => 116 | 286 => 117 | 129 => 130 | 317 => 129 | 318 => 131 | 319 => 132 | 320 => 133 | 337 => 113 | 338 => 137 | n => n, fun | 37 => 22 | 53 => 47 | 3 => 3 | 4 => 4 | 9 => 9 | 171 => 116 | 0 => 0 | 173 => 119 | 212 => 134 | 51 => 58 | 5 => 5 | 20 => 20 | 213 => 135 | 46 => 96 | 232 => 131 | 233 => 140 | n => n, fun | 17 => 1 | 18 => 0 | 19 => 3 | n => n⟩
theorem Tryd.laysM288 : Go.Proofs.LaysM.n288 Tryd.prog Tryd.laysM288_ren := {
  mixed := by kernel_rfl
  f129 := Tryd.func130.trans (congrArg some (by kernel_rfl))
  f283 := Tryd.func114.trans (congrArg some (by kernel_rfl))
  f284 := Tryd.func115.trans (congrArg some (by kernel_rfl))
  f285 := Tryd.func116.trans (congrArg some (by kernel_rfl))
  f286 := Tryd.func117.trans (congrArg some (by kernel_rfl))
  f288 := Tryd.func97.trans (congrArg some (by kernel_rfl))
  f317 := Tryd.func129.trans (congrArg some (by kernel_rfl))
  f318 := Tryd.func131.trans (congrArg some (by kernel_rfl))
  f319 := Tryd.func132.trans (congrArg some (by kernel_rfl))
  f320 := Tryd.func133.trans (congrArg some (by kernel_rfl))
  f337 := Tryd.func113.trans (congrArg some (by kernel_rfl))
  f338 := Tryd.func137.trans (congrArg some (by kernel_rfl))
  t0 := Tryd.underlying0
  a0 := Tryd.isAgg0
  z0 := Tryd.sizeOf0
  v0 := Tryd.zeroValue0
  t3 := Tryd.underlying3
  a3 := Tryd.isAgg3
  z3 := Tryd.sizeOf3
  v3 := Tryd.zeroValue3
  t4 := Tryd.underlying4
  a4 := Tryd.isAgg4
  z4 := Tryd.sizeOf4
  v4 := Tryd.zeroValue4
  t5 := Tryd.underlying5
  a5 := Tryd.isAgg5
  z5 := Tryd.sizeOf5
  v5 := Tryd.zeroValue5
  t9 := Tryd.underlying9
  a9 := Tryd.isAgg9
  z9 := Tryd.sizeOf9
  v9 := Tryd.zeroValue9
  t20 := Tryd.underlying20
  a20 := Tryd.isAgg20
  z20 := Tryd.sizeOf20
  v20 := Tryd.zeroValue20
  t37 := Tryd.underlying22
  a37 := Tryd.isAgg22
  z37 := Tryd.sizeOf22
  v37 := Tryd.zeroValue22
  t46 := Tryd.underlying96
  a46 := Tryd.isAgg96
  z46 := Tryd.sizeOf96
  v46 := Tryd.zeroValue96
  t51 := Tryd.underlying58
  a51 := Tryd.isAgg58
  z51 := Tryd.sizeOf58
  v51 := Tryd.zeroValue58
  t53 := Tryd.underlying47
  a53 := Tryd.isAgg47
  z53 := Tryd.sizeOf47
  v53 := Tryd.zeroValue47
  t171 := Tryd.underlying116
  a171 := Tryd.isAgg116
  z171 := Tryd.sizeOf116
  v171 := Tryd.zeroValue116
  t173 := Tryd.underlying119
  a173 := Tryd.isAgg119
  z173 := Tryd.sizeOf119
  v173 := Tryd.zeroValue119
  t212 := Tryd.underlying134
  a212 := Tryd.isAgg134
  z212 := Tryd.sizeOf134
  v212 := Tryd.zeroValue134
  t213 := Tryd.underlying135
  a213 := Tryd.isAgg135
  z213 := Tryd.sizeOf135
  t232 := Tryd.underlying131
  a232 := Tryd.isAgg131
  z232 := Tryd.sizeOf131
  v232 := Tryd.zeroValue131
  t233 := Tryd.underlying140
  a233 := Tryd.isAgg140
  z233 := Tryd.sizeOf140
  v233 := Tryd.zeroValue140
  g17 := by kernel_rfl
  g18 := by kernel_rfl
  g19 := by kernel_rfl
  i0 := by kernel_rfl
  i3 := by kernel_rfl
  i4 := by kernel_rfl
  i5 := by kernel_rfl
  i9 := by kernel_rfl
  i20 := by kernel_rfl
  i37 := by kernel_rfl
  i46 := by kernel_rfl
  i51 := by kernel_rfl
  i53 := by kernel_rfl
  i171 := by kernel_rfl
  i173 := by kernel_rfl
  i212 := by kernel_rfl
  i232 := by kernel_rfl
  i233 := by kernel_rfl
  m17 := by kernel_rfl
  m18 := by kernel_rfl
  m19 := by kernel_rfl }
open Go.RowKit Go.Sort Go.Lib in
theorem Tryd.internal_strconv_AppendUint_10_small (B n u : Nat) (hu : u < 100) (sv : Value) (xs : List Value) (w : World) (hown : w.ownsRow B 5 1 sv n xs) (hBw : B ≤ w.heap.size) (hlim : n + 20 ≤ 140737488355328) :
    Calls Tryd.prog 97 #[sv, .int .u64 u, .int .i64 10] w fun e w' => ∃ v', e = .returned v' ∧ w'.ownsRow B 5 1 v' (n + (Lib.decDigits u).length) (xs ++ Lib.byteCells (Lib.decDigits u)) ∧ Below B w w' ∧ Lib.OthersKept 5 none w w' := Any.internal_strconv_AppendUint_10_small Tryd.laysM288 B n u hu sv xs w hown hBw hlim
open Go.RowKit Go.Sort Go.Lib in
theorem Tryd.internal_strconv_AppendUint_10_big (B n u : Nat) (hu : 100 ≤ u) (hu64 : u < 18446744073709551616) (sv : Value) (xs : List Value) (w : World) (hown : w.ownsRow B 5 1 sv n xs) (hBw : B ≤ w.heap.size) (hlim : n + 20 ≤ 140737488355328) (htab : Lib.TabIs Tryd.prog w "internal/strconv.uint64pow10" .u64 Lib.pow10Tab) :
    Calls Tryd.prog 97 #[sv, .int .u64 u, .int .i64 10] w fun e w' => ∃ v', e = .returned v' ∧ w'.ownsRow B 5 1 v' (n + (Lib.decDigits u).length) (xs ++ Lib.byteCells (Lib.decDigits u)) ∧ Below B w w' ∧ Lib.OthersKept 5 none w w' := Any.internal_strconv_AppendUint_10_big Tryd.laysM288 B n u hu hu64 sv xs w hown hBw hlim htab
def Tryd.lays105_ren : Go.Shelf.Ren := ⟨fun | 105 => 80 | 212 => 99 | 99 => 100 | 165 => 101 | 166 => 102 | 170 => 103 | 169 => 104 | 263 => 118 | 264 => 119 | 206 => 120 | 240 => 121 | 241 => 122 | 276 => 134 | 277 => 135 | n => n, fun | 9 => 9 | 3 => 3 | 4 => 4 | 20 => 20 | 0 => 0 | 46 => 96 | 109 => 99 | 5 => 5 | 72 => 104 | 76 => 107 | 51 => 58 | 146 => 121 | 53 => 47 | 148 => 123 | 70 => 102 | 37 => 22 | 75 => 106 | 127 => 125 | 164 => 137 | 80 => 109 | n => n, fun | n => n⟩
theorem Tryd.lays105 : Go.Proofs.Lays.n105 Tryd.prog Tryd.lays105_ren := {
  mixed := by kernel_rfl
  f99 := Tryd.func100.trans (congrArg some (by kernel_rfl))
  f105 := Tryd.func80.trans (congrArg some (by kernel_rfl))
  f165 := Tryd.func101.trans (congrArg some (by kernel_rfl))
  f166 := Tryd.func102.trans (congrArg some (by kernel_rfl))
  f169 := Tryd.func104.trans (congrArg some (by kernel_rfl))
  f170 := Tryd.func103.trans (congrArg some (by kernel_rfl))
  f206 := Tryd.func120.trans (congrArg some (by kernel_rfl))
  f212 := Tryd.func99.trans (congrArg some (by kernel_rfl))
  f240 := Tryd.func121.trans (congrArg some (by kernel_rfl))
  f241 := Tryd.func122.trans (congrArg some (by kernel_rfl))
  f263 := Tryd.func118.trans (congrArg some (by kernel_rfl))
  f264 := Tryd.func119.trans (congrArg some (by kernel_rfl))
  f276 := Tryd.func134.trans (congrArg some (by kernel_rfl))
  f277 := Tryd.func135.trans (congrArg some (by kernel_rfl))
  t0 := Tryd.underlying0
  a0 := Tryd.isAgg0
  z0 := Tryd.sizeOf0
  v0 := Tryd.zeroValue0
  t3 := Tryd.underlying3
  a3 := Tryd.isAgg3
  z3 := Tryd.sizeOf3
  v3 := Tryd.zeroValue3
  t4 := Tryd.underlying4
  a4 := Tryd.isAgg4
  z4 := Tryd.sizeOf4
  v4 := Tryd.zeroValue4
  t5 := Tryd.underlying5
  a5 := Tryd.isAgg5
  z5 := Tryd.sizeOf5
  v5 := Tryd.zeroValue5
  t9 := Tryd.underlying9
  a9 := Tryd.isAgg9
  z9 := Tryd.sizeOf9
  v9 := Tryd.zeroValue9
  t20 := Tryd.underlying20
  a20 := Tryd.isAgg20
  z20 := Tryd.sizeOf20
  v20 := Tryd.zeroValue20
  t37 := Tryd.underlying22
  a37 := Tryd.isAgg22
  z37 := Tryd.sizeOf22
  v37 := Tryd.zeroValue22
  t46 := Tryd.underlying96
  a46 := Tryd.isAgg96
  z46 := Tryd.sizeOf96
  v46 := Tryd.zeroValue96
  t51 := Tryd.underlying58
  a51 := Tryd.isAgg58
  z51 := Tryd.sizeOf58
  v51 := Tryd.zeroValue58
  t53 := Tryd.underlying47
  a53 := Tryd.isAgg47
  z53 := Tryd.sizeOf47
  v53 := Tryd.zeroValue47
  t70 := Tryd.underlying102
  a70 := Tryd.isAgg102
  z70 := Tryd.sizeOf102
  v70 := Tryd.zeroValue102
  t72 := Tryd.underlying104
  a72 := Tryd.isAgg104
  z72 := Tryd.sizeOf104
  v72 := Tryd.zeroValue104
  t75 := Tryd.underlying106
  a75 := Tryd.isAgg106
  z75 := Tryd.sizeOf106
  v75 := Tryd.zeroValue106
  t76 := Tryd.underlying107
  a76 := Tryd.isAgg107
  z76 := Tryd.sizeOf107
  v76 := Tryd.zeroValue107
  t109 := Tryd.underlying99
  a109 := Tryd.isAgg99
  z109 := Tryd.sizeOf99
  v109 := Tryd.zeroValue99
  t127 := Tryd.underlying125
  a127 := Tryd.isAgg125
  z127 := Tryd.sizeOf125
  v127 := Tryd.zeroValue125
  t146 := Tryd.underlying121
  a146 := Tryd.isAgg121
  z146 := Tryd.sizeOf121
  v146 := Tryd.zeroValue121
  t148 := Tryd.underlying123
  a148 := Tryd.isAgg123
  z148 := Tryd.sizeOf123
  v148 := Tryd.zeroValue123
  t164 := Tryd.underlying137
  a164 := Tryd.isAgg137
  z164 := Tryd.sizeOf137
  v164 := Tryd.zeroValue137 }
theorem Tryd.Builder_Extra_105 : Builder.Extra Tryd.prog Tryd.lays105_ren := {
  sizeBuilder := by kernel_rfl
  liesBuilder := by kernel_rfl
  t5 := Tryd.underlying5
  a5 := Tryd.isAgg5
  z5 := Tryd.sizeOf5
  v5 := Tryd.zeroValue5
  infoByte := by kernel_rfl
  cellsByte := by kernel_rfl
  sizeByte := by kernel_rfl
  neB5 := by decide }
open Go.RowKit Go.Lib in
theorem Tryd.strings_Repeat (s : ByteArray) (c : Nat) (w : World) (hc : c ≤ 9223372036854775807) (hlen : s.size * c ≤ 140737488355328) :
    Calls Tryd.prog 80 #[.string s, .int .i64 c] w fun e w' => e = .returned (.string ⟨(Lib.repeatL s.data.toList c).toArray⟩) ∧ Below w.heap.size w w' := Any.strings_Repeat Tryd.lays105 Tryd.Builder_Extra_105 s c w hc hlen
end Go.Proofs

/-
  Plain mathematics: naturals as functions of bits and of limbs. Imports nothing of the program.
-/
namespace Go.Proofs.YtabemlkdpgglaaaDoor

def bv (B : Nat → Bool) : Nat → Nat
  | 0 => 0
  | n + 1 => bv B n + (B n).toNat * 2 ^ n

def lv (X : Nat → Nat) : Nat → Nat
  | 0 => 0
  | n + 1 => lv X n + X n * 2 ^ (32 * n)

def tlen (P : Nat → Bool) : Nat → Nat
  | 0 => 0
  | n + 1 => if P n then n + 1 else tlen P n

theorem tlen_le (P : Nat → Bool) (n : Nat) : tlen P n ≤ n := by
  induction n with
  | zero => exact Nat.le_refl _
  | succ n ih => unfold tlen; split <;> omega

theorem tlen_top (P : Nat → Bool) (n : Nat) (h : 0 < tlen P n) : P (tlen P n - 1) = true := by
  induction n with
  | zero => simp [tlen] at h
  | succ n ih =>
    unfold tlen at h ⊢
    by_cases hp : P n = true
    · simp [hp]
    · simp [hp] at h ⊢; exact ih h

theorem tlen_beyond (P : Nat → Bool) (n j : Nat) (h : tlen P n ≤ j) (hj : j < n) : P j = false := by
  induction n with
  | zero => omega
  | succ n ih =>
    unfold tlen at h
    by_cases hp : P n = true
    · simp [hp] at h; omega
    · simp [hp] at h
      by_cases e : j = n
      · subst e; simpa using hp
      · exact ih h (by omega)

theorem tlen_congr {P Q : Nat → Bool} {n : Nat} (h : ∀ j, j < n → P j = Q j) : tlen P n = tlen Q n := by
  induction n with
  | zero => rfl
  | succ n ih => simp only [tlen]; rw [h n (by omega), ih (fun j hj => h j (by omega))]

theorem bv_congr {P Q : Nat → Bool} {n : Nat} (h : ∀ j, j < n → P j = Q j) : bv P n = bv Q n := by
  induction n with
  | zero => rfl
  | succ n ih => simp only [bv]; rw [h n (by omega), ih (fun j hj => h j (by omega))]

theorem lv_congr {P Q : Nat → Nat} {n : Nat} (h : ∀ j, j < n → P j = Q j) : lv P n = lv Q n := by
  induction n with
  | zero => rfl
  | succ n ih => simp only [lv]; rw [h n (by omega), ih (fun j hj => h j (by omega))]

theorem bv_more (B : Nat → Bool) (n m : Nat) (h : n ≤ m) (hz : ∀ j, n ≤ j → j < m → B j = false) : bv B m = bv B n := by
  induction m with
  | zero => have : n = 0 := by omega
            subst this; rfl
  | succ m ih =>
    by_cases e : n = m + 1
    · subst e; rfl
    · simp only [bv]; rw [hz m (by omega) (by omega), ih (by omega) (fun j h1 h2 => hz j h1 (by omega))]; simp

theorem lv_more (X : Nat → Nat) (n m : Nat) (h : n ≤ m) (hz : ∀ j, n ≤ j → j < m → X j = 0) : lv X m = lv X n := by
  induction m with
  | zero => have : n = 0 := by omega
            subst this; rfl
  | succ m ih =>
    by_cases e : n = m + 1
    · subst e; rfl
    · simp only [lv]; rw [hz m (by omega) (by omega), ih (by omega) (fun j h1 h2 => hz j h1 (by omega))]; simp

theorem bv_tlen (B : Nat → Bool) (n : Nat) : bv B (tlen B n) = bv B n :=
  (bv_more B _ _ (tlen_le B n) (fun j h1 h2 => tlen_beyond B n j h1 h2)).symm

def nz (X : Nat → Nat) : Nat → Bool := fun j => X j != 0

theorem lv_tlen (X : Nat → Nat) (n : Nat) : lv X (tlen (nz X) n) = lv X n :=
  (lv_more X _ _ (tlen_le _ n) (fun j h1 h2 => by have := tlen_beyond _ n j h1 h2; simpa [nz] using this)).symm

theorem bv_lt (B : Nat → Bool) (n : Nat) : bv B n < 2 ^ n := by
  induction n with
  | zero => simp [bv]
  | succ n ih =>
    simp only [bv, Nat.pow_succ]
    cases B n <;> simp <;> omega

theorem mul_lim {x p : Nat} (h : x < 4294967296) : x * p ≤ 4294967295 * p := Nat.mul_le_mul_right _ (by omega)

theorem pow32 (n : Nat) : 2 ^ (32 * (n + 1)) = 4294967296 * 2 ^ (32 * n) := by
  rw [Nat.mul_add, Nat.pow_add]; omega

theorem lv_lt (X : Nat → Nat) (n : Nat) (h : ∀ j, j < n → X j < 4294967296) : lv X n < 2 ^ (32 * n) := by
  induction n with
  | zero => simp [lv]
  | succ n ih =>
    have h1 := ih (fun j hj => h j (by omega))
    have h2 := mul_lim (p := 2 ^ (32 * n)) (h n (by omega))
    rw [pow32]; simp only [lv]; omega

theorem lv_ge (X : Nat → Nat) (n : Nat) (h : 0 < n) (ht : X (n - 1) ≠ 0) : 2 ^ (32 * (n - 1)) ≤ lv X n := by
  obtain ⟨m, rfl⟩ : ∃ m, n = m + 1 := ⟨n - 1, by omega⟩
  simp only [lv, Nat.add_sub_cancel] at *
  have : 1 * 2 ^ (32 * m) ≤ X m * 2 ^ (32 * m) := Nat.mul_le_mul_right _ (by omega)
  omega

theorem lv_len {X Y : Nat → Nat} {n m : Nat} (hY : ∀ j, j < m → Y j < 4294967296) (pX : 0 < n → X (n - 1) ≠ 0) (h : lv X n = lv Y m) : n ≤ m := by
  by_cases h0 : n = 0
  · omega
  · have h1 := lv_ge X n (by omega) (pX (by omega))
    have h2 := lv_lt Y m hY
    by_cases hlt : n ≤ m
    · exact hlt
    · have : 2 ^ (32 * m) ≤ 2 ^ (32 * (n - 1)) := Nat.pow_le_pow_right (by omega) (by omega)
      omega

theorem lv_same {X Y : Nat → Nat} {n : Nat} (hX : ∀ j, j < n → X j < 4294967296) (hY : ∀ j, j < n → Y j < 4294967296) (h : lv X n = lv Y n) : ∀ j, j < n → X j = Y j := by
  induction n with
  | zero => intro j hj; omega
  | succ n ih =>
    have a1 := lv_lt X n (fun j hj => hX j (by omega))
    have a2 := lv_lt Y n (fun j hj => hY j (by omega))
    simp only [lv] at h
    have hp : 0 < 2 ^ (32 * n) := Nat.pow_pos (by omega)
    have e1 : (lv X n + X n * 2 ^ (32 * n)) / 2 ^ (32 * n) = X n := by
      rw [Nat.add_mul_div_right _ _ hp, Nat.div_eq_of_lt a1]; omega
    have e2 : (lv Y n + Y n * 2 ^ (32 * n)) / 2 ^ (32 * n) = Y n := by
      rw [Nat.add_mul_div_right _ _ hp, Nat.div_eq_of_lt a2]; omega
    have e : X n = Y n := by rw [← e1, ← e2, h]
    rw [e] at h
    have hl : lv X n = lv Y n := by omega
    intro j hj
    by_cases c : j = n
    · subst c; exact e
    · exact ih (fun j hj => hX j (by omega)) (fun j hj => hY j (by omega)) hl j (by omega)

/-- A number has one plain list of limbs. -/
theorem lv_inj {X Y : Nat → Nat} {n m : Nat} (hX : ∀ j, j < n → X j < 4294967296) (hY : ∀ j, j < m → Y j < 4294967296)
    (pX : 0 < n → X (n - 1) ≠ 0) (pY : 0 < m → Y (m - 1) ≠ 0) (h : lv X n = lv Y m) : n = m ∧ ∀ j, j < n → X j = Y j := by
  have e : n = m := Nat.le_antisymm (lv_len hY pX h) (lv_len hX pY h.symm)
  subst e
  exact ⟨rfl, lv_same hX hY h⟩

/-! ### bits of limbs -/

def bitsOf (X : Nat → Nat) (j : Nat) : Bool := (X (j / 32) / 2 ^ (j % 32)) % 2 == 1

theorem toNat_beq (n : Nat) : (n % 2 == 1).toNat = n % 2 := by
  rcases Nat.mod_two_eq_zero_or_one n with h | h <;> simp [h]

theorem bv_bits (X : Nat → Nat) (i k : Nat) (hk : k ≤ 32) (hX : ∀ j, j < i → X j < 4294967296) :
    bv (bitsOf X) (32 * i + k) = lv X i + (X i % 2 ^ k) * 2 ^ (32 * i) := by
  induction i generalizing k with
  | zero =>
    induction k with
    | zero => simp [bv, lv, Nat.mod_one]
    | succ k ihk =>
      have := ihk (by omega)
      simp only [Nat.mul_zero, Nat.zero_add] at this ⊢
      simp only [bv, lv, Nat.zero_add, Nat.pow_zero, Nat.mul_one] at this ⊢
      rw [this, bitsOf, toNat_beq, show k / 32 = 0 by omega, show k % 32 = k by omega]
      rw [Nat.pow_succ, Nat.mod_mul, Nat.mul_comm]
  | succ i ih =>
    induction k with
    | zero =>
      have h0 := ih 32 (by omega) (fun j hj => hX j (by omega))
      have h1 : X i % 2 ^ 32 = X i := Nat.mod_eq_of_lt (by have := hX i (by omega); omega)
      rw [h1] at h0
      have e : 32 * (i + 1) + 0 = 32 * i + 32 := by omega
      rw [e, h0]; simp [lv, Nat.mod_one]
    | succ k ihk =>
      have h0 := ihk (by omega)
      have e : 32 * (i + 1) + (k + 1) = (32 * (i + 1) + k) + 1 := by omega
      rw [e]
      show bv (bitsOf X) (32 * (i + 1) + k) + _ = _
      rw [h0, bitsOf, toNat_beq]
      have d1 : (32 * (i + 1) + k) / 32 = i + 1 := by omega
      have d2 : (32 * (i + 1) + k) % 32 = k := by omega
      rw [d1, d2]
      have e3 : X (i + 1) / 2 ^ k % 2 * 2 ^ (32 * (i + 1) + k) = 2 ^ k * (X (i + 1) / 2 ^ k % 2) * 2 ^ (32 * (i + 1)) := by
        generalize 32 * (i + 1) = u
        rw [Nat.pow_add, Nat.mul_comm (2 ^ u) (2 ^ k), ← Nat.mul_assoc, Nat.mul_comm (X (i + 1) / 2 ^ k % 2) (2 ^ k)]
      rw [e3, Nat.add_assoc, ← Nat.add_mul, Nat.pow_succ, Nat.mod_mul]

theorem bv_bits_all (X : Nat → Nat) (n : Nat) (hX : ∀ j, j < n → X j < 4294967296) : bv (bitsOf X) (32 * n) = lv X n := by
  have := bv_bits X n 0 (by omega) hX
  simpa [Nat.mod_one] using this

/-! ### a list of bits, zeros behind its end -/

def ext (A : Nat → Bool) (n : Nat) : Nat → Bool := fun j => decide (j < n) && A j

theorem bv_ext (A : Nat → Bool) (n m : Nat) (h : n ≤ m) : bv (ext A n) m = bv A n := by
  rw [bv_more (ext A n) n m h (fun j h1 _ => by simp [ext]; omega)]
  exact bv_congr (fun j hj => by simp [ext, hj])

/-! ### the product of bits: one row is added -/

theorem full_add (x y c : Bool) : ((x != y) != c).toNat + 2 * ((x && y) || (x && c) || (y && c)).toNat = x.toNat + y.toNat + c.toNat := by
  cases x <;> cases y <;> cases c <;> rfl

/-- What holds when i bits of the row have been added at place j. -/
def AddRel (O0 O : Nat → Bool) (A : Nat → Bool) (n j i : Nat) (c : Bool) : Prop :=
  (∀ k, j + i ≤ k → O k = O0 k) ∧ bv O (j + i) + c.toNat * 2 ^ (j + i) = bv O0 (j + i) + 2 ^ j * bv (ext A n) i

theorem addRel_start (O : Nat → Bool) (A : Nat → Bool) (n j : Nat) : AddRel O O A n j 0 false := ⟨fun _ _ => rfl, by simp [bv]⟩

theorem addRel_step {O0 O : Nat → Bool} {A : Nat → Bool} {n j i : Nat} {c x y : Bool} (h : AddRel O0 O A n j i c) (hx : O (j + i) = x) (hy : ext A n i = y) :
    AddRel O0 (fun k => if k = j + i then ((x != y) != c) else O k) A n j (i + 1) ((x && y) || (x && c) || (y && c)) := by
  obtain ⟨h1, h2⟩ := h
  refine ⟨fun k hk => ?_, ?_⟩
  · show (if k = j + i then _ else O k) = _
    rw [if_neg (by omega)]; exact h1 k (by omega)
  · have e : j + (i + 1) = (j + i) + 1 := by omega
    have hc : bv (fun k => if k = j + i then ((x != y) != c) else O k) (j + i) = bv O (j + i) := bv_congr (fun k hk => by rw [if_neg (by omega)])
    have hx0 : O0 (j + i) = x := by rw [← hx]; exact (h1 (j + i) (Nat.le_refl _)).symm
    rw [e]
    simp only [bv, hc, if_true, hx0, hy]
    have hf := full_add x y c
    generalize ((x != y) != c).toNat = s at hf ⊢
    generalize ((x && y) || (x && c) || (y && c)).toNat = d at hf ⊢
    rw [Nat.pow_succ, Nat.mul_add, ← Nat.mul_assoc (2 ^ j), Nat.mul_comm (2 ^ j) y.toNat, Nat.mul_assoc y.toNat, ← Nat.pow_add]
    have e2 : s * 2 ^ (j + i) + d * (2 ^ (j + i) * 2) = (s + 2 * d) * 2 ^ (j + i) := by rw [Nat.add_mul, Nat.mul_comm (2 ^ (j + i)) 2, ← Nat.mul_assoc, Nat.mul_comm d 2]
    rw [Nat.add_assoc, e2, hf, Nat.add_mul, Nat.add_mul]
    omega

/-- When the whole row has been added nothing is carried out of the top. -/
theorem addRel_end {O0 O : Nat → Bool} {A B : Nat → Bool} {n m j i : Nat} {c : Bool} (h : AddRel O0 O A n j i c) (hi : j + i = n + m) (hj : j < m) (h0 : bv O0 (n + m) = bv A n * bv B j) (hb : B j = true) :
    bv O (n + m) = bv A n * bv B (j + 1) := by
  obtain ⟨_, h2⟩ := h
  rw [hi, bv_ext A n i (by omega), h0] at h2
  have e : bv A n * bv B (j + 1) = bv A n * bv B j + 2 ^ j * bv A n := by
    simp only [bv, hb, Bool.toNat_true, Nat.one_mul]; rw [Nat.mul_add, Nat.mul_comm (2 ^ j)]
  rw [← e] at h2
  have hl : bv A n * bv B (j + 1) < 2 ^ (n + m) := by
    have a1 := bv_lt A n
    have a2 := bv_lt B (j + 1)
    have a3 : bv A n * bv B (j + 1) < 2 ^ n * 2 ^ (j + 1) := Nat.mul_lt_mul_of_lt_of_le a1 (Nat.le_of_lt a2) (Nat.pow_pos (by omega))
    rw [← Nat.pow_add] at a3
    exact Nat.lt_of_lt_of_le a3 (Nat.pow_le_pow_right (by omega) (by omega))
  cases c
  · simpa using h2
  · simp at h2; omega

theorem mul_skip {O : Nat → Bool} {A B : Nat → Bool} {n m j : Nat} (h0 : bv O (n + m) = bv A n * bv B j) (hb : B j = false) : bv O (n + m) = bv A n * bv B (j + 1) := by
  simp [bv, hb, h0]

/-! ### limbs of bits -/

theorem bv_add (T : Nat → Bool) (a b : Nat) : bv T (a + b) = bv T a + 2 ^ a * bv (fun k => T (a + k)) b := by
  induction b with
  | zero => simp [bv]
  | succ b ih =>
    have e : a + (b + 1) = (a + b) + 1 := by omega
    rw [e]; simp only [bv]; rw [ih, Nat.pow_add, Nat.mul_add, Nat.add_assoc, Nat.mul_left_comm]

def limbsOf (T : Nat → Bool) (q : Nat) : Nat := bv (fun k => T (32 * q + k)) 32

theorem limbsOf_lt (T : Nat → Bool) (q : Nat) : limbsOf T q < 4294967296 := bv_lt _ 32

theorem lv_limbs (T : Nat → Bool) (c : Nat) : lv (limbsOf T) c = bv T (32 * c) := by
  induction c with
  | zero => rfl
  | succ c ih => rw [Nat.mul_add, bv_add]; simp only [lv, ih, limbsOf, Nat.mul_comm]

/-- One step of the inner loop, from the top. -/
theorem bv_front (T : Nat → Bool) (r : Nat) : bv T (r + 1) = 2 * bv (fun k => T (k + 1)) r + (T 0).toNat := by
  rw [Nat.add_comm r 1, bv_add]
  simp only [bv, Nat.pow_zero, Nat.mul_one, Nat.zero_add, Nat.pow_one]
  rw [Nat.add_comm]
  congr 2
  exact bv_congr (fun j _ => by rw [Nat.add_comm])

theorem limbs_top (T : Nat → Bool) (m q : Nat) (h1 : 32 * q < m) (h2 : m ≤ 32 * (q + 1)) (ht : T (m - 1) = true) : limbsOf T q ≠ 0 := by
  intro h
  unfold limbsOf at h
  have e : ∀ n, bv (fun k => T (32 * q + k)) n = 0 → ∀ k, k < n → T (32 * q + k) = false := by
    intro n
    induction n with
    | zero => intro _ k hk; omega
    | succ n ih =>
      intro hn k hk
      simp only [bv] at hn
      have hp : 0 < 2 ^ n := Nat.pow_pos (by omega)
      by_cases c : k = n
      · subst c
        cases hT : T (32 * q + k)
        · rfl
        · rw [hT] at hn; simp at hn
      · exact ih (by omega) k (by omega)
  have := e 32 h (m - 1 - 32 * q) (by omega)
  rw [show 32 * q + (m - 1 - 32 * q) = m - 1 by omega, ht] at this
  cases this

/-! ### the product of limbs: one row is added -/

/-- What holds when j limbs of the row have been added at place i. -/
def MulRel (P0 P : Nat → Nat) (a : Nat) (B : Nat → Nat) (i j c : Nat) : Prop :=
  (∀ k, i + j ≤ k → P k = P0 k) ∧ (∀ k, P k < 4294967296) ∧ c < 4294967296 ∧ lv P (i + j) + c * 2 ^ (32 * (i + j)) = lv P0 (i + j) + a * lv B j * 2 ^ (32 * i)

theorem mulRel_start {P : Nat → Nat} (hP : ∀ k, P k < 4294967296) (a : Nat) (B : Nat → Nat) (i : Nat) : MulRel P P a B i 0 0 := ⟨fun _ _ => rfl, hP, by omega, by simp [lv]⟩

theorem mulRel_sum {P0 P : Nat → Nat} {a : Nat} {B : Nat → Nat} {i j c : Nat} (h : MulRel P0 P a B i j c) (ha : a < 4294967296) (hb : B j < 4294967296) :
    a * B j + P (i + j) + c < 18446744073709551616 ∧ a * B j + P (i + j) < 18446744073709551616 ∧ a * B j < 18446744073709551616 := by
  have h1 : a * B j ≤ 4294967295 * 4294967295 := Nat.mul_le_mul (by omega) (by omega)
  have h2 := h.2.1 (i + j)
  have h3 := h.2.2.1
  omega

theorem mulRel_step {P0 P : Nat → Nat} {a : Nat} {B : Nat → Nat} {i j c s : Nat} (h : MulRel P0 P a B i j c) (ha : a < 4294967296) (hb : B j < 4294967296) (hs : s = a * B j + P (i + j) + c) :
    MulRel P0 (fun k => if k = i + j then s % 4294967296 else P k) a B i (j + 1) (s / 4294967296) := by
  have hsum := (mulRel_sum h ha hb).1
  rw [← hs] at hsum
  obtain ⟨h1, h2, h3, h4⟩ := h
  refine ⟨fun k hk => ?_, fun k => ?_, by omega, ?_⟩
  · show (if k = i + j then _ else P k) = _
    rw [if_neg (by omega)]; exact h1 k (by omega)
  · show (if k = i + j then _ else P k) < _
    split
    · omega
    · exact h2 k
  · have e : i + (j + 1) = (i + j) + 1 := by omega
    have hc : lv (fun k => if k = i + j then s % 4294967296 else P k) (i + j) = lv P (i + j) := lv_congr (fun k hk => by rw [if_neg (by omega)])
    have hx0 : P0 (i + j) = P (i + j) := (h1 (i + j) (Nat.le_refl _)).symm
    rw [e, pow32]
    simp only [lv, hc, if_true, hx0]
    have e2 : s % 4294967296 * 2 ^ (32 * (i + j)) + s / 4294967296 * (4294967296 * 2 ^ (32 * (i + j))) = s * 2 ^ (32 * (i + j)) := by
      rw [← Nat.mul_assoc, ← Nat.add_mul]; congr 1; omega
    have e4 : a * (lv B j + B j * 2 ^ (32 * j)) * 2 ^ (32 * i) = a * lv B j * 2 ^ (32 * i) + a * B j * 2 ^ (32 * (i + j)) := by
      rw [Nat.mul_add, Nat.add_mul, ← Nat.mul_assoc, Nat.mul_assoc (a * B j), ← Nat.pow_add, show 32 * j + 32 * i = 32 * (i + j) by omega]
    rw [Nat.add_assoc, e2, e4, hs]
    generalize 2 ^ (32 * (i + j)) = q at *
    rw [Nat.add_mul, Nat.add_mul]
    omega

theorem mulRel_end {P0 P : Nat → Nat} {A B : Nat → Nat} {i m c : Nat} (h : MulRel P0 P (A i) B i m c) (h0 : lv P0 (i + m) = lv A i * lv B m) :
    lv (fun k => if k = i + m then c else P k) (i + 1 + m) = lv A (i + 1) * lv B m := by
  obtain ⟨h1, h2, h3, h4⟩ := h
  have e : i + 1 + m = (i + m) + 1 := by omega
  have hc : lv (fun k => if k = i + m then c else P k) (i + m) = lv P (i + m) := lv_congr (fun k hk => by rw [if_neg (by omega)])
  rw [e]
  simp only [lv, hc, if_true]
  rw [h4, h0, Nat.add_mul, Nat.mul_right_comm]

end Go.Proofs.YtabemlkdpgglaaaDoor

/-
  The words for memory that the walks use.
-/
namespace Go.Proofs.YtabemlkdpgglaaaDoor
open Go.RowKit

theorem Tryd.info58 : (Tryd.prog.info? 58).map (fun i => (i.zero, i.size, i.bytes)) = some (some (.int .u32 0), 1, 4) := by kernel_rfl
theorem Tryd.info4 : (Tryd.prog.info? 4).map (fun i => (i.zero, i.size, i.bytes)) = some (some (.bool false), 1, 1) := by kernel_rfl

theorem hide {p : Prop} (h : p) : Hid p := h

theorem ret_int {k : IntKind} {a b : Int} (h : a = b) : Ending.returned (.int k a) = .returned (.int k b) := by rw [h]

/-- A slice of limbs: its cells, read at whatever place. -/
def Limbs (w : World) (a : Option Addr) (b off n : Nat) (X : Nat → Nat) : Prop :=
  ∀ j, j < n → a = some ⟨b, off, none⟩ ∧ w.cell? ⟨b, off + j, none⟩ = some (.int .u32 (X j))

/-- A slice of bits. -/
def Bits (w : World) (a : Option Addr) (b off n : Nat) (B : Nat → Bool) : Prop :=
  ∀ j, j < n → a = some ⟨b, off, none⟩ ∧ w.cell? ⟨b, off + j, none⟩ = some (.bool (B j))

theorem sinceMono {B B' : Nat} {w w' : World} (h : w.Since B w') (hB : B' ≤ B) : w.Since B' w' := ⟨h.os, h.tape, h.output, h.size, fun k hk => h.block k (Nat.lt_of_lt_of_le hk hB)⟩

/-- Nothing but draws. -/
structure Same (w w' : World) : Prop where
  os : w'.os = w.os
  tape : w'.tape = w.tape
  output : w'.output = w.output
  heap : w'.heap = w.heap

theorem Same.refl (w : World) : Same w w := ⟨rfl, rfl, rfl, rfl⟩
theorem Same.drewN {w w' : World} (h : Same w w') (n : Nat) : Same w (w'.drewN n) := ⟨h.os, h.tape, h.output, h.heap⟩
theorem Same.cell {w w' : World} (h : Same w w') (a : Addr) : w'.cell? a = w.cell? a := by simp [World.cell?, h.heap]
theorem Same.frozen {w w' : World} (h : Same w w') (a : Addr) : w'.frozen? a = w.frozen? a := by simp [World.frozen?, h.heap]
theorem Same.size {w w' : World} (h : Same w w') : w'.heap.size = w.heap.size := by rw [h.heap]
theorem Same.since {w w' : World} (h : Same w w') (B : Nat) : w.Since B w' := ⟨h.os, h.tape, h.output, by rw [h.heap]; exact Nat.le_refl _, fun k _ => by rw [h.heap]⟩

/-- What a mark leaves: the cells of the one slice are turned, every other block is as it was. -/
structure Marked (w w' : World) (b : Nat) : Prop where
  os : w'.os = w.os
  tape : w'.tape = w.tape
  output : w'.output = w.output
  size : w'.heap.size = w.heap.size
  other : ∀ k, k ≠ b → w'.heap[k]? = w.heap[k]?
  frozen : ∀ o, w'.frozen? ⟨b, o, none⟩ = w.frozen? ⟨b, o, none⟩

theorem Marked.refl (w : World) (b : Nat) : Marked w w b := ⟨rfl, rfl, rfl, rfl, fun _ _ => rfl, fun _ => rfl⟩
theorem Marked.setCell {w w' : World} {b : Nat} (h : Marked w w' b) (o : Nat) (v : Value) : Marked w (w'.setCell ⟨b, o, none⟩ v) b :=
  ⟨h.os, h.tape, h.output, by rw [← h.size]; simp [World.setCell], fun k hk => by rw [← h.other k hk]; exact Below.heap_setCell _ _ _ _ hk, fun o' => by rw [← h.frozen o']; simp⟩
theorem Marked.since {w w' : World} {b B : Nat} (h : Marked w w' b) (hB : B ≤ b) : w.Since B w' :=
  ⟨h.os, h.tape, h.output, by rw [h.size]; exact Nat.le_refl _, fun k hk => h.other k (by omega)⟩
theorem Marked.cell {w w' : World} {b : Nat} (h : Marked w w' b) {a : Addr} (hne : a.block ≠ b) : w'.cell? a = w.cell? a := World.cell?_of_block (w := w) (h.other _ hne)
theorem Marked.frozenO {w w' : World} {b : Nat} (h : Marked w w' b) {a : Addr} (hne : a.block ≠ b) : w'.frozen? a = w.frozen? a := World.frozen?_of_block (w := w) (h.other _ hne)

section
variable {w w' : World} {a : Option Addr} {b off n m B : Nat} {X Y : Nat → Nat} {T : Nat → Bool}

theorem Limbs.lt (h : Limbs w a b off n X) (hn : 0 < n) : b < w.heap.size := World.block_lt_of_cell? _ _ (h 0 hn).2
theorem Bits.lt (h : Bits w a b off n T) (hn : 0 < n) : b < w.heap.size := World.block_lt_of_cell? _ _ (h 0 hn).2

theorem Limbs.since (h : Limbs w a b off n X) (hs : w.Since B w') (hb : 0 < n → b < B) : Limbs w' a b off n X :=
  fun j hj => ⟨(h j hj).1, by rw [hs.cell (a := ⟨b, off + j, none⟩) (hb (by omega))]; exact (h j hj).2⟩
theorem Limbs.keep (h : Limbs w a b off n X) (hs : w.Since w.heap.size w') : Limbs w' a b off n X := h.since hs h.lt
theorem Bits.since (h : Bits w a b off n T) (hs : w.Since B w') (hb : 0 < n → b < B) : Bits w' a b off n T :=
  fun j hj => ⟨(h j hj).1, by rw [hs.cell (a := ⟨b, off + j, none⟩) (hb (by omega))]; exact (h j hj).2⟩
theorem Bits.keep (h : Bits w a b off n T) (hs : w.Since w.heap.size w') : Bits w' a b off n T := h.since hs h.lt

theorem Limbs.same (h : Limbs w a b off n X) (hs : Same w w') : Limbs w' a b off n X :=
  fun j hj => ⟨(h j hj).1, by rw [hs.cell]; exact (h j hj).2⟩
theorem Bits.same (h : Bits w a b off n T) (hs : Same w w') : Bits w' a b off n T :=
  fun j hj => ⟨(h j hj).1, by rw [hs.cell]; exact (h j hj).2⟩
theorem Limbs.marked {c : Nat} (h : Limbs w a b off n X) (hs : Marked w w' c) (hne : 0 < n → b ≠ c) : Limbs w' a b off n X :=
  fun j hj => ⟨(h j hj).1, by rw [hs.cell (a := ⟨b, off + j, none⟩) (hne (by omega))]; exact (h j hj).2⟩

theorem Limbs.take (h : Limbs w a b off n X) (hm : m ≤ n) : Limbs w a b off m X := fun j hj => h j (by omega)
theorem Bits.take (h : Bits w a b off n T) (hm : m ≤ n) : Bits w a b off m T := fun j hj => h j (by omega)

theorem Limbs.congr (h : Limbs w a b off n X) (e : ∀ j, j < n → X j = Y j) : Limbs w a b off n Y := fun j hj => by rw [← e j hj]; exact h j hj

theorem limbs_row (h : w.rowIs b 58 n (fun j => .int .u32 (X j))) : Limbs w (some ⟨b, 0, none⟩) b 0 n X :=
  fun j hj => ⟨rfl, by rw [Nat.zero_add]; exact h.cell hj⟩
theorem bits_row (h : w.rowIs b 4 n (fun j => .bool (T j))) : Bits w (some ⟨b, 0, none⟩) b 0 n T :=
  fun j hj => ⟨rfl, by rw [Nat.zero_add]; exact h.cell hj⟩
end

end Go.Proofs.YtabemlkdpgglaaaDoor

namespace Go.Proofs.YtabemlkdpgglaaaDoor
open Go.RowKit

theorem tlen_false {P : Nat → Bool} {k : Nat} (h0 : 0 < k) (h : P (k - 1) = false) : tlen P (k - 1) = tlen P k := by
  obtain ⟨m, rfl⟩ : ∃ m, k = m + 1 := ⟨k - 1, by omega⟩
  simp only [Nat.add_sub_cancel] at *
  simp [tlen, h]

theorem tlen_true {P : Nat → Bool} {k : Nat} (h0 : 0 < k) (h : P (k - 1) = true) : tlen P k = k := by
  obtain ⟨m, rfl⟩ : ∃ m, k = m + 1 := ⟨k - 1, by omega⟩
  simp only [Nat.add_sub_cancel] at *
  simp [tlen, h]

theorem ret_slice {a : Option Addr} {n m cap : Nat} (h : n = m) : Ending.returned (.slice a n cap) = .returned (.slice a m cap) := by rw [h]

set_option maxHeartbeats 800000 in
set_option maxRecDepth 100000 in
theorem l1Trim_any (a : Option Addr) (b off n cap : Nat) (B : Nat → Bool) (w : World) (hn : n ≤ 281474976710656) (hnc : n ≤ cap) (hX : Bits w a b off n B) :
    Calls Tryd.prog 60 #[.slice a n cap] w fun e w' => e = .returned (.slice a (tlen B n) cap) ∧ w' = w := by
  go_enter Tryd.func60, Tryd.ntmps60
  go_wp2
  go_loop [3] (fun i => ∃ k : Nat, k ≤ n ∧ i = .int .i64 k ∧ tlen B k = tlen B n) (fun i => (intOf i).toNat)
  case atStart => exact ⟨n, Nat.le_refl _, rfl, rfl⟩
  case round =>
    obtain ⟨k, hk, rfl, ht⟩ := hrel
    have HT : Hid (tlen B k = tlen B n) := ht
    clear ht
    by_cases hlt : 0 < k
    · obtain ⟨rfl, hc⟩ := hX (k - 1) (by omega)
      cases hB : B (k - 1)
      · rw [hB] at hc
        have HB : Hid (B (k - 1) = false) := hB
        clear hB
        go_wp2
        go_round
        case rel => exact ⟨k - 1, by omega, by go_num, (tlen_false hlt HB.out).trans HT.out⟩
        case measure => simp [intOf]; omega
      · rw [hB] at hc
        have HB : Hid (B (k - 1) = true) := hB
        clear hB
        go_wp2
        go_ret
        exact ⟨ret_slice ((tlen_true hlt HB.out).symm.trans HT.out), rfl⟩
    · have e : k = 0 := by omega
      subst e
      go_wp2
      go_ret
      exact ⟨ret_slice HT.out, rfl⟩

set_option maxHeartbeats 800000 in
set_option maxRecDepth 100000 in
/-- (*nat).trim: the receiver's own cell (block c) is turned; nothing else. -/
theorem trim_any (c : Nat) (a : Option Addr) (b off n cap : Nat) (X : Nat → Nat) (w : World) (hn : n ≤ 281474976710656) (hnc : n ≤ cap)
    (hc0 : w.cell? ⟨c, 0, none⟩ = some (.slice a n cap)) (hf0 : w.frozen? ⟨c, 0, none⟩ = false) (hX : Limbs w a b off n X) :
    Calls Tryd.prog 91 #[.pointer (some ⟨c, 0, none⟩)] w fun e w' => e = .returned (.tuple #[]) ∧ w' = w.setCell ⟨c, 0, none⟩ (.slice a (tlen (nz X) n) cap) := by
  go_enter Tryd.func91, Tryd.ntmps91
  go_wp2
  go_loop [2] (fun i => ∃ k : Nat, k ≤ n ∧ i = .int .i64 k ∧ tlen (nz X) k = tlen (nz X) n) (fun i => (intOf i).toNat)
  case atStart => exact ⟨n, Nat.le_refl _, rfl, rfl⟩
  case round =>
    obtain ⟨k, hk, rfl, ht⟩ := hrel
    have HT : Hid (tlen (nz X) k = tlen (nz X) n) := ht
    clear ht
    by_cases hlt : 0 < k
    · obtain ⟨rfl, hc⟩ := hX (k - 1) (by omega)
      by_cases hB : X (k - 1) = 0
      · rw [hB] at hc
        have HB : Hid (nz X (k - 1) = false) := by simp [Hid, nz, hB]
        clear hB
        go_wp2
        go_round
        case rel => exact ⟨k - 1, by omega, by go_num, (tlen_false hlt HB.out).trans HT.out⟩
        case measure => simp [intOf]; omega
      · have HB : Hid (nz X (k - 1) = true) := by simp [Hid, nz, hB]
        have hne : ((X (k - 1) : Int) == 0) = false := by simp; omega
        clear hB
        go_wp2
        go_end0
        exact ⟨rfl, by rw [← HT.out, tlen_true hlt HB.out]⟩
    · have e : k = 0 := by omega
      subst e
      go_wp2
      go_end0
      exact ⟨rfl, by rw [← HT.out]; rfl⟩

set_option maxHeartbeats 800000 in
set_option maxRecDepth 100000 in
theorem readOnly_any (a : Option Addr) (b off n cap : Nat) (X : Nat → Nat) (w : World) (hn : n ≤ 281474976710656) (hnc : n ≤ cap) (hX : Limbs w a b off n X) :
    Calls Tryd.prog 75 #[.slice a n cap] w fun e w' => e = .returned (.slice a (tlen (nz X) n) cap) ∧ w.Since w.heap.size w' := by
  go_enter Tryd.func75, Tryd.ntmps75
  go_wp2_with fail
  refine (trim_any w.heap.size a b off n cap X _ hn hnc (by simp [go_sem]) (by simp [go_sem]) (hX.keep ((World.Since.refl _ _).alloc (Nat.le_refl _) _))).mono ?_
  rintro e w1 ⟨rfl, rfl⟩
  go_wp2
  go_ret
  exact ⟨rfl, (World.Since.refl _ _).alloc (Nat.le_refl _) _⟩

end Go.Proofs.YtabemlkdpgglaaaDoor

/-
  Plain mathematics: comparing, taking away, dividing, on bits and on limbs. Imports nothing of the program.
-/
namespace Go.Proofs.YtabemlkdpgglaaaDoor

/-- How two numbers compare. -/
def cmpN (x y : Nat) : Int := if x < y then -1 else if y < x then 1 else 0

theorem cmpN_lt {x y : Nat} (h : x < y) : cmpN x y = -1 := by simp [cmpN, h]
theorem cmpN_gt {x y : Nat} (h : y < x) : cmpN x y = 1 := by simp [cmpN, h]; omega
theorem cmpN_eq {x y : Nat} (h : x = y) : cmpN x y = 0 := by simp [cmpN, h]

theorem bv_ge (B : Nat → Bool) (n : Nat) (h : 0 < n) (ht : B (n - 1) = true) : 2 ^ (n - 1) ≤ bv B n := by
  obtain ⟨m, rfl⟩ : ∃ m, n = m + 1 := ⟨n - 1, by omega⟩
  simp only [bv, Nat.add_sub_cancel] at *
  simp [ht]

theorem bv_short {A B : Nat → Bool} {n m : Nat} (h : n < m) (ht : 0 < m → B (m - 1) = true) : bv A n < bv B m := by
  have h1 := bv_lt A n
  have h2 := bv_ge B m (by omega) (ht (by omega))
  have h3 : 2 ^ n ≤ 2 ^ (m - 1) := Nat.pow_le_pow_right (by omega) (by omega)
  omega

theorem bv_len {A B : Nat → Bool} {n m : Nat} (ht : 0 < n → A (n - 1) = true) (h : bv A n ≤ bv B m) : n ≤ m := by
  by_cases e : n ≤ m
  · exact e
  · have := bv_short (A := B) (B := A) (n := m) (m := n) (by omega) ht
    omega

/-- The first place from the top at which two lists part decides. -/
theorem bv_top {A B : Nat → Bool} {n i : Nat} (hi : i < n) (h : ∀ j, i < j → j < n → A j = B j) (ha : A i = false) (hb : B i = true) : bv A n < bv B n := by
  induction n with
  | zero => omega
  | succ n ih =>
    by_cases e : i = n
    · subst e
      simp only [bv, ha, hb]
      have := bv_lt A i
      simp; omega
    · have := ih (by omega) (fun j h1 h2 => h j h1 (by omega))
      simp only [bv]
      rw [h n (by omega) (by omega)]
      omega

theorem lv_top {A B : Nat → Nat} {n i : Nat} (hl : ∀ j, j < n → A j < 4294967296) (hi : i < n) (h : ∀ j, i < j → j < n → A j = B j) (hlt : A i < B i) : lv A n < lv B n := by
  induction n with
  | zero => omega
  | succ n ih =>
    by_cases e : i = n
    · subst e
      simp only [lv]
      have h1 := lv_lt A i (fun j hj => hl j (by omega))
      have h2 : (A i + 1) * 2 ^ (32 * i) ≤ B i * 2 ^ (32 * i) := Nat.mul_le_mul_right _ hlt
      rw [Nat.add_mul] at h2
      omega
    · have := ih (fun j hj => hl j (by omega)) (by omega) (fun j h1 h2 => h j h1 (by omega))
      simp only [lv]
      rw [h n (by omega) (by omega)]
      omega

theorem lv_short {A B : Nat → Nat} {n m : Nat} (hl : ∀ j, j < n → A j < 4294967296) (h : n < m) (ht : 0 < m → B (m - 1) ≠ 0) : lv A n < lv B m := by
  have h1 := lv_lt A n hl
  have h2 := lv_ge B m (by omega) (ht (by omega))
  have h3 : 2 ^ (32 * n) ≤ 2 ^ (32 * (m - 1)) := Nat.pow_le_pow_right (by omega) (by omega)
  omega

/-! ### the difference of bits -/

theorem full_sub (x y c : Bool) : ((x != y) != c).toNat + y.toNat + c.toNat = x.toNat + 2 * ((!x && y) || (!x && c) || (y && c)).toNat := by
  cases x <;> cases y <;> cases c <;> rfl

def upd {α : Type} (D : Nat → α) (i : Nat) (v : α) : Nat → α := fun k => if k = i then v else D k
theorem upd_same {α : Type} (D : Nat → α) (i : Nat) (v : α) : upd D i v i = v := by simp [upd]
theorem upd_other {α : Type} (D : Nat → α) (i : Nat) (v : α) (k : Nat) (h : k ≠ i) : upd D i v k = D k := by simp [upd, h]
theorem bv_upd (D : Nat → Bool) (i : Nat) (v : Bool) (n : Nat) (h : n ≤ i) : bv (upd D i v) n = bv D n := bv_congr (fun j hj => upd_other _ _ _ _ (by omega))
theorem lv_upd (D : Nat → Nat) (i : Nat) (v : Nat) (n : Nat) (h : n ≤ i) : lv (upd D i v) n = lv D n := lv_congr (fun j hj => upd_other _ _ _ _ (by omega))

def SubRel (D A B : Nat → Bool) (m i : Nat) (c : Bool) : Prop := bv D i + bv (ext B m) i = bv A i + c.toNat * 2 ^ i

theorem subRel_step {D A B : Nat → Bool} {m i : Nat} {c x y : Bool} (h : SubRel D A B m i c) (hx : A i = x) (hy : ext B m i = y) :
    SubRel (upd D i ((x != y) != c)) A B m (i + 1) ((!x && y) || (!x && c) || (y && c)) := by
  unfold SubRel at *
  have hf := full_sub x y c
  simp only [bv, bv_upd D i _ i (Nat.le_refl _), upd_same, hx, hy]
  generalize ((x != y) != c).toNat = s at hf ⊢
  generalize ((!x && y) || (!x && c) || (y && c)).toNat = d at hf ⊢
  have e : s * 2 ^ i + y.toNat * 2 ^ i + c.toNat * 2 ^ i = x.toNat * 2 ^ i + d * 2 ^ (i + 1) := by
    rw [← Nat.add_mul, ← Nat.add_mul, hf, Nat.add_mul, Nat.pow_succ, Nat.mul_comm (2 ^ i) 2, ← Nat.mul_assoc, Nat.mul_comm d 2]
  omega

theorem subRel_end {D A B : Nat → Bool} {n m : Nat} {c : Bool} (h : SubRel D A B m n c) (hm : m ≤ n) (hle : bv B m ≤ bv A n) : bv D n = bv A n - bv B m := by
  unfold SubRel at h
  rw [bv_ext B m n hm] at h
  cases c
  · simp at h; omega
  · have := bv_lt D n
    simp at h; omega

/-! ### division, bit by bit -/

/-- The bits of A from place i on. -/
def hb (A : Nat → Bool) (i n : Nat) : Nat := bv (fun t => A (i + t)) (n - i)

theorem hb_top (A : Nat → Bool) (n : Nat) : hb A n n = 0 := by simp [hb, bv]
theorem hb_zero (A : Nat → Bool) (n : Nat) : hb A 0 n = bv A n := by simp [hb]
theorem hb_step (A : Nat → Bool) (i n : Nat) (h : i < n) : hb A i n = 2 * hb A (i + 1) n + (A i).toNat := by
  unfold hb
  rw [show n - i = (n - (i + 1)) + 1 by omega, bv_front]
  congr 2
  exact bv_congr (fun j _ => by rw [show i + (j + 1) = i + 1 + j by omega])
theorem hb_congr {A B : Nat → Bool} {i n : Nat} (h : ∀ j, i ≤ j → j < n → A j = B j) : hb A i n = hb B i n := bv_congr (fun j hj => h _ (by omega) (by omega))

def DivRel (A Q : Nat → Bool) (n i D R : Nat) : Prop := hb A i n = hb Q i n * D + R ∧ R < D ∧ ∀ j, j < i → Q j = false

theorem divRel_start (A : Nat → Bool) (n D : Nat) (hD : 0 < D) : DivRel A (fun _ => false) n n D 0 := ⟨by simp [hb_top], hD, fun _ _ => rfl⟩

theorem divRel_one {A Q : Nat → Bool} {n i D R : Nat} (h : DivRel A Q n (i + 1) D R) (hi : i < n) (hge : D ≤ (A i).toNat + 2 * R) : DivRel A (upd Q i true) n i D ((A i).toNat + 2 * R - D) := by
  obtain ⟨h1, h2, h3⟩ := h
  refine ⟨?_, ?_, fun j hj => by rw [upd_other _ _ _ _ (by omega)]; exact h3 j (by omega)⟩
  · rw [hb_step A i n hi, hb_step _ i n hi, upd_same, h1, hb_congr (fun j a _ => upd_other Q i true j (by omega))]
    rw [Nat.add_mul, Nat.mul_add, Bool.toNat_true, Nat.one_mul, ← Nat.mul_assoc 2]
    omega
  · have := (A i).toNat_le
    omega

theorem divRel_nought {A Q : Nat → Bool} {n i D R : Nat} (h : DivRel A Q n (i + 1) D R) (hi : i < n) (hlt : (A i).toNat + 2 * R < D) : DivRel A Q n i D ((A i).toNat + 2 * R) := by
  obtain ⟨h1, h2, h3⟩ := h
  refine ⟨?_, hlt, fun j hj => h3 j (by omega)⟩
  have e : (2 * hb Q (i + 1) n + false.toNat) * D = 2 * (hb Q (i + 1) n * D) := by simp [Nat.mul_assoc]
  rw [hb_step A i n hi, hb_step _ i n hi, h3 i (by omega), e, h1]
  omega

theorem divRel_end {A Q : Nat → Bool} {n D R : Nat} (h : DivRel A Q n 0 D R) : bv Q n = bv A n / D ∧ R = bv A n % D := by
  obtain ⟨h1, h2, _⟩ := h
  rw [hb_zero, hb_zero] at h1
  have hD : 0 < D := by omega
  have e : bv A n = R + bv Q n * D := by omega
  rw [e]
  refine ⟨?_, ?_⟩
  · rw [Nat.add_mul_div_right _ _ hD, Nat.div_eq_of_lt h2, Nat.zero_add]
  · rw [Nat.add_mul_mod_self_right, Nat.mod_eq_of_lt h2]

/-- A bit laid ahead of a list. -/
def push (b : Bool) (R : Nat → Bool) : Nat → Bool := fun j => if j = 0 then b else R (j - 1)
theorem bv_push (b : Bool) (R : Nat → Bool) (n : Nat) : bv (push b R) (n + 1) = b.toNat + 2 * bv R n := by
  rw [bv_front, Nat.add_comm]
  rfl

end Go.Proofs.YtabemlkdpgglaaaDoor

namespace Go.Proofs.YtabemlkdpgglaaaDoor
open Go.RowKit

set_option maxHeartbeats 800000 in
set_option maxRecDepth 100000 in
/-- (*nat).trim: the receiver's own cell is turned; nothing else. -/
theorem trimAt_any (c o : Nat) (a : Option Addr) (b off n cap : Nat) (X : Nat → Nat) (w : World) (hn : n ≤ 281474976710656) (hnc : n ≤ cap)
    (hc0 : w.cell? ⟨c, o, none⟩ = some (.slice a n cap)) (hf0 : w.frozen? ⟨c, o, none⟩ = false) (hX : Limbs w a b off n X) :
    Calls Tryd.prog 91 #[.pointer (some ⟨c, o, none⟩)] w fun e w' => e = .returned (.tuple #[]) ∧ w' = w.setCell ⟨c, o, none⟩ (.slice a (tlen (nz X) n) cap) := by
  go_enter Tryd.func91, Tryd.ntmps91
  go_wp2
  go_loop [2] (fun i => ∃ k : Nat, k ≤ n ∧ i = .int .i64 k ∧ tlen (nz X) k = tlen (nz X) n) (fun i => (intOf i).toNat)
  case atStart => exact ⟨n, Nat.le_refl _, rfl, rfl⟩
  case round =>
    obtain ⟨k, hk, rfl, ht⟩ := hrel
    have HT : Hid (tlen (nz X) k = tlen (nz X) n) := ht
    clear ht
    by_cases hlt : 0 < k
    · obtain ⟨rfl, hc⟩ := hX (k - 1) (by omega)
      by_cases hB : X (k - 1) = 0
      · rw [hB] at hc
        have HB : Hid (nz X (k - 1) = false) := by simp [Hid, nz, hB]
        clear hB
        go_wp2
        go_round
        case rel => exact ⟨k - 1, by omega, by go_num, (tlen_false hlt HB.out).trans HT.out⟩
        case measure => simp [intOf]; omega
      · have HB : Hid (nz X (k - 1) = true) := by simp [Hid, nz, hB]
        have hne : ((X (k - 1) : Int) == 0) = false := by simp; omega
        clear hB
        go_wp2
        go_end0
        exact ⟨rfl, by rw [← HT.out, tlen_true hlt HB.out]⟩
    · have e : k = 0 := by omega
      subst e
      go_wp2
      go_end0
      exact ⟨rfl, by rw [← HT.out]; rfl⟩

set_option maxHeartbeats 800000 in
set_option maxRecDepth 100000 in
theorem isZero_any (c o : Nat) (a : Option Addr) (n cap : Nat) (w : World) (hc0 : w.cell? ⟨c, o, none⟩ = some (.slice a n cap)) :
    Calls Tryd.prog 76 #[.pointer (some ⟨c, o, none⟩)] w fun e w' => e = .returned (.bool ((n : Int) == 0)) ∧ w' = w := by
  go_enter Tryd.func76, Tryd.ntmps76
  go_wp2
  go_ret
  exact ⟨rfl, rfl⟩

set_option maxHeartbeats 800000 in
set_option maxRecDepth 100000 in
theorem cmpInt_lt (x y : Int) (w : World) (h : x < y) : Calls Tryd.prog 111 #[.int .i64 x, .int .i64 y] w fun e w' => e = .returned (.int .i64 (-1)) ∧ w' = w := by
  go_enter Tryd.func111, Tryd.ntmps111
  go_wp2
  go_ret
  exact ⟨rfl, rfl⟩

set_option maxHeartbeats 800000 in
set_option maxRecDepth 100000 in
theorem cmpInt_gt (x y : Int) (w : World) (h : y < x) : Calls Tryd.prog 111 #[.int .i64 x, .int .i64 y] w fun e w' => e = .returned (.int .i64 1) ∧ w' = w := by
  go_enter Tryd.func111, Tryd.ntmps111
  go_wp2
  go_ret
  exact ⟨rfl, rfl⟩

set_option maxHeartbeats 800000 in
set_option maxRecDepth 100000 in
theorem cmpLimb_lt (x y : Int) (w : World) (h : x < y) : Calls Tryd.prog 112 #[.int .u32 x, .int .u32 y] w fun e w' => e = .returned (.int .i64 (-1)) ∧ w' = w := by
  go_enter Tryd.func112, Tryd.ntmps112
  go_wp2
  go_ret
  exact ⟨rfl, rfl⟩

set_option maxHeartbeats 800000 in
set_option maxRecDepth 100000 in
theorem cmpLimb_gt (x y : Int) (w : World) (h : y < x) : Calls Tryd.prog 112 #[.int .u32 x, .int .u32 y] w fun e w' => e = .returned (.int .i64 1) ∧ w' = w := by
  go_enter Tryd.func112, Tryd.ntmps112
  go_wp2
  go_ret
  exact ⟨rfl, rfl⟩

set_option maxHeartbeats 1600000 in
set_option maxRecDepth 100000 in
/-- (*nat).compare on two plain numbers. -/
theorem compare_any (c o : Nat) (a a' : Option Addr) (b off n cap b' off' m cap' : Nat) (A B : Nat → Nat) (w : World) (hn : n ≤ 281474976710656) (hm : m ≤ 281474976710656) (hc0 : w.cell? ⟨c, o, none⟩ = some (.slice a n cap))
    (hA : Limbs w a b off n A) (hB : Limbs w a' b' off' m B) (lA : ∀ j, j < n → A j < 4294967296) (lB : ∀ j, j < m → B j < 4294967296) (tA : 0 < n → A (n - 1) ≠ 0) (tB : 0 < m → B (m - 1) ≠ 0) :
    Calls Tryd.prog 92 #[.pointer (some ⟨c, o, none⟩), .slice a' m cap'] w fun e w' => e = .returned (.int .i64 (cmpN (lv A n) (lv B m))) ∧ Same w w' := by
  by_cases h1 : n < m
  · rw [cmpN_lt (lv_short lA h1 tB)]
    clear tA tB lA lB
    go_enter Tryd.func92, Tryd.ntmps92
    go_wp2_with fail
    refine (cmpInt_lt _ _ _ (by omega)).mono ?_
    rintro e w1 ⟨rfl, rfl⟩
    go_wp2
    go_ret
    exact ⟨rfl, Same.refl _⟩
  by_cases h2 : m < n
  · rw [cmpN_gt (lv_short lB h2 tA)]
    clear tA tB lA lB
    go_enter Tryd.func92, Tryd.ntmps92
    go_wp2_with fail
    refine (cmpInt_gt _ _ _ (by omega)).mono ?_
    rintro e w1 ⟨rfl, rfl⟩
    go_wp2
    go_ret
    exact ⟨rfl, Same.refl _⟩
  have e : m = n := by omega
  subst e
  have HA := hide lA
  have HB := hide lB
  clear tA tB h1 h2 lA lB
  go_enter Tryd.func92, Tryd.ntmps92
  go_wp2
  go_loopw [5] (fun t wr => ∃ (k : Nat) (z : Int), k ≤ m ∧ t = .int .i64 z ∧ Hid (z = k - 1) ∧ Same w wr ∧ Hid (∀ j, k ≤ j → j < m → A j = B j)) (fun t _ => (intOf t + 1).toNat)
  case atStart => exact ⟨m, (m : Int) - 1, Nat.le_refl _, rfl, rfl, Same.refl _, fun j h1 h2 => absurd h2 (by omega)⟩
  case round =>
    obtain ⟨k, z, hk, rfl, HZ, hs, HE⟩ := hrel
    by_cases hz : 0 ≤ z
    · obtain ⟨i, rfl⟩ := Int.eq_ofNat_of_zero_le hz
      have hki : k = i + 1 := by have := HZ.out; omega
      subst hki
      clear HZ
      obtain ⟨rfl, hc⟩ := hA i (by omega)
      obtain ⟨rfl, hc'⟩ := hB i (by omega)
      have g0 : wr.cell? ⟨b, off + i, none⟩ = some (.int .u32 (A i)) := by rw [hs.cell]; exact hc
      have g1 : wr.cell? ⟨b', off' + i, none⟩ = some (.int .u32 (B i)) := by rw [hs.cell]; exact hc'
      have g2 : wr.cell? ⟨c, o, none⟩ = some (.slice (some ⟨b, off, none⟩) m cap) := by rw [hs.cell]; exact hc0
      have hzi : (i : Int) < (m : Int) := by omega
      clear hc hc' hc0
      by_cases hab : A i = B i
      · have HAB : Hid (A i = B i) := hab
        rw [hab] at g0
        clear hab
        go_wp2
        go_quiet (fail)
        go_wp2
        go_roundw
        case rel =>
          refine ⟨i, (i : Int) - 1, by omega, rfl, rfl, hs.drewN _, fun j h1 h2 => ?_⟩
          by_cases e : j = i
          · subst e; exact HAB.out
          · exact HE.out j (by omega) h2
        case measure => simp [intOf]
      · have hne : ((A i : Int) == (B i : Int)) = false := by simp; omega
        by_cases hlt : A i < B i
        · have HC : Hid (cmpN (lv A m) (lv B m) = -1) := cmpN_lt (lv_top HA.out (i := i) (by omega) (fun j h1 h2 => HE.out j (by omega) h2) hlt)
          go_wp2
          go_quiet (fail)
          go_wp2
          have hs1 := hs.drewN nq
          obtain ⟨wq, hwq⟩ : ∃ wq, wq = wr.drewN nq := ⟨_, rfl⟩
          have q0 : wq.cell? ⟨b, off + i, none⟩ = some (.int .u32 (A i)) := by rw [hwq]; exact g0
          have q1 : wq.cell? ⟨b', off' + i, none⟩ = some (.int .u32 (B i)) := by rw [hwq]; exact g1
          have q2 : wq.cell? ⟨c, o, none⟩ = some (.slice (some ⟨b, off, none⟩) m cap) := by rw [hwq]; exact g2
          rw [← hwq] at hs1 ⊢
          clear hwq g0 g1 g2
          go_quiet ((go_at_call 112; exact Calls.quiet_of_same (cmpLimb_lt ((A i : Nat) : Int) ((B i : Nat) : Int) _ (by omega))))
          go_wp2
          go_ret
          exact ⟨ret_int HC.out.symm, hs1.drewN _⟩
        · have HC : Hid (cmpN (lv A m) (lv B m) = 1) := cmpN_gt (lv_top HB.out (i := i) (by omega) (fun j h1 h2 => (HE.out j (by omega) h2).symm) (by omega))
          have hgt : B i < A i := by omega
          go_wp2
          go_quiet (fail)
          go_wp2
          have hs1 := hs.drewN nq
          obtain ⟨wq, hwq⟩ : ∃ wq, wq = wr.drewN nq := ⟨_, rfl⟩
          have q0 : wq.cell? ⟨b, off + i, none⟩ = some (.int .u32 (A i)) := by rw [hwq]; exact g0
          have q1 : wq.cell? ⟨b', off' + i, none⟩ = some (.int .u32 (B i)) := by rw [hwq]; exact g1
          have q2 : wq.cell? ⟨c, o, none⟩ = some (.slice (some ⟨b, off, none⟩) m cap) := by rw [hwq]; exact g2
          rw [← hwq] at hs1 ⊢
          clear hwq g0 g1 g2
          go_quiet ((go_at_call 112; exact Calls.quiet_of_same (cmpLimb_gt ((A i : Nat) : Int) ((B i : Nat) : Int) _ (by omega))))
          go_wp2
          go_ret
          exact ⟨ret_int HC.out.symm, hs1.drewN _⟩
    · have hk0 : k = 0 := by have := HZ.out; omega
      subst hk0
      have HC : Hid (cmpN (lv A m) (lv B m) = 0) := cmpN_eq (lv_congr (fun j hj => HE.out j (by omega) hj))
      go_wp2
      go_ret
      exact ⟨ret_int HC.out.symm, hs⟩

end Go.Proofs.YtabemlkdpgglaaaDoor

namespace Go.Proofs.YtabemlkdpgglaaaDoor
open Go.RowKit

/-- The first m bits of the limbs X, as cells. -/
def bl (B : Nat → Bool) (m : Nat) : List Value := (List.range m).map fun j => .bool (B j)
theorem bl_len (B : Nat → Bool) (m : Nat) : (bl B m).length = m := by simp [bl]
theorem bl_succ (B : Nat → Bool) (m : Nat) : bl B (m + 1) = bl B m ++ [.bool (B m)] := by simp [bl, List.range_succ]
theorem bl_get (B : Nat → Bool) (m j : Nat) (h : j < m) : (bl B m)[j]? = some (.bool (B j)) := by simp [bl, h]

/-- Limbs as cells. -/
def ll (X : Nat → Nat) (m : Nat) : List Value := (List.range m).map fun j => .int .u32 (X j)
theorem ll_len (X : Nat → Nat) (m : Nat) : (ll X m).length = m := by simp [ll]
theorem ll_succ (X : Nat → Nat) (m : Nat) : ll X (m + 1) = ll X m ++ [.int .u32 (X m)] := by simp [ll, List.range_succ]
theorem ll_get (X : Nat → Nat) (m j : Nat) (h : j < m) : (ll X m)[j]? = some (.int .u32 (X j)) := by simp [ll, h]

theorem own_bits {w : World} {base : Nat} {v : Value} {m : Nat} {B : Nat → Bool} (h : w.ownsRow base 4 1 v m (bl B m)) :
    ∃ a g cap, v = .slice a m cap ∧ m ≤ cap ∧ (0 < m → base ≤ g) ∧ Bits w a g 0 m B := by
  have hc := @World.ownsRow.cells _ _ _ _ _ _ _ h
  rcases h.2 with ⟨rfl, rfl⟩ | ⟨g, cap, cur, rfl, hb, hg, hm, _⟩
  · exact ⟨none, 0, 0, rfl, Nat.le_refl _, fun h => absurd h (by omega), fun j hj => absurd hj (by omega)⟩
  · refine ⟨_, g, cap, rfl, hm, fun _ => hb, fun j hj => ⟨rfl, ?_⟩⟩
    have := hc (g := g) rfl j _ (bl_get B m j hj)
    rw [Addr.add_lit] at this; exact this

theorem own_limbs {w : World} {base : Nat} {v : Value} {m : Nat} {X : Nat → Nat} (h : w.ownsRow base 58 1 v m (ll X m)) :
    ∃ a g cap, v = .slice a m cap ∧ m ≤ cap ∧ (0 < m → base ≤ g) ∧ Limbs w a g 0 m X ∧ (0 < m → ∀ o, w.frozen? ⟨g, o, none⟩ = false) := by
  have hc := @World.ownsRow.cells _ _ _ _ _ _ _ h
  rcases h.2 with ⟨rfl, rfl⟩ | ⟨g, cap, cur, rfl, hb, hg, hm, _⟩
  · exact ⟨none, 0, 0, rfl, Nat.le_refl _, fun h => absurd h (by omega), fun j hj => absurd hj (by omega), fun h => absurd h (by omega)⟩
  · refine ⟨_, g, cap, rfl, hm, fun _ => hb, fun j hj => ⟨rfl, ?_⟩, fun _ o => by simp [World.frozen?, hg]⟩
    have := hc (g := g) rfl j _ (ll_get X m j hj)
    rw [Addr.add_lit] at this; exact this

theorem bit_of (X : Nat → Nat) (i k q : Nat) (hk : k < 32) (hq : q = X i / 2 ^ k) : ((q : Int) % 2 == 1) = bitsOf X (32 * i + k) := by
  have d1 : (32 * i + k) / 32 = i := by omega
  have d2 : (32 * i + k) % 32 = k := by omega
  unfold bitsOf
  rw [d1, d2, ← hq, Bool.eq_iff_iff]
  simp only [beq_iff_eq]
  omega

theorem half_of (X : Nat → Nat) (i k q : Nat) (hq : q = X i / 2 ^ k) : q / 2 = X i / 2 ^ (k + 1) := by
  rw [hq, Nat.div_div_eq_div_mul, Nat.pow_succ]

set_option maxHeartbeats 1600000 in
set_option maxRecDepth 100000 in
theorem l1Bits_any (a : Option Addr) (b off n cap : Nat) (X : Nat → Nat) (w : World) (hn : n ≤ 4194304) (hX : Limbs w a b off n X) (hXl : ∀ j, j < n → X j < 4294967296) :
    Calls Tryd.prog 30 #[.slice a n cap] w fun e w' => ∃ a' g m cap' B, e = .returned (.slice a' m cap') ∧ m ≤ cap' ∧ m ≤ 32 * n ∧ Bits w' a' g 0 m B ∧ (0 < m → w.heap.size ≤ g) ∧
      (0 < m → B (m - 1) = true) ∧ bv B m = lv X n ∧ w.Since w.heap.size w' := by
  obtain ⟨i0, hi, hz0, hz1, hz2⟩ := info_parts Tryd.info4
  go_enter Tryd.func30, Tryd.ntmps30
  go_wp2
  go_loopw [3, 4] (fun v q wr => ∃ i : Nat, i ≤ n ∧ q = .int .i64 i ∧ wr.ownsRow w.heap.size 4 1 v (32 * i) (bl (bitsOf X) (32 * i)) ∧ w.Since w.heap.size wr) (fun _ i _ => n - (intOf i).toNat)
  case atStart =>
    exact ⟨0, Nat.zero_le _, rfl, World.ownsRow_made w #[] 0 (Nat.le_refl _) (by decide) rfl, (World.Since.refl _ _).alloc (Nat.le_refl _) _⟩
  case round =>
    obtain ⟨i, hin, rfl, hown, hs⟩ := hrel
    by_cases hlt : i < n
    · obtain ⟨rfl, hc⟩ := hX i hlt
      have g0 : wr.cell? ⟨b, off + i, none⟩ = some (.int .u32 (X i)) := by rw [hs.cell (a := ⟨b, off + i, none⟩) (hX.lt (by omega))]; exact hc
      clear hc
      have hxi := hXl i hlt
      go_wp2
      go_loopw [3, 5, 6] (fun v x t wr' => ∃ k q : Nat, k ≤ 32 ∧ t = .int .i64 k ∧ x = .int .u32 q ∧ q = X i / 2 ^ k ∧ q < 4294967296 ∧ wr'.ownsRow w.heap.size 4 1 v (32 * i + k) (bl (bitsOf X) (32 * i + k)) ∧ w.Since w.heap.size wr') (fun _ _ t _ => 32 - (intOf t).toNat)
      case atStart => exact ⟨0, X i, by omega, rfl, rfl, by simp, hxi, hown, hs⟩
      case round =>
        clear g0 hown hs
        obtain ⟨k, q, hk, rfl, rfl, hq, hql, hown, hs⟩ := hrel
        have HQ : Hid (q = X i / 2 ^ k) := hq
        clear hq
        by_cases hk2 : k < 32
        · go_wp2_with (at_builtin; refine wpList_append_own _ rfl _ _ 51 rfl w.heap.size 4 i0 (.bool false) 1 1 Tryd.underlying51 hi hz0 hz1 hz2 rfl (by decide) _ _ _ rfl (hown.alloc _) ⟨wr.heap.size, 0, none⟩ 1 1 [.bool ((q : Int) % 2 == 1)] rfl rfl ?c1 ?c2 ?c3 ?c4 ?c5 ?_)
          case c1 =>
            intro j u hj
            match j, hj with
            | 0, hj => simp at hj; subst hj; simp [Addr.add]
          case c2 => intro u hu; simp at hu; subst hu; rfl
          case c3 => unfold maxLen; omega
          case c4 => omega
          case c5 => have := hs.size; simp; omega
          intro v' w1 hown' hgrow _
          have hs1 : w.Since w.heap.size w1 := (hs.alloc hs.size _).grown hgrow (by have := hs.size; simp; omega) (fun k hk => (hown.lt k hk).1)
          rw [bit_of X i k q hk2 HQ.out, ← bl_succ] at hown'
          clear hgrow hown hs
          go_wp2
          go_roundw
          case rel => exact ⟨k + 1, q / 2, by omega, by go_num, by go_num, half_of X i k q HQ.out, by omega, hown', hs1⟩
          case measure => simp [intOf]; omega
        · have e : k = 32 := by omega
          subst e
          go_wp2
          go_roundw
          case rel => exact ⟨i + 1, by omega, by go_num, hown, hs⟩
          case measure => simp [intOf]; omega
    · have e : i = n := by omega
      subst e
      obtain ⟨a', g, cap', rfl, hmc, hg, hB⟩ := own_bits hown
      go_wp2_with fail
      refine (l1Trim_any a' g 0 (32 * i) cap' (bitsOf X) _ (by omega) hmc hB).mono ?_
      rintro e w1 ⟨rfl, rfl⟩
      go_wp2
      go_ret
      have htl := tlen_le (bitsOf X) (32 * i)
      exact ⟨a', g, _, cap', bitsOf X, rfl, by omega, htl, hB.take htl, fun h => hg (by omega), fun h => tlen_top _ _ h, (bv_tlen _ _).trans (bv_bits_all X i hXl), hs⟩

end Go.Proofs.YtabemlkdpgglaaaDoor

/-
  Plain mathematics: division by one limb; shifts.
-/
namespace Go.Proofs.YtabemlkdpgglaaaDoor

theorem lv_add (T : Nat → Nat) (a b : Nat) : lv T (a + b) = lv T a + 2 ^ (32 * a) * lv (fun k => T (a + k)) b := by
  induction b with
  | zero => simp [lv]
  | succ b ih =>
    have e : a + (b + 1) = (a + b) + 1 := by omega
    rw [e]; simp only [lv]
    rw [ih, Nat.mul_add 32, Nat.pow_add, Nat.mul_add, Nat.add_assoc, Nat.mul_left_comm]

theorem lv_front (T : Nat → Nat) (r : Nat) : lv T (r + 1) = 4294967296 * lv (fun k => T (k + 1)) r + T 0 := by
  rw [Nat.add_comm r 1, lv_add]
  simp only [lv, Nat.mul_zero, Nat.pow_zero, Nat.mul_one, Nat.zero_add]
  rw [Nat.add_comm]
  congr 2
  exact lv_congr (fun j _ => by rw [Nat.add_comm])

/-- The limbs of X from place i on. -/
def hl (X : Nat → Nat) (i n : Nat) : Nat := lv (fun t => X (i + t)) (n - i)

theorem hl_top (A : Nat → Nat) (n : Nat) : hl A n n = 0 := by simp [hl, lv]
theorem hl_zero (A : Nat → Nat) (n : Nat) : hl A 0 n = lv A n := by simp [hl]
theorem hl_step (A : Nat → Nat) (i n : Nat) (h : i < n) : hl A i n = 4294967296 * hl A (i + 1) n + A i := by
  unfold hl
  rw [show n - i = (n - (i + 1)) + 1 by omega, lv_front]
  congr 2
  exact lv_congr (fun j _ => by rw [show i + (j + 1) = i + 1 + j by omega])
theorem hl_congr {A B : Nat → Nat} {i n : Nat} (h : ∀ j, i ≤ j → j < n → A j = B j) : hl A i n = hl B i n := lv_congr (fun j hj => h _ (by omega) (by omega))

/-- Division by one limb: the limbs from place i on are divided. -/
def LimbRel (X Q : Nat → Nat) (n i d r : Nat) : Prop := hl X i n = hl Q i n * d + r ∧ r < d ∧ (∀ j, j < i → Q j = X j) ∧ ∀ j, j < n → Q j < 4294967296

theorem limbRel_start {X : Nat → Nat} {n d : Nat} (hd : 0 < d) (hX : ∀ j, j < n → X j < 4294967296) : LimbRel X X n n d 0 := ⟨by simp [hl_top], hd, fun _ _ => rfl, hX⟩

theorem limbRel_step {X Q : Nat → Nat} {n i d r : Nat} (h : LimbRel X Q n (i + 1) d r) (hi : i < n) (hx : X i < 4294967296) :
    LimbRel X (upd Q i ((r * 4294967296 + X i) / d)) n i d ((r * 4294967296 + X i) % d) ∧ (r * 4294967296 + X i) / d < 4294967296 := by
  obtain ⟨h1, h2, h3, h4⟩ := h
  have hd : 0 < d := by omega
  have hq : (r * 4294967296 + X i) / d < 4294967296 := by
    rw [Nat.div_lt_iff_lt_mul hd]
    have : (r + 1) * 4294967296 ≤ d * 4294967296 := Nat.mul_le_mul_right _ h2
    omega
  refine ⟨⟨?_, Nat.mod_lt _ hd, fun j hj => by rw [upd_other _ _ _ _ (by omega)]; exact h3 j (by omega), fun j hj => ?_⟩, hq⟩
  · rw [hl_step X i n hi, hl_step _ i n hi, upd_same, h1, hl_congr (fun j a _ => upd_other Q i _ j (by omega))]
    generalize hl Q (i + 1) n = q
    have e := Nat.div_add_mod (r * 4294967296 + X i) d
    rw [Nat.add_mul, Nat.mul_comm ((r * 4294967296 + X i) / d) d, Nat.mul_assoc 4294967296]
    omega
  · by_cases e : j = i
    · subst e; rw [upd_same]; exact hq
    · rw [upd_other _ _ _ _ e]; exact h4 j hj

theorem limbRel_end {X Q : Nat → Nat} {n d r : Nat} (h : LimbRel X Q n 0 d r) : lv Q n = lv X n / d ∧ r = lv X n % d := by
  obtain ⟨h1, h2, _⟩ := h
  rw [hl_zero, hl_zero] at h1
  have hD : 0 < d := by omega
  have e : lv X n = r + lv Q n * d := by omega
  rw [e]
  refine ⟨?_, ?_⟩
  · rw [Nat.add_mul_div_right _ _ hD, Nat.div_eq_of_lt h2, Nat.zero_add]
  · rw [Nat.add_mul_mod_self_right, Nat.mod_eq_of_lt h2]

end Go.Proofs.YtabemlkdpgglaaaDoor

namespace Go.Proofs.YtabemlkdpgglaaaDoor
open Go.RowKit

theorem or_add32 (a b : Nat) (hb : b < 4294967296) : a * 4294967296 ||| b = a * 4294967296 + b := by
  have := Nat.two_pow_add_eq_or_of_lt (i := 32) (b := b) (by omega) a
  rw [Nat.mul_comm] at this
  exact this.symm

theorem or64 (a b : Nat) (ha : a < 4294967296) (hb : b < 4294967296) : bits .or .u64 ((a : Int) * 4294967296) (b : Int) = (a : Int) * 4294967296 + (b : Int) := by
  have h := u64_or_nat (a * 4294967296) b (by omega) (by omega)
  rw [or_add32 a b hb] at h
  rw [show ((a * 4294967296 : Nat) : Int) = (a : Int) * 4294967296 by omega] at h
  rw [h]; omega

theorem wrap_u64_id (d : Nat) (h : d < 18446744073709551616) : IntKind.u64.wrap (d : Int) = (d : Int) := by rw [IntKind.wrap_u64]; omega
theorem wrap_u32_id (d : Nat) (h : d < 4294967296) : IntKind.u32.wrap (d : Int) = (d : Int) := by rw [IntKind.wrap_u32']; omega

theorem ll_one (R : Nat → Nat) (t : Nat) : ∀ u ∈ ll R t, u.oneCell' = true := by
  intro u hu
  obtain ⟨_, _, rfl⟩ := List.mem_map.1 hu
  rfl

theorem limbs_news {w : World} {x : Addr} {g off t : Nat} {R : Nat → Nat} (h : Limbs w (some x) g off t R) : ∀ j u, (ll R t)[j]? = some u → w.cell? (x.add j) = some u := by
  intro j u hu
  have hj : j < t := by have := (List.getElem?_eq_some_iff.1 hu).1; rwa [ll_len] at this
  rw [ll_get R t j hj] at hu
  have hx := Option.some.inj (h j hj).1
  rw [hx, Addr.add_lit, (h j hj).2]; exact hu

set_option maxHeartbeats 800000 in
set_option maxRecDepth 100000 in
theorem ownCopy_any (a : Option Addr) (b off n cap : Nat) (X : Nat → Nat) (w : World) (hn : n ≤ 4194304) (hnc : n ≤ cap) (hac : a = none → cap = 0) (hX : Limbs w a b off n X) :
    Calls Tryd.prog 46 #[.slice a n cap] w fun e w' => ∃ v, e = .returned v ∧ w'.ownsRow w.heap.size 58 1 v (tlen (nz X) n) (ll X (tlen (nz X) n)) ∧ w.Since w.heap.size w' := by
  obtain ⟨i0, hi, hz0, hz1, hz2⟩ := info_parts Tryd.info58
  have htl := tlen_le (nz X) n
  cases a with
  | none =>
    have hc := hac rfl
    have hn0 : n = 0 := by omega
    subst hc hn0
    clear hac
    go_enter Tryd.func46, Tryd.ntmps46
    go_wp2_with fail
    refine (readOnly_any none b off 0 0 X _ (by omega) (Nat.le_refl _) hX).mono ?_
    rintro e w1 ⟨rfl, hs⟩
    have e0 : tlen (nz X) 0 = 0 := rfl
    rw [e0]
    go_wp2_with (at_builtin; refine wpList_append_own_none rfl _ _ 55 rfl w.heap.size 58 i0 1 Tryd.underlying55 hi _ 0 [] rfl (World.ownsRow_nil _ _ _ _) rfl ?_)
    go_ret
    exact ⟨_, rfl, World.ownsRow_nil _ _ _ _, hs⟩
  | some x =>
    clear hac
    go_enter Tryd.func46, Tryd.ntmps46
    go_wp2_with fail
    refine (readOnly_any (some x) b off n cap X _ (by omega) hnc hX).mono ?_
    rintro e w1 ⟨rfl, hs⟩
    have hX1 := (hX.keep hs).take htl
    obtain ⟨t, ht⟩ : ∃ t, t = tlen (nz X) n := ⟨_, rfl⟩
    have HT := hide ht
    rw [← ht] at hX1 htl ⊢
    clear ht
    go_wp2_with (at_builtin; refine wpList_append_own _ rfl _ _ 55 rfl w.heap.size 58 i0 (.int .u32 0) 1 4 Tryd.underlying55 hi hz0 hz1 hz2 rfl (by decide) _ 0 [] rfl (World.ownsRow_nil _ _ _ _) x t cap (ll X t) rfl (by rw [ll_len]; omega) (limbs_news hX1) (ll_one X t) (by unfold maxLen; omega) (by omega) hs.size ?_)
    intro v' w2 hown hgrow hnil
    have hown : w2.ownsRow w.heap.size 58 1 v' (tlen (nz X) n) (ll X (tlen (nz X) n)) := by rw [← HT.out]; exact hown
    have hs2 : w.Since w.heap.size w2 := hs.grown hgrow hs.size (fun k hk => by simp [Value.ownBlock] at hk)
    clear hgrow hnil
    go_wp2
    go_ret
    exact ⟨_, rfl, hown, hs2⟩

theorem Marked.drew {w w' : World} {b : Nat} (h : Marked w w' b) : Marked w w'.drew b := ⟨h.os, h.tape, h.output, h.size, h.other, h.frozen⟩
theorem Marked.drewN {w w' : World} {b : Nat} (h : Marked w w' b) (n : Nat) : Marked w (w'.drewN n) b := ⟨h.os, h.tape, h.output, h.size, h.other, h.frozen⟩
theorem Marked.trans {w w' w'' : World} {b : Nat} (h : Marked w w' b) (k : Marked w' w'' b) : Marked w w'' b :=
  ⟨k.os.trans h.os, k.tape.trans h.tape, k.output.trans h.output, k.size.trans h.size, fun j hj => (k.other j hj).trans (h.other j hj), fun o => (k.frozen o).trans (h.frozen o)⟩
theorem Marked.same {w w' w'' : World} {b : Nat} (h : Marked w w' b) (k : Same w' w'') : Marked w w'' b :=
  ⟨k.os.trans h.os, k.tape.trans h.tape, k.output.trans h.output, k.size.trans h.size, fun j hj => by rw [k.heap]; exact h.other j hj, fun o => by rw [k.frozen]; exact h.frozen o⟩

/-- One limb of a slice is written. -/
theorem Limbs.put {w : World} {a : Option Addr} {b n i : Nat} {Q : Nat → Nat} (h : Limbs w a b 0 n Q) (v : Nat) : Limbs (w.setCell ⟨b, i, none⟩ (.int .u32 v)) a b 0 n (upd Q i v) := by
  intro j hj
  have hj' := h j hj
  refine ⟨hj'.1, ?_⟩
  by_cases e : j = i
  · subst e
    rw [upd_same, Nat.zero_add]
    have := hj'.2
    rw [Nat.zero_add] at this
    exact World.cell?_setCell_same _ _ _ this
  · rw [upd_other _ _ _ _ e, World.cell?_setCell_other _ _ _ _ (fun h => by have := congrArg Addr.off h; simp at this; omega)]
    exact hj'.2

set_option maxHeartbeats 1600000 in
set_option maxRecDepth 100000 in
theorem divideByLimb_any (c o : Nat) (a : Option Addr) (b n cap d : Nat) (X : Nat → Nat) (w : World) (hn : n ≤ 281474976710656) (hnc : n ≤ cap) (hc0 : w.cell? ⟨c, o, none⟩ = some (.slice a n cap)) (hf0 : w.frozen? ⟨c, o, none⟩ = false)
    (hX : Limbs w a b 0 n X) (hXl : ∀ j, j < n → X j < 4294967296) (hf : 0 < n → ∀ o, w.frozen? ⟨b, o, none⟩ = false) (hcb : c ≠ b) (hd : 0 < d) (hdl : d < 4294967296) :
    Calls Tryd.prog 77 #[.pointer (some ⟨c, o, none⟩), .int .u32 d] w fun e w' => e = .returned (.int .u32 ((lv X n % d : Nat) : Int)) ∧ ∃ w2 Q, Marked w w2 b ∧ Limbs w2 a b 0 n Q ∧ (∀ j, j < n → Q j < 4294967296) ∧
      lv Q n = lv X n / d ∧ w' = w2.setCell ⟨c, o, none⟩ (.slice a (tlen (nz Q) n) cap) := by
  have HXl := hide hXl
  clear hXl
  go_enter Tryd.func77, Tryd.ntmps77
  go_wp2
  go_loopw [5, 6] (fun r t wr => ∃ (k rr : Nat) (z : Int) (Q : Nat → Nat), k ≤ n ∧ t = .int .i64 z ∧ r = .int .u64 rr ∧ rr < d ∧ Hid (z = k - 1) ∧ Marked w wr b ∧ Limbs wr a b 0 n Q ∧ Hid (LimbRel X Q n k d rr)) (fun _ t _ => (intOf t + 1).toNat)
  case atStart => exact ⟨n, 0, (n : Int) - 1, X, Nat.le_refl _, rfl, rfl, hd, rfl, Marked.refl _ _, hX, limbRel_start hd HXl.out⟩
  case round =>
    obtain ⟨k, rr, z, Q, hk, rfl, rfl, hrr, HZ, hs, hQ, HR⟩ := hrel
    by_cases hz : 0 ≤ z
    · obtain ⟨i, rfl⟩ := Int.eq_ofNat_of_zero_le hz
      have hki : k = i + 1 := by have := HZ.out; omega
      subst hki
      clear HZ
      obtain ⟨rfl, hc⟩ := hQ i (by omega)
      have hxi : Q i < 4294967296 := HR.out.2.2.2 i (by omega)
      have HS := hide (limbRel_step HR.out (by omega) (HXl.out i (by omega)))
      rw [← HR.out.2.2.1 i (by omega)] at HS
      have g0 : wr.cell? ⟨b, i, none⟩ = some (.int .u32 (Q i)) := by simpa using hc
      have g1 : wr.frozen? ⟨b, i, none⟩ = false := by rw [hs.frozen]; exact hf (by omega) i
      have g2 : wr.cell? ⟨c, o, none⟩ = some (.slice (some ⟨b, 0, none⟩) n cap) := by rw [hs.cell (a := ⟨c, o, none⟩) hcb]; exact hc0
      have hni : (i : Int) < (n : Int) := by omega
      have hor := or64 rr (Q i) (by omega) hxi
      obtain ⟨x, hx⟩ : ∃ x, x = Q i := ⟨_, rfl⟩
      rw [← hx] at HS hxi g0 hor
      clear hc hx
      go_wp2
      clear hor
      obtain ⟨p, hp⟩ : ∃ p, p = rr * 4294967296 + x := ⟨_, rfl⟩
      have hpi : (rr : Int) * 4294967296 + (x : Int) = (p : Int) := by omega
      have hpl : p < 18446744073709551615 := by omega
      rw [← hp] at HS
      rw [hpi]
      clear hp hpi
      obtain ⟨q, hq⟩ : ∃ q, q = p / d := ⟨_, rfl⟩
      have HQ := hide hq
      have hql : q < 4294967296 := by rw [hq]; exact HS.out.2
      have w1 : IntKind.u64.wrap (d : Int) = (d : Int) := wrap_u64_id d (by omega)
      have w2 : IntKind.u64.wrap ((p : Int) / (d : Int)) = (q : Int) := by rw [← Int.natCast_ediv, ← hq]; exact wrap_u64_id q (by omega)
      have w3 : IntKind.u32.wrap (q : Int) = (q : Int) := wrap_u32_id q hql
      have hd0 : ¬ (d : Int) = 0 := by omega
      clear hq
      go_region
      clear w1 w2 w3
      go_wp2
      go_roundw
      case rel =>
        go_light
        have HS2 := HS.out.1
        rw [← HQ.out] at HS2
        refine ⟨i, p % d, (i : Int) - 1, upd Q i q, by omega, rfl, congrArg (Value.int .u64) (by rw [Int.natCast_emod]), Nat.mod_lt _ hd, rfl, ?_, ?_, HS2⟩
        · first | exact (hs.setCell _ _).drew | exact hs.drew.setCell _ _
        · exact hQ.put q
      case measure => simp [intOf]
    · have hk0 : k = 0 := by have := HZ.out; omega
      subst hk0
      have g2 : wr.cell? ⟨c, o, none⟩ = some (.slice a n cap) := by rw [hs.cell (a := ⟨c, o, none⟩) hcb]; exact hc0
      have g3 : wr.frozen? ⟨c, o, none⟩ = false := by rw [hs.frozenO (a := ⟨c, o, none⟩) hcb]; exact hf0
      obtain ⟨v1, v2⟩ := limbRel_end HR.out
      have HV1 := hide v1
      have HV2 := hide v2
      clear v1 v2
      go_wp2_with fail
      refine (trimAt_any c o a b 0 n cap Q _ hn hnc g2 g3 hQ).mono ?_
      rintro e w1 ⟨rfl, rfl⟩
      have hrl : rr < 4294967296 := by omega
      go_wp2
      go_ret
      exact ⟨ret_int (a := (rr : Int)) (congrArg (fun x : Nat => (x : Int)) HV2.out), wr, Q, hs, hQ, HR.out.2.2.2, HV1.out, rfl⟩

end Go.Proofs.YtabemlkdpgglaaaDoor

/-
  Plain mathematics: shifts of limbs.
-/
namespace Go.Proofs.YtabemlkdpgglaaaDoor

theorem or_low (i x y : Nat) (hx : x % 2 ^ i = 0) (hy : y < 2 ^ i) : y ||| x = x + y := by
  have hq : x = 2 ^ i * (x / 2 ^ i) := by
    have := Nat.div_add_mod x (2 ^ i)
    omega
  rw [Nat.or_comm, hq, ← Nat.two_pow_add_eq_or_of_lt hy (x / 2 ^ i)]

theorem pow_le32 (p : Nat) (hp : p ≤ 32) : 2 ^ p ≤ 4294967296 := by
  have : 2 ^ p ≤ 2 ^ 32 := Nat.pow_le_pow_right (by omega) hp
  omega

theorem pow_split (p : Nat) (hp : p ≤ 32) : 2 ^ p * 2 ^ (32 - p) = 4294967296 := by
  rw [← Nat.pow_add, show p + (32 - p) = 32 by omega]

/-- The low half of x shifted left by p is a multiple of 2^p. -/
theorem low_mod (x p : Nat) (hp : p ≤ 32) : (x * 2 ^ p % 4294967296) % 2 ^ p = 0 := by
  rw [← pow_split p hp, Nat.mod_mul_right_mod]
  exact Nat.mul_mod_left _ _

theorem high_lt (x p : Nat) (hx : x < 4294967296) : x * 2 ^ p / 4294967296 < 2 ^ p := by
  rw [Nat.div_lt_iff_lt_mul (by omega), Nat.mul_comm]
  exact Nat.mul_lt_mul_of_pos_left hx (Nat.pow_pos (by omega))

theorem low_room (x p s : Nat) (hp : p ≤ 32) (hs : s < 2 ^ p) : x * 2 ^ p % 4294967296 + s < 4294967296 := by
  have h1 : x * 2 ^ p % 4294967296 < 4294967296 := Nat.mod_lt _ (by omega)
  have h2 := low_mod x p hp
  have h3 := pow_split p hp
  have h4 := Nat.div_add_mod (x * 2 ^ p % 4294967296) (2 ^ p)
  rw [h2, Nat.add_zero] at h4
  generalize x * 2 ^ p % 4294967296 = l at *
  generalize l / 2 ^ p = q at *
  have hq : q < 2 ^ (32 - p) := by
    by_cases h : q < 2 ^ (32 - p)
    · exact h
    · have : 2 ^ p * 2 ^ (32 - p) ≤ 2 ^ p * q := Nat.mul_le_mul_left _ (by omega)
      omega
  have h5 : 2 ^ p * (q + 1) ≤ 2 ^ p * 2 ^ (32 - p) := Nat.mul_le_mul_left _ hq
  rw [Nat.mul_add] at h5
  omega

def ShlRel (X S : Nat → Nat) (whole p i : Nat) : Prop := lv S (i + whole + 1) = lv X i * 2 ^ (32 * whole + p) ∧ S (i + whole) < 2 ^ p ∧ ∀ k, S k < 4294967296

theorem shlRel_start (X : Nat → Nat) (whole p : Nat) : ShlRel X (fun _ => 0) whole p 0 :=
  ⟨by rw [lv_more (fun _ => 0) 0 (0 + whole + 1) (by omega) (fun _ _ _ => rfl)]; simp [lv], Nat.pow_pos (by omega), fun _ => by show 0 < _; omega⟩

theorem shlRel_step {X S : Nat → Nat} {whole p i : Nat} (h : ShlRel X S whole p i) (hp : p < 32) (hx : X i < 4294967296) :
    ShlRel X (upd (upd S (i + whole) (X i * 2 ^ p % 4294967296 + S (i + whole))) (i + whole + 1) (X i * 2 ^ p / 4294967296)) whole p (i + 1) := by
  obtain ⟨h1, h2, h3⟩ := h
  have hr := low_room (X i) p _ (by omega) h2
  have hh := high_lt (X i) p hx
  have hp2 := pow_le32 p (by omega)
  refine ⟨?_, ?_, fun k => ?_⟩
  · have e : i + 1 + whole + 1 = (i + whole + 1) + 1 := by omega
    rw [e]
    simp only [lv, upd_same]
    rw [lv_upd _ _ _ _ (by omega), lv_upd _ _ _ _ (by omega), upd_other _ _ _ _ (by omega), upd_same]
    simp only [lv] at h1
    rw [Nat.add_mul (X i * 2 ^ p % 4294967296), pow32]
    have e2 : X i * 2 ^ p % 4294967296 * 2 ^ (32 * (i + whole)) + X i * 2 ^ p / 4294967296 * (4294967296 * 2 ^ (32 * (i + whole))) = X i * 2 ^ p * 2 ^ (32 * (i + whole)) := by
      rw [← Nat.mul_assoc, ← Nat.add_mul]; congr 1; omega
    have e3 : (lv X i + X i * 2 ^ (32 * i)) * 2 ^ (32 * whole + p) = lv X i * 2 ^ (32 * whole + p) + X i * 2 ^ p * 2 ^ (32 * (i + whole)) := by
      rw [Nat.add_mul, Nat.mul_assoc (X i), Nat.mul_assoc (X i), ← Nat.pow_add, ← Nat.pow_add, show 32 * i + (32 * whole + p) = p + 32 * (i + whole) by omega]
    rw [e3]
    omega
  · rw [show i + 1 + whole = i + whole + 1 by omega, upd_same]; exact hh
  · by_cases e1 : k = i + whole + 1
    · subst e1; rw [upd_same]; omega
    · rw [upd_other _ _ _ _ e1]
      by_cases e2 : k = i + whole
      · subst e2; rw [upd_same]; exact hr
      · rw [upd_other _ _ _ _ e2]; exact h3 k

/-! ### to the right -/

theorem lv_shr (X : Nat → Nat) (n whole : Nat) (h : whole ≤ n) (hX : ∀ j, j < n → X j < 4294967296) : lv (fun t => X (whole + t)) (n - whole) = lv X n / 2 ^ (32 * whole) := by
  have e := lv_add X whole (n - whole)
  rw [show whole + (n - whole) = n by omega] at e
  rw [e, Nat.add_mul_div_left _ _ (Nat.pow_pos (by omega)), Nat.div_eq_of_lt (lv_lt X whole (fun j hj => hX j (by omega))), Nat.zero_add]

/-- Each limb of the number shifted right by p < 32: from the limb and its upper neighbour. -/
def shrLimb (X : Nat → Nat) (n p j : Nat) : Nat := ((X j + (if j + 1 < n then X (j + 1) else 0) * 4294967296) / 2 ^ p) % 4294967296

theorem shrLimb_lt (X : Nat → Nat) (n p j : Nat) : shrLimb X n p j < 4294967296 := Nat.mod_lt _ (by omega)

theorem hl_div (X : Nat → Nat) (n p i : Nat) (hp : p < 32) (hi : i ≤ n) (hX : ∀ j, j < n → X j < 4294967296) : hl (shrLimb X n p) i n = hl X i n / 2 ^ p := by
  obtain ⟨d, hd⟩ : ∃ d, d = n - i := ⟨_, rfl⟩
  induction d generalizing i with
  | zero =>
    have e : i = n := by omega
    subst e
    simp [hl_top]
  | succ d ih =>
    have hi' : i < n := by omega
    rw [hl_step _ i n hi', hl_step X i n hi', ih (i + 1) (by omega) (by omega)]
    have hs := pow_split p (by omega)
    have hpp : 0 < 2 ^ p := Nat.pow_pos (by omega)
    have hqp : 0 < 2 ^ (32 - p) := Nat.pow_pos (by omega)
    have hx := hX i hi'
    have hH : hl X (i + 1) n % 4294967296 = (if i + 1 < n then X (i + 1) else 0) := by
      by_cases h2 : i + 1 < n
      · rw [if_pos h2, hl_step X (i + 1) n h2]
        have := hX (i + 1) h2
        omega
      · rw [if_neg h2, show i + 1 = n by omega, hl_top]
    unfold shrLimb
    rw [← hH]
    generalize hl X (i + 1) n = H at *
    generalize X i = x at *
    -- (b * H + x) / P = b * (H / P) + ((x + (H % b) * b) / P) % b, with b = P * Q
    generalize hP : 2 ^ p = P at *
    generalize hQ : 2 ^ (32 - p) = Q at *
    have key : (4294967296 * H + x) / P = Q * H + x / P := by
      rw [← hs, Nat.mul_assoc, Nat.mul_add_div hpp]
    have key2 : (x + H % 4294967296 * 4294967296) / P = x / P + Q * (H % 4294967296) := by
      rw [Nat.mul_comm (H % 4294967296), ← hs, Nat.mul_assoc, Nat.add_comm, Nat.mul_add_div hpp, Nat.add_comm]
    rw [key, key2]
    -- Q * H + x / P = b * (H / P) + (x / P + Q * (H % b)) % b
    have hxP : x / P < Q := by
      rw [Nat.div_lt_iff_lt_mul hpp, Nat.mul_comm, hs]; exact hx
    have e1 : H = 4294967296 * (H / 4294967296) + H % 4294967296 := (Nat.div_add_mod _ _).symm
    have e2 : Q * H = 4294967296 * (H / P) + Q * (H % P) := by
      have h := Nat.div_add_mod H P
      have h2 : Q * H = Q * (P * (H / P) + H % P) := by rw [h]
      rw [h2, Nat.mul_add, ← Nat.mul_assoc, Nat.mul_comm Q P, hs]
    have e3 : (x / P + Q * (H % 4294967296)) % 4294967296 = x / P + Q * (H % P) := by
      have hm : H % 4294967296 % P = H % P := by rw [← hs]; exact Nat.mod_mul_right_mod _ _ _
      have h := Nat.div_add_mod (H % 4294967296) P
      rw [hm] at h
      have h2 : Q * (H % 4294967296) = 4294967296 * (H % 4294967296 / P) + Q * (H % P) := by
        have h3 : Q * (H % 4294967296) = Q * (P * (H % 4294967296 / P) + H % P) := by rw [h]
        rw [h3, Nat.mul_add, ← Nat.mul_assoc, Nat.mul_comm Q P, hs]
      have hlt : x / P + Q * (H % P) < 4294967296 := by
        have h4 : Q * (H % P + 1) ≤ Q * P := Nat.mul_le_mul_left _ (Nat.mod_lt _ hpp)
        rw [Nat.mul_add, Nat.mul_comm Q P, hs] at h4
        omega
      rw [h2, show x / P + (4294967296 * (H % 4294967296 / P) + Q * (H % P)) = (x / P + Q * (H % P)) + 4294967296 * (H % 4294967296 / P) by omega, Nat.add_mul_mod_self_left, Nat.mod_eq_of_lt hlt]
    rw [e2, e3]
    omega

theorem lv_shrLimb (X : Nat → Nat) (n p : Nat) (hp : p < 32) (hX : ∀ j, j < n → X j < 4294967296) : lv (shrLimb X n p) n = lv X n / 2 ^ p := by
  have := hl_div X n p 0 hp (Nat.zero_le _) hX
  rwa [hl_zero, hl_zero] at this

end Go.Proofs.YtabemlkdpgglaaaDoor

/-
  Plain mathematics: long division (the guess of a digit, taking a multiple away, giving back).
-/
namespace Go.Proofs.YtabemlkdpgglaaaDoor

/-! ### the guess -/

/-- The digit guessed from three limbs by two. -/
def guess3 (u0 u1 u2 v1 v2 : Nat) : Nat := min (((u0 * 4294967296 + u1) * 4294967296 + u2) / (v1 * 4294967296 + v2)) 4294967295

theorem guess3_le (u0 u1 u2 v1 v2 : Nat) : guess3 u0 u1 u2 v1 v2 ≤ 4294967295 := Nat.min_le_right _ _

theorem guess3_le_div (u0 u1 u2 v1 v2 : Nat) : guess3 u0 u1 u2 v1 v2 ≤ ((u0 * 4294967296 + u1) * 4294967296 + u2) / (v1 * 4294967296 + v2) := by
  unfold guess3; exact Nat.min_le_left _ _

/-- What holds at the head of the guess's loop. -/
def GuessRel (u0 u1 u2 v1 v2 g r : Nat) : Prop := g * v1 + r = u0 * 4294967296 + u1 ∧ guess3 u0 u1 u2 v1 v2 ≤ g

theorem div_top {l u v1 v2 : Nat} (h1 : 0 < v1) (hu : u < 4294967296) : (l * 4294967296 + u) / (v1 * 4294967296 + v2) ≤ l / v1 := by
  rw [Nat.le_div_iff_mul_le h1]
  have hq := Nat.div_mul_le_self (l * 4294967296 + u) (v1 * 4294967296 + v2)
  generalize (l * 4294967296 + u) / (v1 * 4294967296 + v2) = q at *
  rw [Nat.mul_add, ← Nat.mul_assoc] at hq
  omega

theorem guess_start {u0 u1 u2 v1 v2 : Nat} (h1 : 0 < v1) (hu : u2 < 4294967296) : GuessRel u0 u1 u2 v1 v2 ((u0 * 4294967296 + u1) / v1) ((u0 * 4294967296 + u1) % v1) := by
  have a := guess3_le_div u0 u1 u2 v1 v2
  have b := div_top (l := u0 * 4294967296 + u1) (v2 := v2) h1 hu
  have c := Nat.div_add_mod (u0 * 4294967296 + u1) v1
  rw [Nat.mul_comm] at c
  exact ⟨c, Nat.le_trans a b⟩

/-- The test that a guess fits: three limbs by two. -/
theorem guess_fits {u0 u1 u2 v1 v2 g r : Nat} (h : g * v1 + r = u0 * 4294967296 + u1) (hv : 0 < v1) (hm : g ≤ 4294967295) (ht : g * v2 ≤ r * 4294967296 + u2) : g ≤ guess3 u0 u1 u2 v1 v2 := by
  refine Nat.le_min.2 ⟨?_, hm⟩
  rw [Nat.le_div_iff_mul_le (by omega), ← h, Nat.mul_add, ← Nat.mul_assoc]
  omega

theorem over_mul {g v1 v2 r u : Nat} (ht : r * 4294967296 + u < g * v2) : (g * v1 + r) * 4294967296 + u < g * (v1 * 4294967296 + v2) := by
  have e : g * (v1 * 4294967296 + v2) = g * v1 * 4294967296 + g * v2 := by rw [Nat.mul_add g, ← Nat.mul_assoc g]
  rw [e, Nat.add_mul (g * v1) r, Nat.add_assoc]
  exact Nat.add_lt_add_left ht _

theorem guess_over {u0 u1 u2 v1 v2 g r : Nat} (h : g * v1 + r = u0 * 4294967296 + u1) (ht : 4294967295 < g ∨ r * 4294967296 + u2 < g * v2) : guess3 u0 u1 u2 v1 v2 < g := by
  rcases ht with ht | ht
  · have := guess3_le u0 u1 u2 v1 v2; omega
  · have a := guess3_le_div u0 u1 u2 v1 v2
    rw [← h] at a
    have hpos : 0 < v1 * 4294967296 + v2 := by
      by_cases h0 : v2 = 0
      · subst h0; simp at ht
      · omega
    exact Nat.lt_of_le_of_lt a ((Nat.div_lt_iff_lt_mul hpos).2 (over_mul ht))

theorem guess_down {u0 u1 u2 v1 v2 g r : Nat} (h : GuessRel u0 u1 u2 v1 v2 g r) (ht : 4294967295 < g ∨ r * 4294967296 + u2 < g * v2) : 1 ≤ g ∧ GuessRel u0 u1 u2 v1 v2 (g - 1) (r + v1) := by
  have := guess_over h.1 ht
  refine ⟨by omega, ?_, by omega⟩
  have h1 := h.1
  obtain ⟨g', rfl⟩ : ∃ g', g = g' + 1 := ⟨g - 1, by omega⟩
  rw [Nat.add_mul] at h1
  simp only [Nat.add_sub_cancel]
  omega

theorem guess_stop {u0 u1 u2 v1 v2 g r : Nat} (h : GuessRel u0 u1 u2 v1 v2 g r) (hv : 0 < v1) (hm : g ≤ 4294967295) (ht : g * v2 ≤ r * 4294967296 + u2) : g = guess3 u0 u1 u2 v1 v2 :=
  Nat.le_antisymm (guess_fits h.1 hv hm ht) h.2

theorem guess_break {u0 u1 u2 v1 v2 g r : Nat} (h : GuessRel u0 u1 u2 v1 v2 g r) (hv : 0 < v1) (hv2 : v2 < 4294967296) (hu0 : u0 ≤ v1) (hu1 : u1 < 4294967296) (hr : 4294967295 < r) : g ≤ 4294967295 ∧ g = guess3 u0 u1 u2 v1 v2 := by
  have hm : g ≤ 4294967295 := by
    by_cases e : g ≤ 4294967295
    · exact e
    · have h1 := h.1
      have h2 : 4294967296 * v1 ≤ g * v1 := Nat.mul_le_mul_right _ (by omega)
      omega
  refine ⟨hm, guess_stop h hv hm ?_⟩
  have h3 : g * v2 ≤ 4294967295 * 4294967295 := Nat.mul_le_mul hm (by omega)
  omega

theorem guess_small {u0 u1 u2 v1 v2 g r : Nat} (h : GuessRel u0 u1 u2 v1 v2 g r) (hv : 2147483648 ≤ v1) (hu0 : u0 ≤ v1) (hu1 : u1 < 4294967296) : g ≤ 8589934592 := by
  have h1 := h.1
  by_cases e : g ≤ 8589934592
  · exact e
  · have h2 : 8589934593 * v1 ≤ g * v1 := Nat.mul_le_mul_right _ (by omega)
    omega

/-! ### the guess against the true digit -/

/-- U: the window's value; D: the divisor's; their top limbs as the guess takes them, P below. The guess is the digit or one more. -/
theorem guess_true {U D U3 D2 P g : Nat} (hP : 0 < P) (hU : U3 * P ≤ U ∧ U < (U3 + 1) * P) (hD : D2 * P ≤ D ∧ D < (D2 + 1) * P) (hDb : 4294967296 ≤ D2) (hlt : U < D * 4294967296)
    (hg : g = min (U3 / D2) 4294967295) : U / D ≤ g ∧ g ≤ U / D + 1 := by
  have hD0 : 0 < D := by
    have : 1 * P ≤ D2 * P := Nat.mul_le_mul_right _ (by omega)
    omega
  have hq := Nat.div_mul_le_self U D
  have hq2 : U < (U / D + 1) * D := by
    have := Nat.lt_div_mul_add hD0 (a := U)
    rw [Nat.add_mul, Nat.one_mul]; exact this
  have hqb : U / D < 4294967296 := by rw [Nat.div_lt_iff_lt_mul hD0, Nat.mul_comm]; exact hlt
  generalize U / D = q at *
  constructor
  · rw [hg]
    refine Nat.le_min.2 ⟨?_, by omega⟩
    rw [Nat.le_div_iff_mul_le (by omega)]
    have h1 : q * D2 * P ≤ q * D := by rw [Nat.mul_assoc]; exact Nat.mul_le_mul_left _ hD.1
    have h2 : q * D2 * P < (U3 + 1) * P := by omega
    have := Nat.lt_of_mul_lt_mul_right h2
    omega
  · by_cases hgt : g ≤ q + 1
    · exact hgt
    · exfalso
      have hgm : g ≤ 4294967295 := by rw [hg]; exact Nat.min_le_right _ _
      have hgd : g * D2 ≤ U3 := by
        have h1 : g ≤ U3 / D2 := by rw [hg]; exact Nat.min_le_left _ _
        exact Nat.le_trans (Nat.mul_le_mul_right _ h1) (Nat.div_mul_le_self _ _)
      -- g * D2 * P ≤ U < (q + 1) * D ≤ (g - 1) * D < (g - 1) * (D2 + 1) * P
      have a1 : g * D2 * P ≤ U3 * P := Nat.mul_le_mul_right _ hgd
      obtain ⟨k, hk⟩ : ∃ k, g = k + 1 := ⟨g - 1, by omega⟩
      have a2 : (q + 1) * D ≤ k * D := Nat.mul_le_mul_right _ (by omega)
      have a3 : k * D ≤ k * ((D2 + 1) * P) := Nat.mul_le_mul_left _ (Nat.le_of_lt hD.2)
      rw [← Nat.mul_assoc] at a3
      have a4 : g * D2 * P < k * (D2 + 1) * P := by omega
      have a5 := Nat.lt_of_mul_lt_mul_right a4
      rw [hk, Nat.add_mul, Nat.mul_add, Nat.mul_one, Nat.one_mul] at a5
      omega

/-! ### taking a multiple away -/

/-- W0, W: the dividend's limbs ahead and now; the window begins at p; i limbs of the divisor Y have been taken, g times. -/
def TakeRel (W0 W Y : Nat → Nat) (g p i owed : Nat) : Prop :=
  lv (fun t => W (p + t)) i + g * lv Y i = lv (fun t => W0 (p + t)) i + owed * 2 ^ (32 * i) ∧ owed ≤ 4294967295 ∧ (∀ k, k < p ∨ p + i ≤ k → W k = W0 k) ∧ ∀ k, W k < 4294967296

theorem take_start {W : Nat → Nat} (hW : ∀ k, W k < 4294967296) (Y : Nat → Nat) (g p : Nat) : TakeRel W W Y g p 0 0 := ⟨by simp [lv], by omega, fun _ _ => rfl, hW⟩

/-- One limb: product = g * y + owed; the low half is taken, wrapping; what is owed next. -/
theorem take_step {W0 W Y : Nat → Nat} {g p i owed m x : Nat} (h : TakeRel W0 W Y g p i owed) (hg : g ≤ 4294967295) (hy : Y i < 4294967296) (hm : m = g * Y i + owed) (hx : W (p + i) = x) :
    m < 18446744073709551616 ∧
    TakeRel W0 (upd W (p + i) ((x + 4294967296 - m % 4294967296) % 4294967296)) Y g p (i + 1) (m / 4294967296 + if x < m % 4294967296 then 1 else 0) := by
  obtain ⟨h1, h2, h3, h4⟩ := h
  have hxl : x < 4294967296 := by rw [← hx]; exact h4 _
  have hgy : g * Y i ≤ 4294967295 * 4294967295 := Nat.mul_le_mul hg (by omega)
  have hx0 : W0 (p + i) = x := by rw [← hx]; exact (h3 (p + i) (Or.inr (Nat.le_refl _))).symm
  refine ⟨by omega, ?_, ?_, fun k hk => ?_, fun k => ?_⟩
  · have hc : lv (fun t => upd W (p + i) ((x + 4294967296 - m % 4294967296) % 4294967296) (p + t)) i = lv (fun t => W (p + t)) i := lv_congr (fun k hk => upd_other _ _ _ _ (by omega))
    simp only [lv, upd_same, hc, hx0]
    rw [Nat.mul_add, pow32, ← Nat.mul_assoc g]
    have hgm : g * Y i = m - owed := by omega
    have hom : owed ≤ m := by omega
    generalize 2 ^ (32 * i) = P at *
    generalize hs : (x + 4294967296 - m % 4294967296) % 4294967296 = s
    have e : s + m = x + (m / 4294967296 + if x < m % 4294967296 then 1 else 0) * 4294967296 := by
      split <;> omega
    have e2 : s * P + m * P = x * P + (m / 4294967296 + if x < m % 4294967296 then 1 else 0) * (4294967296 * P) := by
      rw [← Nat.mul_assoc, ← Nat.add_mul, ← Nat.add_mul, e]
    have e3 : g * Y i * P + owed * P = m * P := by rw [← Nat.add_mul, ← hm]
    omega
  · split <;> omega
  · rw [upd_other _ _ _ _ (by omega)]; exact h3 k (by omega)
  · by_cases e : k = p + i
    · subst e; rw [upd_same]; omega
    · rw [upd_other _ _ _ _ e]; exact h4 k

/-- The top limb: what is owed is taken from it. -/
theorem take_end {W0 W Y : Nat → Nat} {g p n owed x : Nat} (h : TakeRel W0 W Y g p n owed) (hx : W (p + n) = x) :
    lv (fun t => upd W (p + n) ((x + 4294967296 - owed) % 4294967296) (p + t)) (n + 1) + g * lv Y n = lv (fun t => W0 (p + t)) (n + 1) + (if x < owed then 1 else 0) * 2 ^ (32 * (n + 1)) ∧
    (∀ k, k < p ∨ p + n + 1 ≤ k → upd W (p + n) ((x + 4294967296 - owed) % 4294967296) k = W0 k) ∧ ∀ k, upd W (p + n) ((x + 4294967296 - owed) % 4294967296) k < 4294967296 := by
  obtain ⟨h1, h2, h3, h4⟩ := h
  have hxl : x < 4294967296 := by rw [← hx]; exact h4 _
  have hx0 : W0 (p + n) = x := by rw [← hx]; exact (h3 (p + n) (Or.inr (Nat.le_refl _))).symm
  refine ⟨?_, fun k hk => ?_, fun k => ?_⟩
  · have hc : lv (fun t => upd W (p + n) ((x + 4294967296 - owed) % 4294967296) (p + t)) n = lv (fun t => W (p + t)) n := lv_congr (fun k hk => upd_other _ _ _ _ (by omega))
    simp only [lv, upd_same, hc, hx0]
    rw [pow32]
    generalize 2 ^ (32 * n) = P at *
    generalize hs : (x + 4294967296 - owed) % 4294967296 = s
    have e : s + owed = x + (if x < owed then 1 else 0) * 4294967296 := by split <;> omega
    have e2 : s * P + owed * P = x * P + (if x < owed then 1 else 0) * (4294967296 * P) := by
      rw [← Nat.mul_assoc, ← Nat.add_mul, ← Nat.add_mul, e]
    omega
  · rw [upd_other _ _ _ _ (by omega)]; exact h3 k (by omega)
  · by_cases e : k = p + n
    · subst e; rw [upd_same]; omega
    · rw [upd_other _ _ _ _ e]; exact h4 k

/-! ### giving back -/

def GiveRel (W0 W Y : Nat → Nat) (p i c : Nat) : Prop :=
  lv (fun t => W (p + t)) i + c * 2 ^ (32 * i) = lv (fun t => W0 (p + t)) i + lv Y i ∧ c ≤ 1 ∧ (∀ k, k < p ∨ p + i ≤ k → W k = W0 k) ∧ ∀ k, W k < 4294967296

theorem give_start {W : Nat → Nat} (hW : ∀ k, W k < 4294967296) (Y : Nat → Nat) (p : Nat) : GiveRel W W Y p 0 0 := ⟨by simp [lv], by omega, fun _ _ => rfl, hW⟩

theorem give_step {W0 W Y : Nat → Nat} {p i c s x : Nat} (h : GiveRel W0 W Y p i c) (hy : Y i < 4294967296) (hx : W (p + i) = x) (hs : s = x + Y i + c) :
    GiveRel W0 (upd W (p + i) (s % 4294967296)) Y p (i + 1) (s / 4294967296) := by
  obtain ⟨h1, h2, h3, h4⟩ := h
  have hxl : x < 4294967296 := by rw [← hx]; exact h4 _
  have hx0 : W0 (p + i) = x := by rw [← hx]; exact (h3 (p + i) (Or.inr (Nat.le_refl _))).symm
  refine ⟨?_, by omega, fun k hk => ?_, fun k => ?_⟩
  · have hc : lv (fun t => upd W (p + i) (s % 4294967296) (p + t)) i = lv (fun t => W (p + t)) i := lv_congr (fun k hk => upd_other _ _ _ _ (by omega))
    simp only [lv, upd_same, hc, hx0]
    rw [pow32]
    generalize 2 ^ (32 * i) = P at *
    have e2 : s % 4294967296 * P + s / 4294967296 * (4294967296 * P) = x * P + Y i * P + c * P := by
      rw [← Nat.mul_assoc, ← Nat.add_mul, ← Nat.add_mul, ← Nat.add_mul]; congr 1; omega
    omega
  · rw [upd_other _ _ _ _ (by omega)]; exact h3 k (by omega)
  · by_cases e : k = p + i
    · subst e; rw [upd_same]; omega
    · rw [upd_other _ _ _ _ e]; exact h4 k

theorem give_end {W0 W Y : Nat → Nat} {p n c x : Nat} (h : GiveRel W0 W Y p n c) (hx : W (p + n) = x) :
    lv (fun t => upd W (p + n) ((x + c) % 4294967296) (p + t)) (n + 1) + (x + c) / 4294967296 * 2 ^ (32 * (n + 1)) = lv (fun t => W0 (p + t)) (n + 1) + lv Y n ∧
    (∀ k, k < p ∨ p + n + 1 ≤ k → upd W (p + n) ((x + c) % 4294967296) k = W0 k) ∧ (∀ k, upd W (p + n) ((x + c) % 4294967296) k < 4294967296) ∧ (x + c) / 4294967296 ≤ 1 := by
  obtain ⟨h1, h2, h3, h4⟩ := h
  have hxl : x < 4294967296 := by rw [← hx]; exact h4 _
  have hx0 : W0 (p + n) = x := by rw [← hx]; exact (h3 (p + n) (Or.inr (Nat.le_refl _))).symm
  refine ⟨?_, fun k hk => ?_, fun k => ?_, by omega⟩
  · have hc : lv (fun t => upd W (p + n) ((x + c) % 4294967296) (p + t)) n = lv (fun t => W (p + t)) n := lv_congr (fun k hk => upd_other _ _ _ _ (by omega))
    simp only [lv, upd_same, hc, hx0]
    rw [pow32]
    generalize 2 ^ (32 * n) = P at *
    have e2 : (x + c) % 4294967296 * P + (x + c) / 4294967296 * (4294967296 * P) = x * P + c * P := by
      rw [← Nat.mul_assoc, ← Nat.add_mul, ← Nat.add_mul]; congr 1; omega
    omega
  · rw [upd_other _ _ _ _ (by omega)]; exact h3 k (by omega)
  · by_cases e : k = p + n
    · subst e; rw [upd_same]; omega
    · rw [upd_other _ _ _ _ e]; exact h4 k

end Go.Proofs.YtabemlkdpgglaaaDoor

namespace Go.Proofs.YtabemlkdpgglaaaDoor
open Go.RowKit

theorem and_low (m : Nat) (h : m < 18446744073709551616) : bits .and .u64 (m : Int) 4294967295 = ((m % 4294967296 : Nat) : Int) := by
  have := u64_and_nat m 4294967295 h (by omega)
  rw [show (4294967295 : Nat) = 2 ^ 32 - 1 by rfl, Nat.and_two_pow_sub_one_eq_mod] at this
  exact this

theorem sub_wrap (x lo : Nat) (hx : x < 4294967296) (hl : lo < 4294967296) (h : x < lo) : IntKind.u64.wrap ((x : Int) - (lo : Int)) = ((18446744073709551616 + x - lo : Nat) : Int) := by
  rw [IntKind.wrap_u64]; omega

theorem ret_bool {a b : Bool} (h : a = b) : Ending.returned (.bool a) = .returned (.bool b) := by rw [h]

set_option maxHeartbeats 3200000 in
set_option maxRecDepth 100000 in
theorem takeTimes_any (c o b nn cap b' dl cap' g p : Nat) (W Y : Nat → Nat) (w : World) (hnn : nn ≤ 16777216) (hg : g ≤ 4294967295) (hat : p + dl < nn)
    (hc0 : w.cell? ⟨c, o, none⟩ = some (.slice (some ⟨b, 0, none⟩) nn cap)) (hf : ∀ o, w.frozen? ⟨b, o, none⟩ = false) (hcb : c ≠ b) (hbb : b' ≠ b)
    (hW : Limbs w (some ⟨b, 0, none⟩) b 0 nn W) (hY : Limbs w (some ⟨b', 0, none⟩) b' 0 dl Y) (hWl : ∀ k, W k < 4294967296) (hYl : ∀ j, j < dl → Y j < 4294967296) :
    Calls Tryd.prog 125 #[.pointer (some ⟨c, o, none⟩), .slice (some ⟨b', 0, none⟩) dl cap', .int .u32 g, .int .i64 p] w fun e w' => ∃ (W' : Nat → Nat) (bo : Bool), e = .returned (.bool bo) ∧ Marked w w' b ∧ Limbs w' (some ⟨b, 0, none⟩) b 0 nn W' ∧
      lv (fun t => W' (p + t)) (dl + 1) + g * lv Y dl = lv (fun t => W (p + t)) (dl + 1) + bo.toNat * 2 ^ (32 * (dl + 1)) ∧ (∀ k, k < p ∨ p + dl + 1 ≤ k → W' k = W k) ∧ ∀ k, W' k < 4294967296 := by
  have HY := hide hYl
  have HW := hide hWl
  clear hYl hWl
  go_enter Tryd.func125, Tryd.ntmps125
  go_wp2
  go_loopw [9, 17] (fun q t wr => ∃ (i ow : Nat) (V : Nat → Nat), i ≤ dl ∧ t = .int .i64 i ∧ q = .int .u64 ow ∧ ow ≤ 4294967295 ∧ Marked w wr b ∧ Limbs wr (some ⟨b, 0, none⟩) b 0 nn V ∧ Hid (TakeRel W V Y g p i ow)) (fun _ t _ => dl - (intOf t).toNat)
  case atStart => exact ⟨0, 0, W, Nat.zero_le _, rfl, rfl, by omega, Marked.refl _ _, hW, take_start HW.out Y g p⟩
  case round =>
    obtain ⟨i, ow, V, hi, rfl, rfl, how, hs, hV, HR⟩ := hrel
    have q0 : wr.cell? ⟨c, o, none⟩ = some (.slice (some ⟨b, 0, none⟩) nn cap) := by rw [hs.cell (a := ⟨c, o, none⟩) hcb]; exact hc0
    by_cases hlt : i < dl
    · have g0 : wr.cell? ⟨b', i, none⟩ = some (.int .u32 (Y i)) := by rw [hs.cell (a := ⟨b', i, none⟩) hbb]; simpa using (hY i hlt).2
      have g1 : wr.cell? ⟨b, p + i, none⟩ = some (.int .u32 (V (p + i))) := by simpa using (hV (p + i) (by omega)).2
      have g2 : wr.frozen? ⟨b, p + i, none⟩ = false := by rw [hs.frozen]; exact hf _
      have hy := HY.out i hlt
      have hx := HR.out.2.2.2 (p + i)
      obtain ⟨hml, hst⟩ := take_step HR.out hg hy rfl rfl
      have HS := hide hst
      clear hst
      obtain ⟨y, ey⟩ : ∃ y, y = Y i := ⟨_, rfl⟩
      obtain ⟨x, ex⟩ : ∃ y, y = V (p + i) := ⟨_, rfl⟩
      rw [← ey] at g0 hy hml HS
      rw [← ex] at g1 hx HS
      clear ey ex
      obtain ⟨m, em⟩ : ∃ m, m = g * y + ow := ⟨_, rfl⟩
      rw [← em] at hml HS
      have mi : (g : Int) * (y : Int) + (ow : Int) = (m : Int) := by rw [em]; simp
      have mi0 : (0 : Int) ≤ (g : Int) * (y : Int) := by rw [← Int.natCast_mul]; omega
      have hml2 : (m : Int) ≤ 18446744073709551615 := by omega
      have han := and_low m hml
      obtain ⟨lo, elo⟩ : ∃ lo, lo = m % 4294967296 := ⟨_, rfl⟩
      rw [← elo] at han HS
      have hlo : lo < 4294967296 := by omega
      clear em elo
      by_cases hb : x < lo
      · have hsw := sub_wrap x lo hx hlo hb
        obtain ⟨dd, edd⟩ : ∃ dd, dd = 18446744073709551616 + x - lo := ⟨_, rfl⟩
        rw [← edd] at hsw
        have hdd : dd ≤ 18446744073709551615 := by omega
        have HE := hide edd
        clear edd
        go_wp2
        go_roundw
        case rel =>
          go_light
          have HS := HS.out
          rw [if_pos hb] at HS
          rw [show (dd : Int) % 4294967296 = (((x + 4294967296 - lo) % 4294967296 : Nat) : Int) from by have := HE.out; omega]
          exact ⟨i + 1, m / 4294967296 + 1, _, by omega, by go_num, congrArg (Value.int .u64) (by have := HE.out; omega), HS.2.1, hs.setCell _ _, hV.put _, HS⟩
        case measure => simp [intOf]; omega
      · go_wp2
        go_roundw
        case rel =>
          go_light
          have HS := HS.out
          rw [if_neg hb] at HS
          rw [show (x : Int) - (lo : Int) = (((x + 4294967296 - lo) % 4294967296 : Nat) : Int) from by omega]
          exact ⟨i + 1, m / 4294967296 + 0, _, by omega, by go_num, congrArg (Value.int .u64) (by omega), HS.2.1, hs.setCell _ _, hV.put _, HS⟩
        case measure => simp [intOf]; omega
    · have e : i = dl := by omega
      subst e
      have g1 : wr.cell? ⟨b, p + i, none⟩ = some (.int .u32 (V (p + i))) := by simpa using (hV (p + i) (by omega)).2
      have g2 : wr.frozen? ⟨b, p + i, none⟩ = false := by rw [hs.frozen]; exact hf _
      have hx := HR.out.2.2.2 (p + i)
      have HS := hide (take_end HR.out rfl)
      obtain ⟨x, ex⟩ : ∃ y, y = V (p + i) := ⟨_, rfl⟩
      rw [← ex] at g1 hx HS
      clear ex
      by_cases hb : x < ow
      · have hsw := sub_wrap x ow hx (by omega) hb
        obtain ⟨dd, edd⟩ : ∃ dd, dd = 18446744073709551616 + x - ow := ⟨_, rfl⟩
        rw [← edd] at hsw
        have hdd : dd ≤ 18446744073709551615 := by omega
        have hdg : 9223372036854775808 ≤ dd := by omega
        have HE := hide edd
        clear edd
        go_wp2
        go_ret
        go_light
        have HS := HS.out
        rw [if_pos hb] at HS
        rw [show (dd : Int) % 4294967296 = (((x + 4294967296 - ow) % 4294967296 : Nat) : Int) from by have := HE.out; omega]
        refine ⟨_, true, ?_, hs.setCell _ _, hV.put _, HS.1, HS.2.1, HS.2.2⟩
        exact ret_bool (by simp only [bne_iff_ne]; omega)
      · go_wp2
        go_ret
        go_light
        have HS := HS.out
        rw [if_neg hb] at HS
        rw [show (x : Int) - (ow : Int) = (((x + 4294967296 - ow) % 4294967296 : Nat) : Int) from by omega]
        refine ⟨_, false, ?_, hs.setCell _ _, hV.put _, HS.1, HS.2.1, HS.2.2⟩
        exact ret_bool (by simp only [bne_eq_false_iff_eq]; omega)

set_option maxHeartbeats 3200000 in
set_option maxRecDepth 100000 in
theorem giveBack_any (c o b nn cap b' dl cap' p : Nat) (W Y : Nat → Nat) (w : World) (hnn : nn ≤ 16777216) (hat : p + dl < nn)
    (hc0 : w.cell? ⟨c, o, none⟩ = some (.slice (some ⟨b, 0, none⟩) nn cap)) (hf : ∀ o, w.frozen? ⟨b, o, none⟩ = false) (hcb : c ≠ b) (hbb : b' ≠ b)
    (hW : Limbs w (some ⟨b, 0, none⟩) b 0 nn W) (hY : Limbs w (some ⟨b', 0, none⟩) b' 0 dl Y) (hWl : ∀ k, W k < 4294967296) (hYl : ∀ j, j < dl → Y j < 4294967296) :
    Calls Tryd.prog 126 #[.pointer (some ⟨c, o, none⟩), .slice (some ⟨b', 0, none⟩) dl cap', .int .i64 p] w fun e w' => ∃ (W' : Nat → Nat) (cy : Nat), e = .returned (.tuple #[]) ∧ Marked w w' b ∧ Limbs w' (some ⟨b, 0, none⟩) b 0 nn W' ∧
      lv (fun t => W' (p + t)) (dl + 1) + cy * 2 ^ (32 * (dl + 1)) = lv (fun t => W (p + t)) (dl + 1) + lv Y dl ∧ (∀ k, k < p ∨ p + dl + 1 ≤ k → W' k = W k) ∧ (∀ k, W' k < 4294967296) ∧ cy ≤ 1 := by
  have HY := hide hYl
  have HW := hide hWl
  clear hYl hWl
  go_enter Tryd.func126, Tryd.ntmps126
  go_wp2
  go_loopw [6, 12] (fun q t wr => ∃ (i cy : Nat) (V : Nat → Nat), i ≤ dl ∧ t = .int .i64 i ∧ q = .int .u64 cy ∧ cy ≤ 1 ∧ Marked w wr b ∧ Limbs wr (some ⟨b, 0, none⟩) b 0 nn V ∧ Hid (GiveRel W V Y p i cy)) (fun _ t _ => dl - (intOf t).toNat)
  case atStart => exact ⟨0, 0, W, Nat.zero_le _, rfl, rfl, by omega, Marked.refl _ _, hW, give_start HW.out Y p⟩
  case round =>
    obtain ⟨i, cy, V, hi, rfl, rfl, how, hs, hV, HR⟩ := hrel
    have q0 : wr.cell? ⟨c, o, none⟩ = some (.slice (some ⟨b, 0, none⟩) nn cap) := by rw [hs.cell (a := ⟨c, o, none⟩) hcb]; exact hc0
    by_cases hlt : i < dl
    · have g0 : wr.cell? ⟨b', i, none⟩ = some (.int .u32 (Y i)) := by rw [hs.cell (a := ⟨b', i, none⟩) hbb]; simpa using (hY i hlt).2
      have g1 : wr.cell? ⟨b, p + i, none⟩ = some (.int .u32 (V (p + i))) := by simpa using (hV (p + i) (by omega)).2
      have g2 : wr.frozen? ⟨b, p + i, none⟩ = false := by rw [hs.frozen]; exact hf _
      have hy := HY.out i hlt
      have hx := HR.out.2.2.2 (p + i)
      have HS := hide (give_step HR.out hy rfl rfl)
      obtain ⟨y, ey⟩ : ∃ y, y = Y i := ⟨_, rfl⟩
      obtain ⟨x, ex⟩ : ∃ y, y = V (p + i) := ⟨_, rfl⟩
      rw [← ey] at g0 hy HS
      rw [← ex] at g1 hx HS
      clear ey ex
      go_wp2
      go_roundw
      case rel =>
        go_light
        have HS := HS.out
        rw [show ((x : Int) + (y : Int) + (cy : Int)) % 4294967296 = (((x + y + cy) % 4294967296 : Nat) : Int) from by omega]
        exact ⟨i + 1, (x + y + cy) / 4294967296, _, by omega, by go_num, congrArg (Value.int .u64) (by omega), HS.2.1, hs.setCell _ _, hV.put _, HS⟩
      case measure => simp [intOf]; omega
    · have e : i = dl := by omega
      subst e
      have g1 : wr.cell? ⟨b, p + i, none⟩ = some (.int .u32 (V (p + i))) := by simpa using (hV (p + i) (by omega)).2
      have g2 : wr.frozen? ⟨b, p + i, none⟩ = false := by rw [hs.frozen]; exact hf _
      have hx := HR.out.2.2.2 (p + i)
      have HS := hide (give_end HR.out rfl)
      obtain ⟨x, ex⟩ : ∃ y, y = V (p + i) := ⟨_, rfl⟩
      rw [← ex] at g1 hx HS
      clear ex
      go_wp2
      go_end0
      go_light
      have HS := HS.out
      rw [show ((x : Int) + (cy : Int)) % 4294967296 = (((x + cy) % 4294967296 : Nat) : Int) from by omega]
      exact ⟨_, (x + cy) / 4294967296, rfl, hs.setCell _ _, hV.put _, HS.1, HS.2.1, HS.2.2.1, HS.2.2.2⟩

end Go.Proofs.YtabemlkdpgglaaaDoor
