/- Words, Item, Bel, Tally, Hashes, WireSum, Unframe, Known3, Law3T, StepApp, CoinPack: in one text. -/
import Derived.Test.YtjibbnknliamkaaGreatDoorProg
import Derived.WalkKit
import Derived.ProofKit
import Derived.OpenShut
import Derived.ChangeSlices
import Derived.Deep.AppendSrc
import Derived.Laws.BitsAllLaws
import Derived.Lib.BitFns
import Derived.Lib.ItoaNum
import Derived.Laws.BytesArg
import Derived.Handy
import Derived.Lib.Hide
import Derived.Lib.Strings
import Derived.Below
import Derived.Shelf.Small.Bits
import Derived.Shelf.Strconv.Itoa0
import Derived.Shelf.Bits.Mul64
import Derived.Shelf.Spec.TrailingZeros
import Derived.Deep.RegionLaw
import Derived.Deep.QuietTactic
import Derived.BigQuiet
import Derived.Lib.SlBytesConst
import Derived.Deep.RegionWith
namespace Go.Proofs.YtjibbnknliamkaaGreatDoor
open Go.RowKit
set_option linter.unusedVariables false
set_option linter.unusedSimpArgs false
/-- n, or 0 where n is negative. -/
def nat0 (n : Int) : Int := max n 0
/-- x limited to m; and whether it had to be. -/
def satN (x m : Int) : Int := if m < x then m else x
def satF (x m : Int) : Bool := decide (m < x)
theorem nat0_bd (n : Int) (h : n ≤ 9223372036854775807) : 0 ≤ nat0 n ∧ nat0 n ≤ 9223372036854775807 := by unfold nat0; omega
theorem ret_int {k : IntKind} {a b : Int} (h : a = b) : Ending.returned (.int k a) = .returned (.int k b) := by rw [h]
theorem ret_bool {a b : Bool} (h : a = b) : Ending.returned (.bool a) = .returned (.bool b) := by rw [h]
open Go.RowKit Go.ChangeShapes Go.WideShapes
theorem i64_mask (k : Nat) (hk : k < 63) (n : Int) : bits .and .i64 n ((2 ^ k - 1 : Nat) : Int) = n % ((2 ^ k : Nat) : Int) := by
  have hp : 2 ^ k ≤ 2 ^ 62 := Nat.pow_le_pow_right (by decide) (by omega)
  have h62 : (2 : Nat) ^ 62 = 4611686018427387904 := by decide
  have hpos : 0 < 2 ^ k := Nat.two_pow_pos k
  have hm : (BitVec.ofInt 64 ((2 ^ k - 1 : Nat) : Int)).toNat = 2 ^ k - 1 := by
    rw [BitVec.ofInt_natCast, BitVec.toNat_ofNat]; exact Nat.mod_eq_of_lt (by omega)
  have key : (BitVec.ofInt 64 n &&& BitVec.ofInt 64 ((2 ^ k - 1 : Nat) : Int)).toNat = (n % ((2 ^ 64 : Nat) : Int)).toNat % 2 ^ k := by
    rw [BitVec.toNat_and, BitVec.toNat_ofInt, hm, Nat.and_two_pow_sub_one_eq_mod]
  have hdvd : (((2 ^ k : Nat) : Int)) ∣ ((2 ^ 64 : Nat) : Int) := Int.natCast_dvd_natCast.2 (Nat.pow_dvd_pow 2 (by omega))
  have hemod := Int.emod_emod_of_dvd n hdvd
  have h0 : 0 ≤ n % ((2 ^ 64 : Nat) : Int) := Int.emod_nonneg n (by decide)
  have hl : n % ((2 ^ k : Nat) : Int) < ((2 ^ k : Nat) : Int) := Int.emod_lt_of_pos n (by omega)
  have hn : 0 ≤ n % ((2 ^ k : Nat) : Int) := Int.emod_nonneg n (by omega)
  show IntKind.i64.wrap ((BitVec.ofInt 64 n &&& BitVec.ofInt 64 ((2 ^ k - 1 : Nat) : Int)).toNat : Int) = n % ((2 ^ k : Nat) : Int)
  rw [key, Int.natCast_emod, Int.toNat_of_nonneg h0, hemod, IntKind.wrap_i64]
  omega
section
variable {P : Program} (w : World)
end
/-- Each is a byte. -/
def Byt (L : List Int) : Prop := ∀ n ∈ L, 0 ≤ n ∧ n ≤ 255
theorem Byt.nil : Byt [] := fun _ h => by cases h
theorem Byt.cons {c : Int} {L : List Int} (h0 : 0 ≤ c ∧ c ≤ 255) (h : Byt L) : Byt (c :: L) := fun n hn => by
  rcases List.mem_cons.1 hn with rfl | hn
  · exact h0
  · exact h n hn
theorem Byt.take {L : List Int} (h : Byt L) (k : Nat) : Byt (L.take k) := fun n hn => h n (List.mem_of_mem_take hn)
theorem Byt.drop {L : List Int} (h : Byt L) (k : Nat) : Byt (L.drop k) := fun n hn => h n (List.mem_of_mem_drop hn)
theorem Byt.at_ {L : List Int} (h : Byt L) (k : Nat) : 0 ≤ L.getD k 0 ∧ L.getD k 0 ≤ 255 := by
  by_cases hk : k < L.length
  · have : L.getD k 0 = L[k] := by simp [List.getD, hk]
    rw [this]
    exact h _ (List.getElem_mem hk)
  · have : L.getD k 0 = 0 := by simp [List.getD, List.getElem?_eq_none (show L.length ≤ k by omega)]
    rw [this]; omega
/-- The number of bytes of a number. -/
def nb (x : Nat) : Nat := (Lib.bitLen x + 7) / 8
def cells8 (L : List Int) : List Value := L.map (Value.int .u8)
theorem cells8_len (L : List Int) : (cells8 L).length = L.length := by simp [cells8]
theorem cells8_at {L : List Int} {j : Nat} (h : j < L.length) : (cells8 L)[j]? = some (.int .u8 (L.getD j 0)) := by simp [cells8, List.getD, h]
/-- A slice of bytes of the call's own. -/
def Own (B : Nat) (L : List Int) (v : Value) (w : World) : Prop := Byt L ∧ w.ownsRow B 5 1 v L.length (cells8 L)
/-- A slice of bytes that can be read. -/
def Rd (L : List Int) (v : Value) (w : World) : Prop :=
  Byt L ∧ ∃ a cap, v = .slice a L.length cap ∧ L.length ≤ cap ∧ cap ≤ maxLen ∧ (0 < L.length → ∃ b off, a = some ⟨b, off, none⟩ ∧ b < w.heap.size ∧ ∀ j, j < L.length → w.cell? ⟨b, off + j, none⟩ = some (.int .u8 (L.getD j 0)))
theorem Rd.below {L : List Int} {v : Value} {w w' : World} (h : Rd L v w) (hb : Below w.heap.size w w') : Rd L v w' := by
  obtain ⟨hy, a, cap, rfl, h1, h2, h3⟩ := h
  refine ⟨hy, a, cap, rfl, h1, h2, fun hp => ?_⟩
  obtain ⟨b, off, rfl, hlt, hc⟩ := h3 hp
  exact ⟨b, off, rfl, Nat.lt_of_lt_of_le hlt hb.size, fun j hj => (hb.cell (p := ⟨b, off + j, none⟩) hlt).trans (hc j hj)⟩
theorem Own.rd {B : Nat} {L : List Int} {v : Value} {w : World} (h : Own B L v w) : Rd L v w := by
  obtain ⟨hy, ho⟩ := h
  have hl := World.ownsRow.lt ho
  refine ⟨hy, ?_⟩
  rcases ho.2 with ⟨rfl, hn⟩ | ⟨g, cap, cur, rfl, hb, _, h1, h2, _⟩
  · exact ⟨none, 0, by rw [hn], by omega, by simp [maxLen], fun hp => by omega⟩
  · exact ⟨some ⟨g, 0, none⟩, cap, rfl, h1, h2, fun hp => ⟨g, 0, rfl, (hl g rfl).2, fun j hj => by
      rw [Nat.zero_add]; exact (World.ownsRow.cellAt ho j (by omega)).trans (cells8_at hj)⟩⟩
theorem Own.shape {B : Nat} {L : List Int} {v : Value} {w : World} (h : Own B L v w) : ∃ a cap, v = .slice a L.length cap := by
  obtain ⟨_, a, cap, rfl, _⟩ := h.rd
  exact ⟨a, cap, rfl⟩
/-- Owned from a higher block on. -/
theorem Own.mono {B B' : Nat} {L : List Int} {v : Value} {w : World} (h : Own B L v w) (hB : B' ≤ B) : Own B' L v w := by
  obtain ⟨hy, h1, h2⟩ := h
  refine ⟨hy, h1, ?_⟩
  rcases h2 with h2 | ⟨g, cap, cur, rfl, hb, r⟩
  · exact .inl h2
  · exact .inr ⟨g, cap, cur, rfl, Nat.le_trans hB hb, r⟩
theorem Own.alloc {B : Nat} {L : List Int} {v : Value} {w : World} (h : Own B L v w) (o : Obj) : Own B L v (w.alloc o) := ⟨h.1, World.ownsRow.alloc h.2 o⟩
/-- What is owned stays owned where nothing old turns. -/
theorem Own.below {B : Nat} {L : List Int} {v : Value} {w w' : World} (h : Own B L v w) (hb : Below w.heap.size w w') : Own B L v w' := by
  obtain ⟨hy, h1, h2⟩ := h
  refine ⟨hy, h1, ?_⟩
  rcases h2 with h2 | ⟨g, cap, cur, rfl, hb', hg, r⟩
  · exact .inl h2
  · exact .inr ⟨g, cap, cur, rfl, hb', (hb.block g (Array.getElem?_eq_some_iff.1 hg).1).trans hg, r⟩
theorem Own.empty (B : Nat) (w : World) : Own B [] (.slice none 0 0) w := ⟨Byt.nil, World.ownsRow_nil _ _ _ _⟩
/-- A string's bytes as numbers. -/
def byt (s : ByteArray) : List Int := s.data.toList.map fun b => (b.toNat : Int)
theorem byt_len (s : ByteArray) : (byt s).length = s.size := by
  unfold byt
  rw [List.length_map, Array.length_toList]
  rfl
theorem str_size (L : List Int) : (strOfNums L).size = L.length := by
  show (strOfNums L).data.size = L.length
  simp [strOfNums]
theorem Rd.conv {L : List Int} {v : Value} {w : World} (h : Rd L v w) : (convert 80 9 v).run Tryz.prog w = .ok (.string (strOfNums L)) w := by
  obtain ⟨hy, a, cap, rfl, h1, h2, h3⟩ := h
  by_cases hp : 0 < L.length
  · obtain ⟨b, off, rfl, _, hc⟩ := h3 hp
    exact run_convert_bytes_arg w _ _ Tryz.underlying80 Tryz.underlying5 b off _ cap L rfl hc _ Tryz.underlying9
  · have : L = [] := List.eq_nil_of_length_eq_zero (by omega)
    subst this
    cases a with
    | none => exact run_convert_bytes_nil w _ _ Tryz.underlying80 Tryz.underlying5 _ _ _ Tryz.underlying9
    | some ad =>
      have hl : (loadCells ad 0).run Tryz.prog w = .ok (([] : List Int).map (Value.int .u8)).toArray w := run_loadCells_list (P := Tryz.prog) w ad [] (fun j v hj => by simp at hj)
      show (convert 80 9 (.slice (some ad) 0 cap)).run Tryz.prog w = _
      rw [run_convert_bytes_string w _ _ _ _ 0 cap Tryz.underlying80 Tryz.underlying5 Tryz.underlying9, run_bytesToString w _ 0 cap [] hl]
      rfl
/-- A slice of a slice. -/
theorem Rd.cut {L : List Int} {b off n cap : Nat} {w : World} (h : Rd L (.slice (some ⟨b, off, none⟩) n cap) w) (lo hi : Nat) (h1 : lo ≤ hi) (h2 : hi ≤ L.length) (a' : Option Addr) (ha : lo < cap → a' = some ⟨b, off + lo, none⟩) {m c : Nat} (hm : m = hi - lo) (hc : c = cap - lo) : Rd ((L.take hi).drop lo) (.slice a' m c) w := by
  obtain ⟨hy, a, cap', he, h3, h4, h5⟩ := h
  simp only [Value.slice.injEq] at he
  obtain ⟨rfl, rfl, rfl⟩ := he
  subst hm hc
  have hl : ((L.take hi).drop lo).length = hi - lo := by simp; omega
  refine ⟨(hy.take hi).drop lo, a', cap - lo, by rw [hl], by rw [hl]; omega, by omega, fun hp => ?_⟩
  rw [hl] at hp
  obtain ⟨b', off', he, hlt, hcell⟩ := h5 (by omega)
  simp only [Option.some.injEq, Addr.mk.injEq, and_true] at he
  obtain ⟨rfl, rfl⟩ := he
  refine ⟨b, off + lo, ha (by omega), hlt, fun j hj => ?_⟩
  rw [hl] at hj
  rw [Nat.add_assoc, hcell (lo + j) (by omega)]
  have : ((L.take hi).drop lo).getD j 0 = L.getD (lo + j) 0 := by
    simp only [List.getD, List.getElem?_drop, List.getElem?_take]
    rw [if_pos (by omega)]
  rw [this]
section
variable {w : World}
end
end Go.Proofs.YtjibbnknliamkaaGreatDoor
namespace Go.Proofs.YtjibbnknliamkaaGreatDoor
open Go.RowKit
set_option linter.unusedVariables false
set_option linter.unusedSimpArgs false
def keyB (L : List Int) : Bool := decide (1 ≤ L.length) && decide (L.length ≤ 32)
def itemE (L : List Int) (w : Int) : Int := if keyB L = false then 7 else if w < 1 ∨ 4294967295 < w then 5 else 0
theorem size_zero (s : ByteArray) (h : s.size = 0) : s = ByteArray.empty := by
  have := byt_len s
  rw [h] at this
  simpa [byt] using this
theorem str_ne {s : ByteArray} (h : 0 < s.size) : s.toList.isEmpty = false := by
  rw [Lib.toList_data]
  cases h' : s.data.toList with
  | nil => have := Lib.size_eq s; rw [h', List.length_nil] at this; omega
  | cons _ _ => rfl
theorem isKey_any (s : ByteArray) (w : World) (hs : s.size ≤ maxLen) :
    Calls Tryz.prog 26 #[.string s] w fun e w' => e = .returned (.bool (keyB (byt s))) ∧ w = w' := by
  unfold maxLen at hs
  unfold keyB
  rw [byt_len]
  by_cases h0 : 0 < s.size
  · have hg : (1 : Nat) ≤ s.size := h0
    have hse := str_ne h0
    go_enter Tryz.func26, Tryz.ntmps26
    go_wp2
    all_goals
      go_ret
      exact ⟨ret_bool (by simp [*] <;> omega), rfl⟩
  · obtain rfl := size_zero s (by omega)
    go_enter Tryz.func26, Tryz.ntmps26
    go_wp2
    all_goals
      go_ret
      exact ⟨rfl, rfl⟩
theorem risKey_any (s : ByteArray) (w : World) (hs : s.size ≤ maxLen) :
    Calls Tryz.prog 28 #[.string s] w fun e w' => e = .returned (.bool (keyB (byt s))) ∧ w = w' := by
  unfold maxLen at hs
  unfold keyB
  rw [byt_len]
  go_enter Tryz.func28, Tryz.ntmps28
  go_wp2
  all_goals
    go_ret
    exact ⟨ret_bool (by rw [Bool.eq_iff_iff]; simp [*] <;> omega), rfl⟩
theorem ritem_any (s : ByteArray) (n : Int) (w : World) (hs : s.size ≤ maxLen) (n0 : -9223372036854775808 ≤ n) (n1 : n ≤ 9223372036854775807) :
    Calls Tryz.prog 54 #[.agg #[.string s, .int .i64 n]] w fun e w' => e = .returned (.int .i64 (itemE (byt s) n)) ∧ Below w.heap.size w w' := by
  have hk := fun w => risKey_any s w hs
  unfold itemE
  generalize keyB (byt s) = K at *
  cases K
  all_goals
    go_enter Tryz.func54, Tryz.ntmps54
    go_wp2_with (go_at_call 28; refine (hk _).mono ?_; rintro e w' ⟨rfl, rfl⟩)
    all_goals
      go_ret
      exact ⟨ret_int (by first | rfl | (simp [*] <;> omega)), (Below.refl _ _).alloc (Nat.le_refl _) _⟩
end Go.Proofs.YtjibbnknliamkaaGreatDoor
namespace Go.Proofs.YtjibbnknliamkaaGreatDoor
open Go.RowKit
theorem bgo {a w w' : World} (h : Below a.heap.size a w) (hb : Below w.heap.size w w') : Below a.heap.size a w' := h.trans (hb.mono h.size)
theorem bal {a w : World} (h : Below a.heap.size a w) (o : Obj) : Below a.heap.size a (w.alloc o) := h.alloc h.size o
theorem b1 {a : World} (o : Obj) : Below a.heap.size a (a.alloc o) := bal (Below.refl _ _) o
theorem b2 {a : World} (o p : Obj) : Below a.heap.size a ((a.alloc o).alloc p) := bal (b1 o) p
theorem b3 {a : World} (o p q : Obj) : Below a.heap.size a (((a.alloc o).alloc p).alloc q) := bal (b2 o p) q
theorem bset {a w : World} (h : Below a.heap.size a w) (k o : Nat) (v : Value) (hk : a.heap.size ≤ k) : Below a.heap.size a (w.setCell ⟨k, o, none⟩ v) := h.setCell (p := ⟨k, o, none⟩) hk v
theorem bcell {W w1 : World} (hb : Below W.heap.size W w1) : (∀ b o, b < W.heap.size → w1.cell? ⟨b, o, none⟩ = W.cell? ⟨b, o, none⟩) ∧ (∀ b o, b < W.heap.size → w1.frozen? ⟨b, o, none⟩ = W.frozen? ⟨b, o, none⟩) :=
  ⟨fun b o h => hb.cell (p := ⟨b, o, none⟩) h, fun b o h => hb.frozen (p := ⟨b, o, none⟩) h⟩
theorem room {n m : Nat} (h : n + 2 < m) : n < m ∧ n + 1 < m ∧ n + 1 + 1 < m := by omega
end Go.Proofs.YtjibbnknliamkaaGreatDoor
namespace Go.Proofs.YtjibbnknliamkaaGreatDoor
open Go.RowKit
set_option linter.unusedVariables false
set_option linter.unusedSimpArgs false
/-- The error of a tally. -/
def valT (T I : Int) : Int := if 4294967295 < T ∨ I < 0 ∨ T < I then 5 else 0
/-- A count of a sum, and whether it had to be limited. -/
def sumT (T U : Int) : Int := satN (nat0 T + nat0 U) 4294967295
def sumF (T U : Int) : Bool := satF (nat0 T + nat0 U) 4294967295
theorem tval_any (T I : Int) (s : Bool) (w : World) (T0 : -9223372036854775808 ≤ T) (T1 : T ≤ 9223372036854775807) (I0 : -9223372036854775808 ≤ I) (I1 : I ≤ 9223372036854775807) :
    Calls Tryz.prog 105 #[.agg #[.int .i64 T, .int .i64 I, .bool s]] w fun e w' => e = .returned (.int .i64 (valT T I)) ∧ Below w.heap.size w w' := by
  unfold valT
  go_enter Tryz.func105, Tryz.ntmps105
  go_wp2
  all_goals
    go_ret
    exact ⟨ret_int (by first | rfl | (simp [*] <;> omega)), (Below.refl _ _).alloc (Nat.le_refl _) _⟩
theorem tnew_any (w : World) :
    Calls Tryz.prog 175 #[] w fun e w' => e = .returned (.agg #[.int .i64 0, .int .i64 0, .bool false]) ∧ Below w.heap.size w w' := by
  go_enter Tryz.func175, Tryz.ntmps175
  go_wp2
  exact bodyPost_ret (v := .agg #[.int .i64 0, .int .i64 0, .bool false]) (by simp [results, Tryz.results175, go_sem]) rfl ⟨rfl, (Below.refl _ _).alloc (Nat.le_refl _) _⟩
/-- An insertion into a tally: the counts, the flag, the error. -/
def insT (T I : Int) (s : Bool) (e x : Int) : Int × Int × Bool × Int :=
  if valT T I ≠ 0 then (0, 0, false, valT T I) else if e ≠ 0 then (0, 0, false, e) else (sumT T x, sumT I 1, s || false || sumF T x || sumF I 1, 0)
end Go.Proofs.YtjibbnknliamkaaGreatDoor
namespace Go.Proofs.YtjibbnknliamkaaGreatDoor
open Go.RowKit
set_option linter.unusedVariables false
set_option linter.unusedSimpArgs false
/-- x ^= x >> k, by its divisor. -/
def xs (d x : Int) : Int := bits .xor .u64 x (x / d)
def rot5 (h : Int) : Int := bits .or .u64 (IntKind.u64.wrap (h * 32)) (h / 576460752303423488)
def hstep (h c : Int) : Int := IntKind.u64.wrap (bits .xor .u64 (rot5 h) c * 1099511628211)
end Go.Proofs.YtjibbnknliamkaaGreatDoor
namespace Go.Proofs.YtjibbnknliamkaaGreatDoor
open Go.RowKit
set_option linter.unusedVariables false
set_option linter.unusedSimpArgs false
theorem Own.row {C : List Int} (hy : Byt C) (w : World) (hm : C.length ≤ maxLen) : Own w.heap.size C (.slice (some ⟨w.heap.size, 0, none⟩) C.length C.length) (w.alloc (.cells (cells8 C).toArray 5)) :=
  ⟨hy, by rw [cells8_len, Nat.mul_one], .inr ⟨w.heap.size, C.length, (cells8 C).toArray, rfl, Nat.le_refl _, Go.heap_alloc_new w _, Nat.le_refl _, hm, by simp [cells8_len], by rw [Nat.mul_one, ← cells8_len]; exact List.take_length⟩⟩
end Go.Proofs.YtjibbnknliamkaaGreatDoor
namespace Go.Proofs.YtjibbnknliamkaaGreatDoor
open Go.RowKit
set_option linter.unusedVariables false
set_option linter.unusedSimpArgs false
theorem below_drewN {B : Nat} {a w : World} (h : Below B a w) (n : Nat) : Below B a (w.drewN n) := ⟨h.os, h.tape, h.output, h.size, h.block⟩
theorem Rd.drop {L : List Int} {b off n cap : Nat} {w : World} (h : Rd L (.slice (some ⟨b, off, none⟩) n cap) w) (lo : Nat) (h1 : lo ≤ L.length) (a' : Option Addr) (ha : lo < cap → a' = some ⟨b, off + lo, none⟩) {m c : Nat} (hm : m = n - lo) (hc : c = cap - lo) : Rd (L.drop lo) (.slice a' m c) w := by
  have hn : n = L.length := by
    obtain ⟨_, a, cap', he, _⟩ := h
    simp only [Value.slice.injEq] at he
    exact he.2.1
  have := h.cut lo L.length h1 (Nat.le_refl _) a' ha (m := m) (c := c) (by omega) hc
  rwa [List.take_length] at this
end Go.Proofs.YtjibbnknliamkaaGreatDoor
namespace Go.Proofs.YtjibbnknliamkaaGreatDoor
open Go.RowKit
set_option linter.unusedVariables false
set_option linter.unusedSimpArgs false
/-- A literal's row, whatever its mark. -/
theorem Rd.lit {C : List Int} (hy : Byt C) (w : World) (hm : C.length ≤ maxLen) (fr : Nat × Nat) : Rd C (.slice (some ⟨w.heap.size, 0, none⟩) C.length C.length) (w.alloc (.cells (cells8 C).toArray 5 fr)) := by
  refine ⟨hy, _, _, rfl, Nat.le_refl _, hm, fun hp => ⟨w.heap.size, 0, rfl, by simp, fun j hj => ?_⟩⟩
  rw [Nat.zero_add, cell_of_row _ w.heap.size j (cells8 C).toArray 5 fr (Go.heap_alloc_new w _), List.getElem?_toArray]
  exact cells8_at hj
end Go.Proofs.YtjibbnknliamkaaGreatDoor
namespace Go.Proofs.YtjibbnknliamkaaGreatDoor
open Go.RowKit
set_option linter.unusedVariables false
set_option linter.unusedSimpArgs false
/-- An own slice with an element: its cells, and what a store leaves. -/
theorem Own.cells {B : Nat} {L : List Int} {a : Option Addr} {n cap : Nat} {w : World} (h : Own B L (.slice a n cap) w) (hp : 0 < L.length) :
    ∃ g, a = some ⟨g, 0, none⟩ ∧ B ≤ g ∧ (∀ j, j < L.length → w.cell? ⟨g, j, none⟩ = some (.int .u8 (L.getD j 0)) ∧ w.frozen? ⟨g, j, none⟩ = false) ∧
      ∀ j c, 0 ≤ c ∧ c ≤ 255 → Own B (L.set j c) (.slice (some ⟨g, 0, none⟩) n cap) (w.setCell ⟨g, j, none⟩ (.int .u8 c)) := by
  obtain ⟨hy, ho⟩ := h
  have h2 := ho.2
  rcases h2 with ⟨he, hn⟩ | ⟨g, cap', cur, he, hb, _⟩
  · omega
  · simp only [Value.slice.injEq] at he
    obtain ⟨rfl, hnl, rfl⟩ := he
    subst hnl
    refine ⟨g, rfl, hb, fun j hj => ⟨(World.ownsRow.cellAt ho j (by omega)).trans (cells8_at hj), World.ownsRow.frozenAt ho j⟩, fun j c hc => ⟨fun x hx => ?_, ?_⟩⟩
    · rcases List.mem_or_eq_of_mem_set hx with h | rfl
      · exact hy x h
      · exact hc
    · have := (World.ownsRow.stored ho j (.int .u8 c)).1
      rw [List.length_set]
      have e : (cells8 L).set j (.int .u8 c) = cells8 (L.set j c) := by simp [cells8, List.map_set]
      rw [e] at this
      exact this
end Go.Proofs.YtjibbnknliamkaaGreatDoor
namespace Go.Proofs.YtjibbnknliamkaaGreatDoor
open Go.RowKit
set_option linter.unusedVariables false
set_option linter.unusedSimpArgs false
theorem quiet_left {P : Program} {f : FuncId} {args : Array Value} {w : World} {n : Nat} {v : Value}
    (h : Calls P f args (w.drewN n) fun e w' => e = .returned v ∧ w.drewN n = w') : Calls P f args (w.drewN n) fun e w'' => e = .returned v ∧ ∃ m, w'' = w.drewN m :=
  h.mono fun _ _ ⟨he, hm⟩ => ⟨he, n, hm.symm⟩
theorem below_drew {B : Nat} {a w : World} (h : Below B a w) : Below B a w.drew := ⟨h.os, h.tape, h.output, h.size, h.block⟩
theorem Own.drewN {B : Nat} {L : List Int} {v : Value} {w : World} (h : Own B L v w) (n : Nat) : Own B L v (w.drewN n) := h
theorem Own.drew {B : Nat} {L : List Int} {v : Value} {w : World} (h : Own B L v w) : Own B L v w.drew := h
theorem Rd.drew {L : List Int} {v : Value} {w : World} (h : Rd L v w) : Rd L v w.drew := h
end Go.Proofs.YtjibbnknliamkaaGreatDoor
namespace Go.Proofs.YtjibbnknliamkaaGreatDoor
open Go.RowKit
set_option linter.unusedVariables false
set_option linter.unusedSimpArgs false
/-- A slice of ints that can be read. -/
def RdI (Z : List Int) (v : Value) (w : World) : Prop :=
  (∀ n ∈ Z, -9223372036854775808 ≤ n ∧ n ≤ 9223372036854775807) ∧ ∃ a cap, v = .slice a Z.length cap ∧ Z.length ≤ cap ∧ cap ≤ maxLen ∧ (0 < Z.length → ∃ b off, a = some ⟨b, off, none⟩ ∧ b < w.heap.size ∧ ∀ j, j < Z.length → w.cell? ⟨b, off + j, none⟩ = some (.int .i64 (Z.getD j 0)))
theorem RdI.below {L : List Int} {v : Value} {w w' : World} (h : RdI L v w) (hb : Below w.heap.size w w') : RdI L v w' := by
  obtain ⟨hy, a, cap, rfl, h1, h2, h3⟩ := h
  refine ⟨hy, a, cap, rfl, h1, h2, fun hp => ?_⟩
  obtain ⟨b, off, rfl, hlt, hc⟩ := h3 hp
  exact ⟨b, off, rfl, Nat.lt_of_lt_of_le hlt hb.size, fun j hj => (hb.cell (p := ⟨b, off + j, none⟩) hlt).trans (hc j hj)⟩
theorem RdI.at_ {Z : List Int} {v : Value} {w : World} (h : RdI Z v w) (k : Nat) : -9223372036854775808 ≤ Z.getD k 0 ∧ Z.getD k 0 ≤ 9223372036854775807 := by
  by_cases hk : k < Z.length
  · have := h.1 Z[k] (List.getElem_mem hk)
    simpa [List.getD, hk] using this
  · simp [List.getD, List.getElem?_eq_none (Nat.le_of_not_lt hk)]
section
variable {w : World}
end
end Go.Proofs.YtjibbnknliamkaaGreatDoor
