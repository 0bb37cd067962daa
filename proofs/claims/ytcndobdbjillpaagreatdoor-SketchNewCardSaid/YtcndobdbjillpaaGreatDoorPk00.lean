/- Words, Sat, Item, Bel: in one text. -/
import Derived.Test.YtcndobdbjillpaaGreatDoorProg
import Derived.WalkKit
import Derived.ProofKit
import Derived.OpenShut
import Derived.ChangeSlices
import Derived.Deep.AppendSrc
import Derived.Laws.BitsAllLaws
import Derived.Lib.BitFns
import Derived.Lib.ItoaNum
import Derived.Laws.BytesArg
import Derived.Handy
import Derived.Lib.Hide
import Derived.Shelf.Small.Bits
import Derived.Shelf.Strconv.Itoa0
import Derived.Shelf.Bits.Mul64
import Derived.Shelf.Spec.TrailingZeros
import Derived.Lib.Strings
import Derived.Below
namespace Go.Proofs.YtcndobdbjillpaaGreatDoor
open Go.RowKit
set_option linter.unusedVariables false
set_option linter.unusedSimpArgs false
/-- n, or 0 where n is negative. -/
def nat0 (n : Int) : Int := max n 0
/-- x limited to m; and whether it had to be. -/
def satN (x m : Int) : Int := if m < x then m else x
def satF (x m : Int) : Bool := decide (m < x)
theorem nat0_bd (n : Int) (h : n ≤ 9223372036854775807) : 0 ≤ nat0 n ∧ nat0 n ≤ 9223372036854775807 := by unfold nat0; omega
theorem ret_int {k : IntKind} {a b : Int} (h : a = b) : Ending.returned (.int k a) = .returned (.int k b) := by rw [h]
theorem ret_bool {a b : Bool} (h : a = b) : Ending.returned (.bool a) = .returned (.bool b) := by rw [h]
open Go.RowKit Go.ChangeShapes Go.WideShapes
theorem i64_mask (k : Nat) (hk : k < 63) (n : Int) : bits .and .i64 n ((2 ^ k - 1 : Nat) : Int) = n % ((2 ^ k : Nat) : Int) := by
  have hp : 2 ^ k ≤ 2 ^ 62 := Nat.pow_le_pow_right (by decide) (by omega)
  have h62 : (2 : Nat) ^ 62 = 4611686018427387904 := by decide
  have hpos : 0 < 2 ^ k := Nat.two_pow_pos k
  have hm : (BitVec.ofInt 64 ((2 ^ k - 1 : Nat) : Int)).toNat = 2 ^ k - 1 := by
    rw [BitVec.ofInt_natCast, BitVec.toNat_ofNat]; exact Nat.mod_eq_of_lt (by omega)
  have key : (BitVec.ofInt 64 n &&& BitVec.ofInt 64 ((2 ^ k - 1 : Nat) : Int)).toNat = (n % ((2 ^ 64 : Nat) : Int)).toNat % 2 ^ k := by
    rw [BitVec.toNat_and, BitVec.toNat_ofInt, hm, Nat.and_two_pow_sub_one_eq_mod]
  have hdvd : (((2 ^ k : Nat) : Int)) ∣ ((2 ^ 64 : Nat) : Int) := Int.natCast_dvd_natCast.2 (Nat.pow_dvd_pow 2 (by omega))
  have hemod := Int.emod_emod_of_dvd n hdvd
  have h0 : 0 ≤ n % ((2 ^ 64 : Nat) : Int) := Int.emod_nonneg n (by decide)
  have hl : n % ((2 ^ k : Nat) : Int) < ((2 ^ k : Nat) : Int) := Int.emod_lt_of_pos n (by omega)
  have hn : 0 ≤ n % ((2 ^ k : Nat) : Int) := Int.emod_nonneg n (by omega)
  show IntKind.i64.wrap ((BitVec.ofInt 64 n &&& BitVec.ofInt 64 ((2 ^ k - 1 : Nat) : Int)).toNat : Int) = n % ((2 ^ k : Nat) : Int)
  rw [key, Int.natCast_emod, Int.toNat_of_nonneg h0, hemod, IntKind.wrap_i64]
  omega
section
variable {P : Program} (w : World)
end
/-- Each is a byte. -/
def Byt (L : List Int) : Prop := ∀ n ∈ L, 0 ≤ n ∧ n ≤ 255
theorem Byt.nil : Byt [] := fun _ h => by cases h
theorem Byt.cons {c : Int} {L : List Int} (h0 : 0 ≤ c ∧ c ≤ 255) (h : Byt L) : Byt (c :: L) := fun n hn => by
  rcases List.mem_cons.1 hn with rfl | hn
  · exact h0
  · exact h n hn
theorem Byt.take {L : List Int} (h : Byt L) (k : Nat) : Byt (L.take k) := fun n hn => h n (List.mem_of_mem_take hn)
theorem Byt.drop {L : List Int} (h : Byt L) (k : Nat) : Byt (L.drop k) := fun n hn => h n (List.mem_of_mem_drop hn)
theorem Byt.at_ {L : List Int} (h : Byt L) (k : Nat) : 0 ≤ L.getD k 0 ∧ L.getD k 0 ≤ 255 := by
  by_cases hk : k < L.length
  · have : L.getD k 0 = L[k] := by simp [List.getD, hk]
    rw [this]
    exact h _ (List.getElem_mem hk)
  · have : L.getD k 0 = 0 := by simp [List.getD, List.getElem?_eq_none (show L.length ≤ k by omega)]
    rw [this]; omega
/-- The number of bytes of a number. -/
def nb (x : Nat) : Nat := (Lib.bitLen x + 7) / 8
def cells8 (L : List Int) : List Value := L.map (Value.int .u8)
theorem cells8_len (L : List Int) : (cells8 L).length = L.length := by simp [cells8]
theorem cells8_at {L : List Int} {j : Nat} (h : j < L.length) : (cells8 L)[j]? = some (.int .u8 (L.getD j 0)) := by simp [cells8, List.getD, h]
/-- A slice of bytes of the call's own. -/
def Own (B : Nat) (L : List Int) (v : Value) (w : World) : Prop := Byt L ∧ w.ownsRow B 5 1 v L.length (cells8 L)
/-- A slice of bytes that can be read. -/
def Rd (L : List Int) (v : Value) (w : World) : Prop :=
  Byt L ∧ ∃ a cap, v = .slice a L.length cap ∧ L.length ≤ cap ∧ cap ≤ maxLen ∧ (0 < L.length → ∃ b off, a = some ⟨b, off, none⟩ ∧ b < w.heap.size ∧ ∀ j, j < L.length → w.cell? ⟨b, off + j, none⟩ = some (.int .u8 (L.getD j 0)))
theorem Rd.below {L : List Int} {v : Value} {w w' : World} (h : Rd L v w) (hb : Below w.heap.size w w') : Rd L v w' := by
  obtain ⟨hy, a, cap, rfl, h1, h2, h3⟩ := h
  refine ⟨hy, a, cap, rfl, h1, h2, fun hp => ?_⟩
  obtain ⟨b, off, rfl, hlt, hc⟩ := h3 hp
  exact ⟨b, off, rfl, Nat.lt_of_lt_of_le hlt hb.size, fun j hj => (hb.cell (p := ⟨b, off + j, none⟩) hlt).trans (hc j hj)⟩
theorem Own.rd {B : Nat} {L : List Int} {v : Value} {w : World} (h : Own B L v w) : Rd L v w := by
  obtain ⟨hy, ho⟩ := h
  have hl := World.ownsRow.lt ho
  refine ⟨hy, ?_⟩
  rcases ho.2 with ⟨rfl, hn⟩ | ⟨g, cap, cur, rfl, hb, _, h1, h2, _⟩
  · exact ⟨none, 0, by rw [hn], by omega, by simp [maxLen], fun hp => by omega⟩
  · exact ⟨some ⟨g, 0, none⟩, cap, rfl, h1, h2, fun hp => ⟨g, 0, rfl, (hl g rfl).2, fun j hj => by
      rw [Nat.zero_add]; exact (World.ownsRow.cellAt ho j (by omega)).trans (cells8_at hj)⟩⟩
theorem Own.shape {B : Nat} {L : List Int} {v : Value} {w : World} (h : Own B L v w) : ∃ a cap, v = .slice a L.length cap := by
  obtain ⟨_, a, cap, rfl, _⟩ := h.rd
  exact ⟨a, cap, rfl⟩
/-- Owned from a higher block on. -/
theorem Own.mono {B B' : Nat} {L : List Int} {v : Value} {w : World} (h : Own B L v w) (hB : B' ≤ B) : Own B' L v w := by
  obtain ⟨hy, h1, h2⟩ := h
  refine ⟨hy, h1, ?_⟩
  rcases h2 with h2 | ⟨g, cap, cur, rfl, hb, r⟩
  · exact .inl h2
  · exact .inr ⟨g, cap, cur, rfl, Nat.le_trans hB hb, r⟩
theorem Own.alloc {B : Nat} {L : List Int} {v : Value} {w : World} (h : Own B L v w) (o : Obj) : Own B L v (w.alloc o) := ⟨h.1, World.ownsRow.alloc h.2 o⟩
/-- What is owned stays owned where nothing old turns. -/
theorem Own.below {B : Nat} {L : List Int} {v : Value} {w w' : World} (h : Own B L v w) (hb : Below w.heap.size w w') : Own B L v w' := by
  obtain ⟨hy, h1, h2⟩ := h
  refine ⟨hy, h1, ?_⟩
  rcases h2 with h2 | ⟨g, cap, cur, rfl, hb', hg, r⟩
  · exact .inl h2
  · exact .inr ⟨g, cap, cur, rfl, hb', (hb.block g (Array.getElem?_eq_some_iff.1 hg).1).trans hg, r⟩
theorem Own.empty (B : Nat) (w : World) : Own B [] (.slice none 0 0) w := ⟨Byt.nil, World.ownsRow_nil _ _ _ _⟩
/-- A string's bytes as numbers. -/
def byt (s : ByteArray) : List Int := s.data.toList.map fun b => (b.toNat : Int)
theorem byt_len (s : ByteArray) : (byt s).length = s.size := by
  unfold byt
  rw [List.length_map, Array.length_toList]
  rfl
/-- A slice of a slice. -/
theorem Rd.cut {L : List Int} {b off n cap : Nat} {w : World} (h : Rd L (.slice (some ⟨b, off, none⟩) n cap) w) (lo hi : Nat) (h1 : lo ≤ hi) (h2 : hi ≤ L.length) (a' : Option Addr) (ha : lo < cap → a' = some ⟨b, off + lo, none⟩) {m c : Nat} (hm : m = hi - lo) (hc : c = cap - lo) : Rd ((L.take hi).drop lo) (.slice a' m c) w := by
  obtain ⟨hy, a, cap', he, h3, h4, h5⟩ := h
  simp only [Value.slice.injEq] at he
  obtain ⟨rfl, rfl, rfl⟩ := he
  subst hm hc
  have hl : ((L.take hi).drop lo).length = hi - lo := by simp; omega
  refine ⟨(hy.take hi).drop lo, a', cap - lo, by rw [hl], by rw [hl]; omega, by omega, fun hp => ?_⟩
  rw [hl] at hp
  obtain ⟨b', off', he, hlt, hcell⟩ := h5 (by omega)
  simp only [Option.some.injEq, Addr.mk.injEq, and_true] at he
  obtain ⟨rfl, rfl⟩ := he
  refine ⟨b, off + lo, ha (by omega), hlt, fun j hj => ?_⟩
  rw [hl] at hj
  rw [Nat.add_assoc, hcell (lo + j) (by omega)]
  have : ((L.take hi).drop lo).getD j 0 = L.getD (lo + j) 0 := by
    simp only [List.getD, List.getElem?_drop, List.getElem?_take]
    rw [if_pos (by omega)]
  rw [this]
section
variable {w : World}
end
end Go.Proofs.YtcndobdbjillpaaGreatDoor
namespace Go.Proofs.YtcndobdbjillpaaGreatDoor
open Go.RowKit
set_option linter.unusedVariables false
set_option linter.unusedSimpArgs false
theorem word_any (n : Int) (w : World) (h0 : -9223372036854775808 ≤ n) (h1 : n ≤ 9223372036854775807) :
    Calls Tryz.prog 247 #[.int .i64 n] w fun e w' => e = .returned (.int .u64 (nat0 n)) ∧ w = w' := by
  go_enter Tryz.func247, Tryz.ntmps247
  go_wp2
  go_ret
  exact ⟨ret_int (by unfold nat0; rfl), rfl⟩
/-- A number of two words, limited. -/
theorem saturate_full (high low most : Int) (w : World) (a0 : 0 ≤ high) (a1 : high ≤ 18446744073709551615) (b0 : 0 ≤ low) (b1 : low ≤ 18446744073709551615) (h0 : -9223372036854775808 ≤ most) (h1 : most ≤ 9223372036854775807) (h : 0 < high ∨ nat0 most < low) :
    Calls Tryz.prog 246 #[.int .u64 high, .int .u64 low, .int .i64 most] w fun e w' => e = .returned (.tuple #[.int .i64 (nat0 most), .bool true]) ∧ w = w' := by
  have hb := nat0_bd most h1
  generalize hm : nat0 most = m at *
  have hw : ∀ w, Calls Tryz.prog 247 #[.int .i64 most] w fun e w' => e = .returned (.int .u64 m) ∧ w = w' := fun w => hm ▸ word_any most w h0 h1
  clear hm
  by_cases hh : 0 < high
  · clear h
    go_enter Tryz.func246, Tryz.ntmps246
    go_wp2_with (go_at_call 247; refine (hw _).mono ?_; rintro e w' ⟨rfl, rfl⟩)
    go_ret2
    exact ⟨rfl, rfl⟩
  · have hl : m < low := by omega
    obtain rfl : high = 0 := by omega
    clear h hh
    go_enter Tryz.func246, Tryz.ntmps246
    go_wp2_with (go_at_call 247; refine (hw _).mono ?_; rintro e w' ⟨rfl, rfl⟩)
    go_ret2
    exact ⟨rfl, rfl⟩
theorem saturate_free (low most : Int) (w : World) (b0 : 0 ≤ low) (b1 : low ≤ nat0 most) (h0 : -9223372036854775808 ≤ most) (h1 : most ≤ 9223372036854775807) :
    Calls Tryz.prog 246 #[.int .u64 0, .int .u64 low, .int .i64 most] w fun e w' => e = .returned (.tuple #[.int .i64 low, .bool false]) ∧ w = w' := by
  have hb := nat0_bd most h1
  generalize hm : nat0 most = m at *
  have hw : ∀ w, Calls Tryz.prog 247 #[.int .i64 most] w fun e w' => e = .returned (.int .u64 m) ∧ w = w' := fun w => hm ▸ word_any most w h0 h1
  clear hm
  go_enter Tryz.func246, Tryz.ntmps246
  go_wp2_with (go_at_call 247; refine (hw _).mono ?_; rintro e w' ⟨rfl, rfl⟩)
  go_ret2
  exact ⟨rfl, rfl⟩
/-- The number of two words, whatever they are: x = high * 2^64 + low. -/
theorem saturate_any (high low most x : Int) (w : World) (a0 : 0 ≤ high) (a1 : high ≤ 18446744073709551615) (b0 : 0 ≤ low) (b1 : low ≤ 18446744073709551615) (hx : x = high * 18446744073709551616 + low) (h0 : -9223372036854775808 ≤ most) (h1 : most ≤ 9223372036854775807) :
    Calls Tryz.prog 246 #[.int .u64 high, .int .u64 low, .int .i64 most] w fun e w' => e = .returned (.tuple #[.int .i64 (satN x (nat0 most)), .bool (satF x (nat0 most))]) ∧ w = w' := by
  have hb := nat0_bd most h1
  by_cases h : nat0 most < x
  · have e1 : satN x (nat0 most) = nat0 most := by unfold satN; rw [if_pos h]
    have e2 : satF x (nat0 most) = true := by unfold satF; simpa using h
    rw [e1, e2]
    exact saturate_full high low most w a0 a1 b0 b1 h0 h1 (by omega)
  · obtain rfl : high = 0 := by omega
    have e0 : x = low := by omega
    have e1 : satN x (nat0 most) = low := by unfold satN; rw [if_neg h, e0]
    have e2 : satF x (nat0 most) = false := by unfold satF; simpa using h
    rw [e1, e2]
    exact saturate_free low most w b0 (by omega) h0 h1
theorem add_any (a b most : Int) (w : World) (a0 : -9223372036854775808 ≤ a) (a1 : a ≤ 9223372036854775807) (b0 : -9223372036854775808 ≤ b) (b1 : b ≤ 9223372036854775807) (h0 : -9223372036854775808 ≤ most) (h1 : most ≤ 9223372036854775807) :
    Calls Tryz.prog 202 #[.int .i64 a, .int .i64 b, .int .i64 most] w fun e w' => e = .returned (.tuple #[.int .i64 (satN (nat0 a + nat0 b) (nat0 most)), .bool (satF (nat0 a + nat0 b) (nat0 most))]) ∧ w = w' := by
  have ha := nat0_bd a a1
  have hb := nat0_bd b b1
  go_enter Tryz.func202, Tryz.ntmps202
  go_wp2_with (first | (go_at_call 247; refine (word_any _ _ (by omega) (by omega)).mono ?_; rintro e w' ⟨rfl, rfl⟩) | (go_at_call 246; refine (saturate_any _ _ _ (nat0 a + nat0 b) _ (by omega) (by omega) (by omega) (by omega) (by omega) (by omega) (by omega)).mono ?_; rintro e w' ⟨rfl, rfl⟩))
  go_ret2
  exact ⟨rfl, rfl⟩
end Go.Proofs.YtcndobdbjillpaaGreatDoor
namespace Go.Proofs.YtcndobdbjillpaaGreatDoor
open Go.RowKit
set_option linter.unusedVariables false
set_option linter.unusedSimpArgs false
def keyB (L : List Int) : Bool := decide (1 ≤ L.length) && decide (L.length ≤ 32)
def itemE (L : List Int) (w : Int) : Int := if keyB L = false then 7 else if w < 1 ∨ 4294967295 < w then 5 else 0
theorem size_zero (s : ByteArray) (h : s.size = 0) : s = ByteArray.empty := by
  have := byt_len s
  rw [h] at this
  simpa [byt] using this
theorem str_ne {s : ByteArray} (h : 0 < s.size) : s.toList.isEmpty = false := by
  rw [Lib.toList_data]
  cases h' : s.data.toList with
  | nil => have := Lib.size_eq s; rw [h', List.length_nil] at this; omega
  | cons _ _ => rfl
theorem isKey_any (s : ByteArray) (w : World) (hs : s.size ≤ maxLen) :
    Calls Tryz.prog 129 #[.string s] w fun e w' => e = .returned (.bool (keyB (byt s))) ∧ w = w' := by
  unfold maxLen at hs
  unfold keyB
  rw [byt_len]
  by_cases h0 : 0 < s.size
  · have hg : (1 : Nat) ≤ s.size := h0
    have hse := str_ne h0
    go_enter Tryz.func129, Tryz.ntmps129
    go_wp2
    all_goals
      go_ret
      exact ⟨ret_bool (by simp [*] <;> omega), rfl⟩
  · obtain rfl := size_zero s (by omega)
    go_enter Tryz.func129, Tryz.ntmps129
    go_wp2
    all_goals
      go_ret
      exact ⟨rfl, rfl⟩
theorem item_any (s : ByteArray) (n : Int) (w : World) (hs : s.size ≤ maxLen) (n0 : -9223372036854775808 ≤ n) (n1 : n ≤ 9223372036854775807) :
    Calls Tryz.prog 67 #[.agg #[.string s, .int .i64 n]] w fun e w' => e = .returned (.int .i64 (itemE (byt s) n)) ∧ Below w.heap.size w w' := by
  have hk := fun w => isKey_any s w hs
  unfold itemE
  generalize keyB (byt s) = K at *
  cases K
  all_goals
    go_enter Tryz.func67, Tryz.ntmps67
    go_wp2_with (go_at_call 129; refine (hk _).mono ?_; rintro e w' ⟨rfl, rfl⟩)
    all_goals
      go_ret
      exact ⟨ret_int (by first | rfl | (simp [*] <;> omega)), (Below.refl _ _).alloc (Nat.le_refl _) _⟩
end Go.Proofs.YtcndobdbjillpaaGreatDoor
namespace Go.Proofs.YtcndobdbjillpaaGreatDoor
open Go.RowKit
theorem bgo {a w w' : World} (h : Below a.heap.size a w) (hb : Below w.heap.size w w') : Below a.heap.size a w' := h.trans (hb.mono h.size)
theorem bal {a w : World} (h : Below a.heap.size a w) (o : Obj) : Below a.heap.size a (w.alloc o) := h.alloc h.size o
theorem b1 {a : World} (o : Obj) : Below a.heap.size a (a.alloc o) := bal (Below.refl _ _) o
theorem b2 {a : World} (o p : Obj) : Below a.heap.size a ((a.alloc o).alloc p) := bal (b1 o) p
theorem b3 {a : World} (o p q : Obj) : Below a.heap.size a (((a.alloc o).alloc p).alloc q) := bal (b2 o p) q
theorem bset {a w : World} (h : Below a.heap.size a w) (k o : Nat) (v : Value) (hk : a.heap.size ≤ k) : Below a.heap.size a (w.setCell ⟨k, o, none⟩ v) := h.setCell (p := ⟨k, o, none⟩) hk v
theorem bcell {W w1 : World} (hb : Below W.heap.size W w1) : (∀ b o, b < W.heap.size → w1.cell? ⟨b, o, none⟩ = W.cell? ⟨b, o, none⟩) ∧ (∀ b o, b < W.heap.size → w1.frozen? ⟨b, o, none⟩ = W.frozen? ⟨b, o, none⟩) :=
  ⟨fun b o h => hb.cell (p := ⟨b, o, none⟩) h, fun b o h => hb.frozen (p := ⟨b, o, none⟩) h⟩
theorem room {n m : Nat} (h : n + 2 < m) : n < m ∧ n + 1 < m ∧ n + 1 + 1 < m := by omega
end Go.Proofs.YtcndobdbjillpaaGreatDoor
