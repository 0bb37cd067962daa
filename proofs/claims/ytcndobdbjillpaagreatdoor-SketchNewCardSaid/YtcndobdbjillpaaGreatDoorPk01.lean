/- Tally, Hashes, WireSum, Unframe, Known3, Law3T, StepApp, CoinPack: in one text. -/
import Derived.Test.YtcndobdbjillpaaGreatDoorPk00
import Derived.Test.YtcndobdbjillpaaGreatDoorProg
import Derived.WalkKit
import Derived.Laws.BitsAllLaws
import Derived.ProofKit
import Derived.Handy
import Derived.Lib.Hide
import Derived.Shelf.Strconv.Itoa0
import Derived.Deep.RegionLaw
import Derived.Deep.QuietTactic
import Derived.BigQuiet
import Derived.Lib.SlBytesConst
import Derived.Deep.RegionWith
namespace Go.Proofs.YtcndobdbjillpaaGreatDoor
open Go.RowKit
set_option linter.unusedVariables false
set_option linter.unusedSimpArgs false
/-- The error of a tally. -/
def valT (T I : Int) : Int := if 4294967295 < T ∨ I < 0 ∨ T < I then 5 else 0
/-- A count of a sum, and whether it had to be limited. -/
def sumT (T U : Int) : Int := satN (nat0 T + nat0 U) 4294967295
def sumF (T U : Int) : Bool := satF (nat0 T + nat0 U) 4294967295
theorem add_count (a b : Int) (w : World) (a0 : -9223372036854775808 ≤ a) (a1 : a ≤ 9223372036854775807) (b0 : -9223372036854775808 ≤ b) (b1 : b ≤ 9223372036854775807) :
    Calls Tryz.prog 202 #[.int .i64 a, .int .i64 b, .int .i64 4294967295] w fun e w' => e = .returned (.tuple #[.int .i64 (sumT a b), .bool (sumF a b)]) ∧ w = w' :=
  add_any a b 4294967295 w a0 a1 b0 b1 (by decide) (by decide)
theorem tval_any (T I : Int) (s : Bool) (w : World) (T0 : -9223372036854775808 ≤ T) (T1 : T ≤ 9223372036854775807) (I0 : -9223372036854775808 ≤ I) (I1 : I ≤ 9223372036854775807) :
    Calls Tryz.prog 120 #[.agg #[.int .i64 T, .int .i64 I, .bool s]] w fun e w' => e = .returned (.int .i64 (valT T I)) ∧ Below w.heap.size w w' := by
  unfold valT
  go_enter Tryz.func120, Tryz.ntmps120
  go_wp2
  all_goals
    go_ret
    exact ⟨ret_int (by first | rfl | (simp [*] <;> omega)), (Below.refl _ _).alloc (Nat.le_refl _) _⟩
theorem tnew_any (w : World) :
    Calls Tryz.prog 111 #[] w fun e w' => e = .returned (.agg #[.int .i64 0, .int .i64 0, .bool false]) ∧ Below w.heap.size w w' := by
  go_enter Tryz.func111, Tryz.ntmps111
  go_wp2
  exact bodyPost_ret (v := .agg #[.int .i64 0, .int .i64 0, .bool false]) (by simp [results, Tryz.results111, go_sem]) rfl ⟨rfl, (Below.refl _ _).alloc (Nat.le_refl _) _⟩
/-- An insertion into a tally: the counts, the flag, the error. -/
def insT (T I : Int) (s : Bool) (e x : Int) : Int × Int × Bool × Int :=
  if valT T I ≠ 0 then (0, 0, false, valT T I) else if e ≠ 0 then (0, 0, false, e) else (sumT T x, sumT I 1, s || false || sumF T x || sumF I 1, 0)
set_option maxHeartbeats 1000000 in
theorem tsum_any (T I U J : Int) (s r : Bool) (w : World) (T0 : -9223372036854775808 ≤ T) (T1 : T ≤ 9223372036854775807) (I0 : -9223372036854775808 ≤ I) (I1 : I ≤ 9223372036854775807)
    (U0 : -9223372036854775808 ≤ U) (U1 : U ≤ 9223372036854775807) (J0 : -9223372036854775808 ≤ J) (J1 : J ≤ 9223372036854775807) :
    Calls Tryz.prog 130 #[.agg #[.int .i64 T, .int .i64 I, .bool s], .agg #[.int .i64 U, .int .i64 J, .bool r]] w fun e w' => e = .returned (.agg #[.int .i64 (sumT T U), .int .i64 (sumT I J), .bool (s || r || sumF T U || sumF I J)]) ∧ Below w.heap.size w w' := by
  have h1 := fun w => add_count T U w T0 T1 U0 U1
  have h2 := fun w => add_count I J w I0 I1 J0 J1
  generalize sumT T U = A at *
  generalize sumT I J = B at *
  generalize sumF T U = F at *
  generalize sumF I J = G at *
  go_enter Tryz.func130, Tryz.ntmps130
  go_wp2_with (first
    | (go_at_call 202; ((with_reducible refine (h1 _).mono ?_); rintro e w' ⟨rfl, rfl⟩))
    | (go_at_call 202; ((with_reducible refine (h2 _).mono ?_); rintro e w' ⟨rfl, rfl⟩)))
  all_goals
    refine bodyPost_ret (v := .agg #[.int .i64 A, .int .i64 B, .bool (s || r || F || G)]) (by simp [results, Tryz.results130, go_sem, *]) rfl ⟨rfl, b3 _ _ _⟩
set_option maxRecDepth 100000 in
set_option maxHeartbeats 1000000 in
theorem tins_any (T I x : Int) (s : Bool) (k : ByteArray) (w : World) (T0 : -9223372036854775808 ≤ T) (T1 : T ≤ 9223372036854775807) (I0 : -9223372036854775808 ≤ I) (I1 : I ≤ 9223372036854775807)
    (x0 : -9223372036854775808 ≤ x) (x1 : x ≤ 9223372036854775807) (hk : k.size ≤ maxLen) :
    Calls Tryz.prog 69 #[.agg #[.int .i64 T, .int .i64 I, .bool s], .agg #[.string k, .int .i64 x]] w fun e w' =>
      e = .returned (.tuple #[.agg #[.int .i64 (insT T I s (itemE (byt k) x) x).1, .int .i64 (insT T I s (itemE (byt k) x) x).2.1, .bool (insT T I s (itemE (byt k) x) x).2.2.1], .int .i64 (insT T I s (itemE (byt k) x) x).2.2.2]) ∧ Below w.heap.size w w' := by
  have h1 := fun w => tval_any T I s w T0 T1 I0 I1
  have h2 := fun w => item_any k x w hk x0 x1
  have h3 := fun w => tsum_any T I x 1 s false w T0 T1 I0 I1 x0 x1 (by decide) (by decide)
  unfold insT
  generalize valT T I = E at *
  generalize itemE (byt k) x = F at *
  generalize sumT T x = A at *
  generalize sumT I 1 = B at *
  generalize (s || false || sumF T x || sumF I 1) = G at *
  by_cases hE : E = 0
  · subst hE
    rw [if_neg (by decide)]
    by_cases hF : F = 0
    · subst hF
      rw [if_neg (by decide)]
      go_enter Tryz.func69, Tryz.ntmps69
      go_wp2_with (first
          | (go_at_call 120; ((with_reducible refine (h1 _).mono ?_); rintro e w2 ⟨rfl, hb2⟩; have B2 := bgo (b3 _ _ _) hb2; obtain ⟨hc2, hf2⟩ := bcell hb2; obtain ⟨hx2, hy2, hv2⟩ := room (n := w.heap.size) (m := w2.heap.size) (by have := hb2.size; simp at this; omega); clear hb2))
          | (go_at_call 67; ((with_reducible refine (h2 _).mono ?_); rintro e w3 ⟨rfl, hb3⟩; have B3 := bgo B2 hb3; obtain ⟨hc3, hf3⟩ := bcell hb3; obtain ⟨hx3, hy3, hv3⟩ := room (n := w.heap.size) (m := w3.heap.size) (by have := hb3.size; omega); clear hb3))
          | (go_at_call 130; ((with_reducible refine (h3 _).mono ?_); rintro e w4 ⟨rfl, hb4⟩; have B4 := bgo B3 hb4; obtain ⟨hc4, hf4⟩ := bcell hb4; obtain ⟨hx4, hy4, hv4⟩ := room (n := w.heap.size) (m := w4.heap.size) (by have := hb4.size; omega); clear hb4)))
      refine bodyPost_ret (v := .tuple #[.agg #[.int .i64 A, .int .i64 B, .bool G], .int .i64 0]) (by simp [results, Tryz.results69, go_sem, *]) rfl ⟨rfl, ?_⟩
      exact bset (bset (bset B4 _ _ _ (by omega)) _ _ _ (by omega)) _ _ _ (by omega)
    · have hF2 : (F != 0) = true := by simp [hF]
      rw [if_pos hF]
      clear hF
      go_enter Tryz.func69, Tryz.ntmps69
      go_wp2_with (first
          | (go_at_call 120; ((with_reducible refine (h1 _).mono ?_); rintro e w2 ⟨rfl, hb2⟩; have B2 := bgo (b3 _ _ _) hb2; obtain ⟨hc2, hf2⟩ := bcell hb2; obtain ⟨hx2, hy2, hv2⟩ := room (n := w.heap.size) (m := w2.heap.size) (by have := hb2.size; simp at this; omega); clear hb2))
          | (go_at_call 67; ((with_reducible refine (h2 _).mono ?_); rintro e w3 ⟨rfl, hb3⟩; have B3 := bgo B2 hb3; obtain ⟨hc3, hf3⟩ := bcell hb3; obtain ⟨hx3, hy3, hv3⟩ := room (n := w.heap.size) (m := w3.heap.size) (by have := hb3.size; omega); clear hb3))
          | (go_at_call 130; ((with_reducible refine (h3 _).mono ?_); rintro e w4 ⟨rfl, hb4⟩; have B4 := bgo B3 hb4; obtain ⟨hc4, hf4⟩ := bcell hb4; obtain ⟨hx4, hy4, hv4⟩ := room (n := w.heap.size) (m := w4.heap.size) (by have := hb4.size; omega); clear hb4)))
      refine bodyPost_ret (v := .tuple #[.agg #[.int .i64 0, .int .i64 0, .bool false], .int .i64 F]) (by simp [results, Tryz.results69, go_sem, *]) rfl ⟨rfl, ?_⟩
      exact bset (bset (bset B3 _ _ _ (by omega)) _ _ _ (by omega)) _ _ _ (by omega)
  · have hE2 : (E != 0) = true := by simp [hE]
    rw [if_pos hE]
    clear hE
    go_enter Tryz.func69, Tryz.ntmps69
    go_wp2_with (first
        | (go_at_call 120; ((with_reducible refine (h1 _).mono ?_); rintro e w2 ⟨rfl, hb2⟩; have B2 := bgo (b3 _ _ _) hb2; obtain ⟨hc2, hf2⟩ := bcell hb2; obtain ⟨hx2, hy2, hv2⟩ := room (n := w.heap.size) (m := w2.heap.size) (by have := hb2.size; simp at this; omega); clear hb2))
        | (go_at_call 67; ((with_reducible refine (h2 _).mono ?_); rintro e w3 ⟨rfl, hb3⟩; have B3 := bgo B2 hb3; obtain ⟨hc3, hf3⟩ := bcell hb3; obtain ⟨hx3, hy3, hv3⟩ := room (n := w.heap.size) (m := w3.heap.size) (by have := hb3.size; omega); clear hb3))
        | (go_at_call 130; ((with_reducible refine (h3 _).mono ?_); rintro e w4 ⟨rfl, hb4⟩; have B4 := bgo B3 hb4; obtain ⟨hc4, hf4⟩ := bcell hb4; obtain ⟨hx4, hy4, hv4⟩ := room (n := w.heap.size) (m := w4.heap.size) (by have := hb4.size; omega); clear hb4)))
    refine bodyPost_ret (v := .tuple #[.agg #[.int .i64 0, .int .i64 0, .bool false], .int .i64 E]) (by simp [results, Tryz.results69, go_sem, *]) rfl ⟨rfl, ?_⟩
    exact bset (bset (bset B2 _ _ _ (by omega)) _ _ _ (by omega)) _ _ _ (by omega)
end Go.Proofs.YtcndobdbjillpaaGreatDoor
namespace Go.Proofs.YtcndobdbjillpaaGreatDoor
open Go.RowKit
set_option linter.unusedVariables false
set_option linter.unusedSimpArgs false
/-- x ^= x >> k, by its divisor. -/
def xs (d x : Int) : Int := bits .xor .u64 x (x / d)
def rot5 (h : Int) : Int := bits .or .u64 (IntKind.u64.wrap (h * 32)) (h / 576460752303423488)
def hstep (h c : Int) : Int := IntKind.u64.wrap (bits .xor .u64 (rot5 h) c * 1099511628211)
end Go.Proofs.YtcndobdbjillpaaGreatDoor
namespace Go.Proofs.YtcndobdbjillpaaGreatDoor
open Go.RowKit
set_option linter.unusedVariables false
set_option linter.unusedSimpArgs false
theorem Own.row {C : List Int} (hy : Byt C) (w : World) (hm : C.length ≤ maxLen) : Own w.heap.size C (.slice (some ⟨w.heap.size, 0, none⟩) C.length C.length) (w.alloc (.cells (cells8 C).toArray 5)) :=
  ⟨hy, by rw [cells8_len, Nat.mul_one], .inr ⟨w.heap.size, C.length, (cells8 C).toArray, rfl, Nat.le_refl _, Go.heap_alloc_new w _, Nat.le_refl _, hm, by simp [cells8_len], by rw [Nat.mul_one, ← cells8_len]; exact List.take_length⟩⟩
end Go.Proofs.YtcndobdbjillpaaGreatDoor
namespace Go.Proofs.YtcndobdbjillpaaGreatDoor
open Go.RowKit
set_option linter.unusedVariables false
set_option linter.unusedSimpArgs false
theorem below_drewN {B : Nat} {a w : World} (h : Below B a w) (n : Nat) : Below B a (w.drewN n) := ⟨h.os, h.tape, h.output, h.size, h.block⟩
theorem Rd.drop {L : List Int} {b off n cap : Nat} {w : World} (h : Rd L (.slice (some ⟨b, off, none⟩) n cap) w) (lo : Nat) (h1 : lo ≤ L.length) (a' : Option Addr) (ha : lo < cap → a' = some ⟨b, off + lo, none⟩) {m c : Nat} (hm : m = n - lo) (hc : c = cap - lo) : Rd (L.drop lo) (.slice a' m c) w := by
  have hn : n = L.length := by
    obtain ⟨_, a, cap', he, _⟩ := h
    simp only [Value.slice.injEq] at he
    exact he.2.1
  have := h.cut lo L.length h1 (Nat.le_refl _) a' ha (m := m) (c := c) (by omega) hc
  rwa [List.take_length] at this
end Go.Proofs.YtcndobdbjillpaaGreatDoor
namespace Go.Proofs.YtcndobdbjillpaaGreatDoor
open Go.RowKit
set_option linter.unusedVariables false
set_option linter.unusedSimpArgs false
/-- A literal's row, whatever its mark. -/
theorem Rd.lit {C : List Int} (hy : Byt C) (w : World) (hm : C.length ≤ maxLen) (fr : Nat × Nat) : Rd C (.slice (some ⟨w.heap.size, 0, none⟩) C.length C.length) (w.alloc (.cells (cells8 C).toArray 5 fr)) := by
  refine ⟨hy, _, _, rfl, Nat.le_refl _, hm, fun hp => ⟨w.heap.size, 0, rfl, by simp, fun j hj => ?_⟩⟩
  rw [Nat.zero_add, cell_of_row _ w.heap.size j (cells8 C).toArray 5 fr (Go.heap_alloc_new w _), List.getElem?_toArray]
  exact cells8_at hj
end Go.Proofs.YtcndobdbjillpaaGreatDoor
namespace Go.Proofs.YtcndobdbjillpaaGreatDoor
open Go.RowKit
set_option linter.unusedVariables false
set_option linter.unusedSimpArgs false
/-- An own slice with an element: its cells, and what a store leaves. -/
theorem Own.cells {B : Nat} {L : List Int} {a : Option Addr} {n cap : Nat} {w : World} (h : Own B L (.slice a n cap) w) (hp : 0 < L.length) :
    ∃ g, a = some ⟨g, 0, none⟩ ∧ B ≤ g ∧ (∀ j, j < L.length → w.cell? ⟨g, j, none⟩ = some (.int .u8 (L.getD j 0)) ∧ w.frozen? ⟨g, j, none⟩ = false) ∧
      ∀ j c, 0 ≤ c ∧ c ≤ 255 → Own B (L.set j c) (.slice (some ⟨g, 0, none⟩) n cap) (w.setCell ⟨g, j, none⟩ (.int .u8 c)) := by
  obtain ⟨hy, ho⟩ := h
  have h2 := ho.2
  rcases h2 with ⟨he, hn⟩ | ⟨g, cap', cur, he, hb, _⟩
  · omega
  · simp only [Value.slice.injEq] at he
    obtain ⟨rfl, hnl, rfl⟩ := he
    subst hnl
    refine ⟨g, rfl, hb, fun j hj => ⟨(World.ownsRow.cellAt ho j (by omega)).trans (cells8_at hj), World.ownsRow.frozenAt ho j⟩, fun j c hc => ⟨fun x hx => ?_, ?_⟩⟩
    · rcases List.mem_or_eq_of_mem_set hx with h | rfl
      · exact hy x h
      · exact hc
    · have := (World.ownsRow.stored ho j (.int .u8 c)).1
      rw [List.length_set]
      have e : (cells8 L).set j (.int .u8 c) = cells8 (L.set j c) := by simp [cells8, List.map_set]
      rw [e] at this
      exact this
end Go.Proofs.YtcndobdbjillpaaGreatDoor
namespace Go.Proofs.YtcndobdbjillpaaGreatDoor
open Go.RowKit
set_option linter.unusedVariables false
set_option linter.unusedSimpArgs false
theorem quiet_left {P : Program} {f : FuncId} {args : Array Value} {w : World} {n : Nat} {v : Value}
    (h : Calls P f args (w.drewN n) fun e w' => e = .returned v ∧ w.drewN n = w') : Calls P f args (w.drewN n) fun e w'' => e = .returned v ∧ ∃ m, w'' = w.drewN m :=
  h.mono fun _ _ ⟨he, hm⟩ => ⟨he, n, hm.symm⟩
theorem below_drew {B : Nat} {a w : World} (h : Below B a w) : Below B a w.drew := ⟨h.os, h.tape, h.output, h.size, h.block⟩
theorem Own.drewN {B : Nat} {L : List Int} {v : Value} {w : World} (h : Own B L v w) (n : Nat) : Own B L v (w.drewN n) := h
theorem Own.drew {B : Nat} {L : List Int} {v : Value} {w : World} (h : Own B L v w) : Own B L v w.drew := h
theorem Rd.drew {L : List Int} {v : Value} {w : World} (h : Rd L v w) : Rd L v w.drew := h
end Go.Proofs.YtcndobdbjillpaaGreatDoor
namespace Go.Proofs.YtcndobdbjillpaaGreatDoor
open Go.RowKit
set_option linter.unusedVariables false
set_option linter.unusedSimpArgs false
/-- A slice of ints that can be read. -/
def RdI (Z : List Int) (v : Value) (w : World) : Prop :=
  (∀ n ∈ Z, -9223372036854775808 ≤ n ∧ n ≤ 9223372036854775807) ∧ ∃ a cap, v = .slice a Z.length cap ∧ Z.length ≤ cap ∧ cap ≤ maxLen ∧ (0 < Z.length → ∃ b off, a = some ⟨b, off, none⟩ ∧ b < w.heap.size ∧ ∀ j, j < Z.length → w.cell? ⟨b, off + j, none⟩ = some (.int .i64 (Z.getD j 0)))
theorem RdI.below {L : List Int} {v : Value} {w w' : World} (h : RdI L v w) (hb : Below w.heap.size w w') : RdI L v w' := by
  obtain ⟨hy, a, cap, rfl, h1, h2, h3⟩ := h
  refine ⟨hy, a, cap, rfl, h1, h2, fun hp => ?_⟩
  obtain ⟨b, off, rfl, hlt, hc⟩ := h3 hp
  exact ⟨b, off, rfl, Nat.lt_of_lt_of_le hlt hb.size, fun j hj => (hb.cell (p := ⟨b, off + j, none⟩) hlt).trans (hc j hj)⟩
theorem RdI.at_ {Z : List Int} {v : Value} {w : World} (h : RdI Z v w) (k : Nat) : -9223372036854775808 ≤ Z.getD k 0 ∧ Z.getD k 0 ≤ 9223372036854775807 := by
  by_cases hk : k < Z.length
  · have := h.1 Z[k] (List.getElem_mem hk)
    simpa [List.getD, hk] using this
  · simp [List.getD, List.getElem?_eq_none (Nat.le_of_not_lt hk)]
section
variable {w : World}
end
end Go.Proofs.YtcndobdbjillpaaGreatDoor
