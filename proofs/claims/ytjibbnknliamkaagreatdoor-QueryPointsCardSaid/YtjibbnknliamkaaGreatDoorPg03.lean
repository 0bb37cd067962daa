/- Known3, Law3T, CoinPack, IntRow, Cm, RefSat, RTally, CmCol, CmMem, CmVal: in one text. -/
import Derived.Test.YtjibbnknliamkaaGreatDoorPg00
import Derived.Test.YtjibbnknliamkaaGreatDoorPg01
import Derived.Test.YtjibbnknliamkaaGreatDoorProg
import Derived.Test.YtjibbnknliamkaaGreatDoorPg02
import Derived.Lib.SlBytesConst
import Derived.Shelf.Strconv.Itoa0
import Derived.Deep.RegionWith
import Derived.WalkKit
import Derived.Deep.RegionLaw
import Derived.Deep.QuietTactic
import Derived.BigQuiet
import Derived.ProofKit
import Derived.Handy
import Derived.Lib.Hide
import Derived.Shelf.Small.Bits
import Derived.Shelf.Bits.Mul64
import Derived.Shelf.Spec.TrailingZeros
import Derived.Laws.Cover3
import Derived.Laws.FloatArith
import Derived.Lib.SliceRun
namespace Go.Proofs.YtjibbnknliamkaaGreatDoor
open Go.RowKit
set_option linter.unusedVariables false
set_option linter.unusedSimpArgs false
/-- A literal's row, whatever its mark. -/
theorem Rd.lit {C : List Int} (hy : Byt C) (w : World) (hm : C.length ≤ maxLen) (fr : Nat × Nat) : Rd C (.slice (some ⟨w.heap.size, 0, none⟩) C.length C.length) (w.alloc (.cells (cells8 C).toArray 5 fr)) := by
  refine ⟨hy, _, _, rfl, Nat.le_refl _, hm, fun hp => ⟨w.heap.size, 0, rfl, by simp, fun j hj => ?_⟩⟩
  rw [Nat.zero_add, cell_of_row _ w.heap.size j (cells8 C).toArray 5 fr (Go.heap_alloc_new w _), List.getElem?_toArray]
  exact cells8_at hj
end Go.Proofs.YtjibbnknliamkaaGreatDoor
namespace Go.Proofs.YtjibbnknliamkaaGreatDoor
open Go.RowKit
set_option linter.unusedVariables false
set_option linter.unusedSimpArgs false
/-- An own slice with an element: its cells, and what a store leaves. -/
theorem Own.cells {B : Nat} {L : List Int} {a : Option Addr} {n cap : Nat} {w : World} (h : Own B L (.slice a n cap) w) (hp : 0 < L.length) :
    ∃ g, a = some ⟨g, 0, none⟩ ∧ B ≤ g ∧ (∀ j, j < L.length → w.cell? ⟨g, j, none⟩ = some (.int .u8 (L.getD j 0)) ∧ w.frozen? ⟨g, j, none⟩ = false) ∧
      ∀ j c, 0 ≤ c ∧ c ≤ 255 → Own B (L.set j c) (.slice (some ⟨g, 0, none⟩) n cap) (w.setCell ⟨g, j, none⟩ (.int .u8 c)) := by
  obtain ⟨hy, ho⟩ := h
  have h2 := ho.2
  rcases h2 with ⟨he, hn⟩ | ⟨g, cap', cur, he, hb, _⟩
  · omega
  · simp only [Value.slice.injEq] at he
    obtain ⟨rfl, hnl, rfl⟩ := he
    subst hnl
    refine ⟨g, rfl, hb, fun j hj => ⟨(World.ownsRow.cellAt ho j (by omega)).trans (cells8_at hj), World.ownsRow.frozenAt ho j⟩, fun j c hc => ⟨fun x hx => ?_, ?_⟩⟩
    · rcases List.mem_or_eq_of_mem_set hx with h | rfl
      · exact hy x h
      · exact hc
    · have := (World.ownsRow.stored ho j (.int .u8 c)).1
      rw [List.length_set]
      have e : (cells8 L).set j (.int .u8 c) = cells8 (L.set j c) := by simp [cells8, List.map_set]
      rw [e] at this
      exact this
end Go.Proofs.YtjibbnknliamkaaGreatDoor
namespace Go.Proofs.YtjibbnknliamkaaGreatDoor
open Go.RowKit
set_option linter.unusedVariables false
set_option linter.unusedSimpArgs false
/-- A slice of ints that can be read. -/
def RdI (Z : List Int) (v : Value) (w : World) : Prop :=
  (∀ n ∈ Z, -9223372036854775808 ≤ n ∧ n ≤ 9223372036854775807) ∧ ∃ a cap, v = .slice a Z.length cap ∧ Z.length ≤ cap ∧ cap ≤ maxLen ∧ (0 < Z.length → ∃ b off, a = some ⟨b, off, none⟩ ∧ b < w.heap.size ∧ ∀ j, j < Z.length → w.cell? ⟨b, off + j, none⟩ = some (.int .i64 (Z.getD j 0)))
theorem RdI.below {L : List Int} {v : Value} {w w' : World} (h : RdI L v w) (hb : Below w.heap.size w w') : RdI L v w' := by
  obtain ⟨hy, a, cap, rfl, h1, h2, h3⟩ := h
  refine ⟨hy, a, cap, rfl, h1, h2, fun hp => ?_⟩
  obtain ⟨b, off, rfl, hlt, hc⟩ := h3 hp
  exact ⟨b, off, rfl, Nat.lt_of_lt_of_le hlt hb.size, fun j hj => (hb.cell (p := ⟨b, off + j, none⟩) hlt).trans (hc j hj)⟩
theorem RdI.at_ {Z : List Int} {v : Value} {w : World} (h : RdI Z v w) (k : Nat) : -9223372036854775808 ≤ Z.getD k 0 ∧ Z.getD k 0 ≤ 9223372036854775807 := by
  by_cases hk : k < Z.length
  · have := h.1 Z[k] (List.getElem_mem hk)
    simpa [List.getD, hk] using this
  · simp [List.getD, List.getElem?_eq_none (Nat.le_of_not_lt hk)]
section
variable {w : World}
end
end Go.Proofs.YtjibbnknliamkaaGreatDoor
namespace Go.Proofs.YtjibbnknliamkaaGreatDoor
open Go.RowKit
set_option linter.unusedVariables false
set_option linter.unusedSimpArgs false
theorem info_int : (Tryz.prog.info? 3).map (fun i => (i.zero, i.size, i.bytes)) = some (some (.int .i64 0), 1, 8) := by kernel_rfl
/-- Ints of 64 bits. -/
def Rng (L : List Int) : Prop := ∀ n ∈ L, -9223372036854775808 ≤ n ∧ n ≤ 9223372036854775807
theorem Rng.nil : Rng [] := fun _ h => by cases h
theorem Rng.app {L M : List Int} (h : Rng L) (k : Rng M) : Rng (L ++ M) := fun n hn => by
  rcases List.mem_append.1 hn with h' | h'
  · exact h n h'
  · exact k n h'
theorem Rng.one {c : Int} (h : -9223372036854775808 ≤ c ∧ c ≤ 9223372036854775807) : Rng [c] := fun n hn => by
  rw [List.mem_singleton] at hn
  subst hn
  exact h
theorem Rng.at_ {L : List Int} (h : Rng L) (k : Nat) : -9223372036854775808 ≤ L.getD k 0 ∧ L.getD k 0 ≤ 9223372036854775807 := by
  by_cases hk : k < L.length
  · have := h L[k] (List.getElem_mem hk)
    simpa [List.getD, hk] using this
  · simp [List.getD, List.getElem?_eq_none (Nat.le_of_not_lt hk)]
theorem Rng.set {L : List Int} (h : Rng L) (j : Nat) {c : Int} (hc : -9223372036854775808 ≤ c ∧ c ≤ 9223372036854775807) : Rng (L.set j c) := fun x hx => by
  rcases List.mem_or_eq_of_mem_set hx with h' | rfl
  · exact h x h'
  · exact hc
theorem Rng.rep {c : Int} (n : Nat) (h : -9223372036854775808 ≤ c ∧ c ≤ 9223372036854775807) : Rng (List.replicate n c) := fun x hx => by
  rw [List.eq_of_mem_replicate hx]
  exact h
def cellsI (L : List Int) : List Value := L.map (Value.int .i64)
theorem cellsI_len (L : List Int) : (cellsI L).length = L.length := by simp [cellsI]
theorem cellsI_at {L : List Int} {j : Nat} (h : j < L.length) : (cellsI L)[j]? = some (.int .i64 (L.getD j 0)) := by simp [cellsI, List.getD, h]
theorem cellsI_set (L : List Int) (j : Nat) (c : Int) : (cellsI L).set j (.int .i64 c) = cellsI (L.set j c) := by simp [cellsI, List.map_set]
/-- A slice of ints of the call's own. -/
def OwnI (B : Nat) (L : List Int) (v : Value) (w : World) : Prop := Rng L ∧ w.ownsRow B 3 1 v L.length (cellsI L)
theorem RdI.drewN {L : List Int} {v : Value} {w : World} (h : RdI L v w) (n : Nat) : RdI L v (w.drewN n) := h
theorem OwnI.rd {B : Nat} {L : List Int} {v : Value} {w : World} (h : OwnI B L v w) : RdI L v w := by
  obtain ⟨hy, ho⟩ := h
  have hl := World.ownsRow.lt ho
  refine ⟨hy, ?_⟩
  rcases ho.2 with ⟨rfl, hn⟩ | ⟨g, cap, cur, rfl, hb, _, h1, h2, _⟩
  · exact ⟨none, 0, by rw [hn], by omega, by simp [maxLen], fun hp => by omega⟩
  · exact ⟨some ⟨g, 0, none⟩, cap, rfl, h1, h2, fun hp => ⟨g, 0, rfl, (hl g rfl).2, fun j hj => by
      rw [Nat.zero_add]; exact (World.ownsRow.cellAt ho j (by omega)).trans (cellsI_at hj)⟩⟩
theorem RdI.shape {L : List Int} {v : Value} {w : World} (h : RdI L v w) : ∃ a cap, v = .slice a L.length cap := by
  obtain ⟨_, a, cap, rfl, _⟩ := h
  exact ⟨a, cap, rfl⟩
theorem OwnI.mono {B B' : Nat} {L : List Int} {v : Value} {w : World} (h : OwnI B L v w) (hB : B' ≤ B) : OwnI B' L v w := by
  obtain ⟨hy, h1, h2⟩ := h
  refine ⟨hy, h1, ?_⟩
  rcases h2 with h2 | ⟨g, cap, cur, rfl, hb, r⟩
  · exact .inl h2
  · exact .inr ⟨g, cap, cur, rfl, Nat.le_trans hB hb, r⟩
theorem OwnI.alloc {B : Nat} {L : List Int} {v : Value} {w : World} (h : OwnI B L v w) (o : Obj) : OwnI B L v (w.alloc o) := ⟨h.1, World.ownsRow.alloc h.2 o⟩
theorem OwnI.below {B : Nat} {L : List Int} {v : Value} {w w' : World} (h : OwnI B L v w) (hb : Below w.heap.size w w') : OwnI B L v w' := by
  obtain ⟨hy, h1, h2⟩ := h
  refine ⟨hy, h1, ?_⟩
  rcases h2 with h2 | ⟨g, cap, cur, rfl, hb', hg, r⟩
  · exact .inl h2
  · exact .inr ⟨g, cap, cur, rfl, hb', (hb.block g (Array.getElem?_eq_some_iff.1 hg).1).trans hg, r⟩
theorem OwnI.empty (B : Nat) (w : World) : OwnI B [] (.slice none 0 0) w := ⟨Rng.nil, World.ownsRow_nil _ _ _ _⟩
theorem OwnI.drewN {B : Nat} {L : List Int} {v : Value} {w : World} (h : OwnI B L v w) (n : Nat) : OwnI B L v (w.drewN n) := h
/-- It stays where a block below it is written. -/
theorem OwnI.keep {B b : Nat} {L : List Int} {v : Value} {w : World} (h : OwnI B L v w) (hb : b < B) (o : Nat) (u : Value) : OwnI B L v (w.setCell ⟨b, o, none⟩ u) := ⟨h.1, ownsRow_setCell_below h.2 hb u⟩
theorem OwnI.one {c : Int} (hc : -9223372036854775808 ≤ c ∧ c ≤ 9223372036854775807) (w : World) : OwnI w.heap.size [c] (.slice (some ⟨w.heap.size, 0, none⟩) 1 1) (w.alloc (.cells #[.int .i64 c] 3)) :=
  ⟨Rng.one hc, rfl, .inr ⟨w.heap.size, 1, #[.int .i64 c], rfl, Nat.le_refl _, Go.heap_alloc_new w _, Nat.le_refl _, by decide, rfl, rfl⟩⟩
/-- What may be appended: the ints M. -/
def FromI (M : List Int) (tx : TypeId) (u : Value) (w : World) : Prop := Rng M ∧ Src Tryz.prog 1 tx u M.length (cellsI M) w
theorem oneCell_int (L : List Int) : ∀ v ∈ cellsI L, v.oneCell' = true := by
  intro v hv
  obtain ⟨s, _, rfl⟩ := List.mem_map.1 hv
  rfl
theorem RdI.src {L : List Int} {v : Value} {w : World} (h : RdI L v w) : FromI L 29 v w := by
  obtain ⟨hy, a, cap, rfl, h1, h2, h3⟩ := h
  refine ⟨hy, ?_⟩
  have hl : (cellsI L).length = L.length * 1 := by rw [cellsI_len, Nat.mul_one]
  cases a with
  | none =>
    by_cases hp : 0 < L.length
    · obtain ⟨b, off, he, _⟩ := h3 hp
      cases he
    · have : L = [] := List.eq_nil_of_length_eq_zero (by omega)
      subst this
      exact Src.ofNil w Tryz.underlying29 cap
  | some ad =>
    refine Src.ofSlice w Tryz.underlying29 ad L.length cap (cellsI L) hl (fun j u hu => ?_) (oneCell_int L)
    have hj : j < L.length := by
      have := (List.getElem?_eq_some_iff.1 hu).1
      rwa [cellsI_len] at this
    obtain ⟨b, off, he, _, hc⟩ := h3 (by omega)
    cases he
    rw [Addr.add_lit, hc j hj]
    rw [cellsI_at hj] at hu
    exact hu
section
variable {w : World}
/-- 'make([]int, n)': zeros of the call's own. -/
theorem wp_makeI {ops : Array Oper} {rest : List Oper} {o : Oper} {a : Act} {Q : Exit → Act → World → Prop} (hgd : o.guard = none) (l c : Operand)
    (ho : o.op = Op.makeSlice 29 l c) (N : Nat) (hl : a.eval l = .int .i64 (N : Int)) (hc : a.eval c = .int .i64 (N : Int)) (hN : N ≤ 35184372088832)
    (h : ∀ w' : World, OwnI w.heap.size (List.replicate N 0) (.slice (some ⟨w.heap.size, 0, none⟩) N N) w' → Below w.heap.size w w' → w.heap.size < w'.heap.size → wpList Tryz.prog ops Q rest (a.put o.dst (.slice (some ⟨w.heap.size, 0, none⟩) N N)) w') : wpList Tryz.prog ops Q (o :: rest) a w := by
  obtain ⟨i0, hi, hz0, hz1, hz2⟩ := info_parts info_int
  refine wpList_make_full w hgd l c 29 ho w.heap.size 3 i0 (.int .i64 0) 1 Tryz.underlying29 hi hz0 hz1 .i64 .i64 N N N hl hc rfl rfl (by rw [hz2]; omega) (by unfold maxLen; omega) (Nat.le_refl _) ?_
  intro w1 hown hgrow
  have ho : w1.ownsRow w.heap.size 3 1 (.slice (some ⟨w.heap.size, 0, none⟩) N N) (List.replicate N (0 : Int)).length (cellsI (List.replicate N 0)) := by
    rw [show (Value.int .i64 0).cells = #[Value.int .i64 0] from rfl, toList_madeCells_one, Nat.mul_one] at hown
    have e : cellsI (List.replicate N 0) = List.replicate N (Value.int .i64 0) := by simp [cellsI]
    rw [e, List.length_replicate]
    exact hown
  exact h w1 ⟨Rng.rep N (by omega), ho⟩ ((Below.refl _ _).grown hgrow (Nat.le_refl _) (fun _ h => by cases h)) (World.ownsRow.lt ho _ rfl).2
end
/-- An own slice with an element: its cells, and what a store leaves. -/
theorem OwnI.cells {B : Nat} {L : List Int} {a : Option Addr} {n cap : Nat} {w : World} (h : OwnI B L (.slice a n cap) w) (hp : 0 < L.length) :
    ∃ g, a = some ⟨g, 0, none⟩ ∧ B ≤ g ∧ g < w.heap.size ∧ (∀ j, j < L.length → w.cell? ⟨g, j, none⟩ = some (.int .i64 (L.getD j 0)) ∧ w.frozen? ⟨g, j, none⟩ = false) ∧
      ∀ j c, -9223372036854775808 ≤ c ∧ c ≤ 9223372036854775807 → OwnI B (L.set j c) (.slice (some ⟨g, 0, none⟩) n cap) (w.setCell ⟨g, j, none⟩ (.int .i64 c)) := by
  obtain ⟨hy, ho⟩ := h
  have h2 := ho.2
  rcases h2 with ⟨he, hn⟩ | ⟨g, cap', cur, he, hb, _⟩
  · omega
  · simp only [Value.slice.injEq] at he
    obtain ⟨rfl, hnl, rfl⟩ := he
    subst hnl
    refine ⟨g, rfl, hb, (World.ownsRow.lt ho g rfl).2, fun j hj => ⟨(World.ownsRow.cellAt ho j (by omega)).trans (cellsI_at hj), World.ownsRow.frozenAt ho j⟩, fun j c hc => ⟨Rng.set hy j hc, ?_⟩⟩
    have := (World.ownsRow.stored ho j (.int .i64 c)).1
    rw [List.length_set]
    rw [cellsI_set] at this
    exact this
end Go.Proofs.YtjibbnknliamkaaGreatDoor
namespace Go.Proofs.YtjibbnknliamkaaGreatDoor
open Go.RowKit
set_option linter.unusedVariables false
set_option linter.unusedSimpArgs false
/-- A sketch: depth, size, seed, cells, flag. -/
structure CM where
  D : Int
  S : Int
  x : Int
  L : List Int
  s : Bool
def CM.none : CM := ⟨0, 0, 0, [], false⟩
/-- Depth and size are within their limits. -/
def shpB (D S : Int) : Bool := decide (1 ≤ D) && decide (D ≤ 8) && (decide (1 ≤ S) && decide (S ≤ 64))
theorem shpB_iff (D S : Int) : shpB D S = true ↔ 1 ≤ D ∧ D ≤ 8 ∧ 1 ≤ S ∧ S ≤ 64 := by
  unfold shpB
  simp [and_assoc]
/-- A cell is within its limits. -/
def celB (n : Int) : Bool := decide (0 ≤ n) && decide (n ≤ 4294967295)
theorem celB_iff (n : Int) : celB n = true ↔ 0 ≤ n ∧ n ≤ 4294967295 := by
  unfold celB
  simp
/-- The error of a sketch. -/
def cmE (D S : Int) (L : List Int) : Int := if shpB D S = false then 5 else if (L.length : Int) ≠ D * S then 18 else if L.all celB = true then 0 else 5
end Go.Proofs.YtjibbnknliamkaaGreatDoor
namespace Go.Proofs.YtjibbnknliamkaaGreatDoor
open Go.RowKit
set_option linter.unusedVariables false
set_option linter.unusedSimpArgs false
theorem natural_any (n : Int) (w : World) (h0 : -9223372036854775808 ≤ n) (h1 : n ≤ 9223372036854775807) :
    Calls Tryz.prog 133 #[.int .i64 n] w fun e w' => e = .returned (.int .i64 (nat0 n)) ∧ w = w' := by
  go_enter Tryz.func133, Tryz.ntmps133
  go_wp2
  go_ret
  exact ⟨ret_int (by unfold nat0; rfl), rfl⟩
theorem ref_add_any (a b most : Int) (w : World) (a0 : -9223372036854775808 ≤ a) (a1 : a ≤ 9223372036854775807) (b0 : -9223372036854775808 ≤ b) (b1 : b ≤ 9223372036854775807) (h0 : -9223372036854775808 ≤ most) (h1 : most ≤ 9223372036854775807) :
    Calls Tryz.prog 96 #[.int .i64 a, .int .i64 b, .int .i64 most] w fun e w' => e = .returned (.tuple #[.int .i64 (satN (nat0 a + nat0 b) (nat0 most)), .bool (satF (nat0 a + nat0 b) (nat0 most))]) ∧ w = w' := by
  have ha := nat0_bd a a1
  have hb := nat0_bd b b1
  have hm := nat0_bd most h1
  by_cases h : nat0 most < nat0 a + nat0 b
  · have e1 : satN (nat0 a + nat0 b) (nat0 most) = nat0 most := by unfold satN; rw [if_pos h]
    have e2 : satF (nat0 a + nat0 b) (nat0 most) = true := by unfold satF; simpa using h
    rw [e1, e2]
    clear e1 e2
    by_cases h2 : nat0 most < nat0 a
    all_goals
      go_enter Tryz.func96, Tryz.ntmps96
      go_wp2_with (go_at_call 133; refine (natural_any _ _ (by omega) (by omega)).mono ?_; rintro e w' ⟨rfl, rfl⟩)
      go_ret2
      exact ⟨rfl, rfl⟩
  · have e1 : satN (nat0 a + nat0 b) (nat0 most) = nat0 a + nat0 b := by unfold satN; rw [if_neg h]
    have e2 : satF (nat0 a + nat0 b) (nat0 most) = false := by unfold satF; simpa using h
    rw [e1, e2]
    clear e1 e2
    have h2 : ¬ nat0 most < nat0 a := by omega
    have h3 : ¬ nat0 most - nat0 a < nat0 b := by omega
    go_enter Tryz.func96, Tryz.ntmps96
    go_wp2_with (go_at_call 133; refine (natural_any _ _ (by omega) (by omega)).mono ?_; rintro e w' ⟨rfl, rfl⟩)
    go_ret2
    exact ⟨rfl, rfl⟩
end Go.Proofs.YtjibbnknliamkaaGreatDoor
namespace Go.Proofs.YtjibbnknliamkaaGreatDoor
open Go.RowKit
set_option linter.unusedVariables false
set_option linter.unusedSimpArgs false
theorem radd_count (a b : Int) (w : World) (a0 : -9223372036854775808 ≤ a) (a1 : a ≤ 9223372036854775807) (b0 : -9223372036854775808 ≤ b) (b1 : b ≤ 9223372036854775807) :
    Calls Tryz.prog 96 #[.int .i64 a, .int .i64 b, .int .i64 4294967295] w fun e w' => e = .returned (.tuple #[.int .i64 (sumT a b), .bool (sumF a b)]) ∧ w = w' :=
  ref_add_any a b 4294967295 w a0 a1 b0 b1 (by decide) (by decide)
/-- A number from l to h. -/
def inW (n l h : Int) : Bool := decide (l ≤ n) && decide (n ≤ h)
theorem rwithin_any (n l h : Int) (w : World) :
    Calls Tryz.prog 87 #[.int .i64 n, .int .i64 l, .int .i64 h] w fun e w' => e = .returned (.bool (inW n l h)) ∧ w = w' := by
  unfold inW
  go_enter Tryz.func87, Tryz.ntmps87
  go_wp2
  all_goals
    go_ret
    exact ⟨ret_bool (by simp [*] <;> omega), rfl⟩
theorem valT_in (T I : Int) : valT T I = if inW T 0 4294967295 = true ∧ inW I 0 4294967295 = true ∧ I ≤ T then 0 else 5 := by
  unfold valT inW
  by_cases h : 4294967295 < T ∨ I < 0 ∨ T < I
  · rw [if_pos h, if_neg (by simp; omega)]
  · rw [if_neg h, if_pos (by simp; omega)]
set_option maxHeartbeats 1000000 in
theorem rtval_any (T I : Int) (s : Bool) (w : World) (T0 : -9223372036854775808 ≤ T) (T1 : T ≤ 9223372036854775807) (I0 : -9223372036854775808 ≤ I) (I1 : I ≤ 9223372036854775807) :
    Calls Tryz.prog 74 #[.agg #[.int .i64 T, .int .i64 I, .bool s]] w fun e w' => e = .returned (.int .i64 (valT T I)) ∧ Below w.heap.size w w' := by
  rw [valT_in]
  have h1 := fun w => rwithin_any T 0 4294967295 w
  have h2 := fun w => rwithin_any I 0 4294967295 w
  generalize inW T 0 4294967295 = A at *
  generalize inW I 0 4294967295 = B at *
  cases A
  all_goals cases B
  all_goals
    go_enter Tryz.func74, Tryz.ntmps74
    go_wp2_with (first
      | (go_at_call 87; ((with_reducible refine (h1 _).mono ?_); rintro e w' ⟨rfl, rfl⟩))
      | (go_at_call 87; ((with_reducible refine (h2 _).mono ?_); rintro e w' ⟨rfl, rfl⟩)))
    all_goals
      go_ret
      exact ⟨ret_int (by first | rfl | (rename_i h; simp at h; done) | (simp [*] <;> omega)), b1 _⟩
set_option maxHeartbeats 1000000 in
theorem rtsum_any (T I U J : Int) (s r : Bool) (w : World) (T0 : -9223372036854775808 ≤ T) (T1 : T ≤ 9223372036854775807) (I0 : -9223372036854775808 ≤ I) (I1 : I ≤ 9223372036854775807)
    (U0 : -9223372036854775808 ≤ U) (U1 : U ≤ 9223372036854775807) (J0 : -9223372036854775808 ≤ J) (J1 : J ≤ 9223372036854775807) :
    Calls Tryz.prog 95 #[.agg #[.int .i64 T, .int .i64 I, .bool s], .agg #[.int .i64 U, .int .i64 J, .bool r]] w fun e w' => e = .returned (.agg #[.int .i64 (sumT T U), .int .i64 (sumT I J), .bool (s || r || sumF T U || sumF I J)]) ∧ Below w.heap.size w w' := by
  have h1 := fun w => radd_count T U w T0 T1 U0 U1
  have h2 := fun w => radd_count I J w I0 I1 J0 J1
  generalize sumT T U = A at *
  generalize sumT I J = B at *
  generalize sumF T U = F at *
  generalize sumF I J = G at *
  go_enter Tryz.func95, Tryz.ntmps95
  go_wp2_with (first
    | (go_at_call 96; ((with_reducible refine (h1 _).mono ?_); rintro e w' ⟨rfl, rfl⟩))
    | (go_at_call 96; ((with_reducible refine (h2 _).mono ?_); rintro e w' ⟨rfl, rfl⟩)))
  all_goals
    refine bodyPost_ret (v := .agg #[.int .i64 A, .int .i64 B, .bool (s || r || F || G)]) (by simp [results, Tryz.results95, go_sem, *]) rfl ⟨rfl, b3 _ _ _⟩
set_option maxRecDepth 100000 in
set_option maxHeartbeats 1000000 in
theorem rtins_any (T I x : Int) (s : Bool) (k : ByteArray) (w : World) (T0 : -9223372036854775808 ≤ T) (T1 : T ≤ 9223372036854775807) (I0 : -9223372036854775808 ≤ I) (I1 : I ≤ 9223372036854775807)
    (x0 : -9223372036854775808 ≤ x) (x1 : x ≤ 9223372036854775807) (hk : k.size ≤ maxLen) :
    Calls Tryz.prog 56 #[.agg #[.int .i64 T, .int .i64 I, .bool s], .agg #[.string k, .int .i64 x]] w fun e w' =>
      e = .returned (.tuple #[.agg #[.int .i64 (insT T I s (itemE (byt k) x) x).1, .int .i64 (insT T I s (itemE (byt k) x) x).2.1, .bool (insT T I s (itemE (byt k) x) x).2.2.1], .int .i64 (insT T I s (itemE (byt k) x) x).2.2.2]) ∧ Below w.heap.size w w' := by
  have h1 := fun w => rtval_any T I s w T0 T1 I0 I1
  have h2 := fun w => ritem_any k x w hk x0 x1
  have h3 := fun w => rtsum_any T I x 1 s false w T0 T1 I0 I1 x0 x1 (by decide) (by decide)
  unfold insT
  generalize valT T I = E at *
  generalize itemE (byt k) x = F at *
  generalize sumT T x = A at *
  generalize sumT I 1 = B at *
  generalize (s || false || sumF T x || sumF I 1) = G at *
  by_cases hE : E = 0
  · subst hE
    rw [if_neg (by decide)]
    by_cases hF : F = 0
    · subst hF
      rw [if_neg (by decide)]
      go_enter Tryz.func56, Tryz.ntmps56
      go_wp2_with (first
          | (go_at_call 74; ((with_reducible refine (h1 _).mono ?_); rintro e w2 ⟨rfl, hb2⟩; have B2 := bgo (b3 _ _ _) hb2; obtain ⟨hc2, hf2⟩ := bcell hb2; obtain ⟨hx2, hy2, hv2⟩ := room (n := w.heap.size) (m := w2.heap.size) (by have := hb2.size; simp at this; omega); clear hb2))
          | (go_at_call 54; ((with_reducible refine (h2 _).mono ?_); rintro e w3 ⟨rfl, hb3⟩; have B3 := bgo B2 hb3; obtain ⟨hc3, hf3⟩ := bcell hb3; obtain ⟨hx3, hy3, hv3⟩ := room (n := w.heap.size) (m := w3.heap.size) (by have := hb3.size; omega); clear hb3))
          | (go_at_call 95; ((with_reducible refine (h3 _).mono ?_); rintro e w4 ⟨rfl, hb4⟩; have B4 := bgo B3 hb4; obtain ⟨hc4, hf4⟩ := bcell hb4; obtain ⟨hx4, hy4, hv4⟩ := room (n := w.heap.size) (m := w4.heap.size) (by have := hb4.size; omega); clear hb4)))
      refine bodyPost_ret (v := .tuple #[.agg #[.int .i64 A, .int .i64 B, .bool G], .int .i64 0]) (by simp [results, Tryz.results56, go_sem, *]) rfl ⟨rfl, ?_⟩
      exact bset (bset (bset B4 _ _ _ (by omega)) _ _ _ (by omega)) _ _ _ (by omega)
    · have hF2 : (F != 0) = true := by simp [hF]
      rw [if_pos hF]
      clear hF
      go_enter Tryz.func56, Tryz.ntmps56
      go_wp2_with (first
          | (go_at_call 74; ((with_reducible refine (h1 _).mono ?_); rintro e w2 ⟨rfl, hb2⟩; have B2 := bgo (b3 _ _ _) hb2; obtain ⟨hc2, hf2⟩ := bcell hb2; obtain ⟨hx2, hy2, hv2⟩ := room (n := w.heap.size) (m := w2.heap.size) (by have := hb2.size; simp at this; omega); clear hb2))
          | (go_at_call 54; ((with_reducible refine (h2 _).mono ?_); rintro e w3 ⟨rfl, hb3⟩; have B3 := bgo B2 hb3; obtain ⟨hc3, hf3⟩ := bcell hb3; obtain ⟨hx3, hy3, hv3⟩ := room (n := w.heap.size) (m := w3.heap.size) (by have := hb3.size; omega); clear hb3))
          | (go_at_call 95; ((with_reducible refine (h3 _).mono ?_); rintro e w4 ⟨rfl, hb4⟩; have B4 := bgo B3 hb4; obtain ⟨hc4, hf4⟩ := bcell hb4; obtain ⟨hx4, hy4, hv4⟩ := room (n := w.heap.size) (m := w4.heap.size) (by have := hb4.size; omega); clear hb4)))
      refine bodyPost_ret (v := .tuple #[.agg #[.int .i64 0, .int .i64 0, .bool false], .int .i64 F]) (by simp [results, Tryz.results56, go_sem, *]) rfl ⟨rfl, ?_⟩
      exact bset (bset (bset B3 _ _ _ (by omega)) _ _ _ (by omega)) _ _ _ (by omega)
  · have hE2 : (E != 0) = true := by simp [hE]
    rw [if_pos hE]
    clear hE
    go_enter Tryz.func56, Tryz.ntmps56
    go_wp2_with (first
        | (go_at_call 74; ((with_reducible refine (h1 _).mono ?_); rintro e w2 ⟨rfl, hb2⟩; have B2 := bgo (b3 _ _ _) hb2; obtain ⟨hc2, hf2⟩ := bcell hb2; obtain ⟨hx2, hy2, hv2⟩ := room (n := w.heap.size) (m := w2.heap.size) (by have := hb2.size; simp at this; omega); clear hb2))
        | (go_at_call 54; ((with_reducible refine (h2 _).mono ?_); rintro e w3 ⟨rfl, hb3⟩; have B3 := bgo B2 hb3; obtain ⟨hc3, hf3⟩ := bcell hb3; obtain ⟨hx3, hy3, hv3⟩ := room (n := w.heap.size) (m := w3.heap.size) (by have := hb3.size; omega); clear hb3))
        | (go_at_call 95; ((with_reducible refine (h3 _).mono ?_); rintro e w4 ⟨rfl, hb4⟩; have B4 := bgo B3 hb4; obtain ⟨hc4, hf4⟩ := bcell hb4; obtain ⟨hx4, hy4, hv4⟩ := room (n := w.heap.size) (m := w4.heap.size) (by have := hb4.size; omega); clear hb4)))
    refine bodyPost_ret (v := .tuple #[.agg #[.int .i64 0, .int .i64 0, .bool false], .int .i64 E]) (by simp [results, Tryz.results56, go_sem, *]) rfl ⟨rfl, ?_⟩
    exact bset (bset (bset B2 _ _ _ (by omega)) _ _ _ (by omega)) _ _ _ (by omega)
end Go.Proofs.YtjibbnknliamkaaGreatDoor
namespace Go.Proofs.YtjibbnknliamkaaGreatDoor
open Go.RowKit
set_option linter.unusedVariables false
set_option linter.unusedSimpArgs false
theorem isSize_any (S : Int) (w : World) :
    Calls Tryz.prog 181 #[.int .i64 S] w fun e w' => e = .returned (.bool (decide (1 ≤ S) && decide (S ≤ 64))) ∧ w = w' := by
  go_enter Tryz.func181, Tryz.ntmps181
  go_wp2
  all_goals
    go_ret
    exact ⟨ret_bool (by simp [*] <;> omega), rfl⟩
theorem isShape_any (D S : Int) (w : World) :
    Calls Tryz.prog 139 #[.int .i64 D, .int .i64 S] w fun e w' => e = .returned (.bool (shpB D S)) ∧ w = w' := by
  unfold shpB
  have h := fun w => isSize_any S w
  generalize (decide (1 ≤ S) && decide (S ≤ 64)) = Z at *
  go_enter Tryz.func139, Tryz.ntmps139
  go_wp2_with (go_at_call 181; refine (h _).mono ?_; rintro e w' ⟨rfl, rfl⟩)
  all_goals
    go_ret
    exact ⟨ret_bool (by simp [*] <;> omega), rfl⟩
end Go.Proofs.YtjibbnknliamkaaGreatDoor
namespace Go.Proofs.YtjibbnknliamkaaGreatDoor
open Go.RowKit
set_option linter.unusedVariables false
set_option linter.unusedSimpArgs false
theorem OwnI.newNil (w : World) : OwnI w.heap.size [] (.slice (some ⟨w.heap.size, 0, none⟩) 0 0) (w.alloc (.cells #[] 3)) :=
  ⟨Rng.nil, rfl, .inr ⟨w.heap.size, 0, #[], rfl, Nat.le_refl _, Go.heap_alloc_new w _, Nat.le_refl _, by decide, rfl, rfl⟩⟩
end Go.Proofs.YtjibbnknliamkaaGreatDoor
namespace Go.Proofs.YtjibbnknliamkaaGreatDoor
open Go.RowKit
set_option linter.unusedVariables false
set_option linter.unusedSimpArgs false
theorem all_getD {p : Int → Bool} {L : List Int} (h : ∀ j, j < L.length → p (L.getD j 0) = true) : L.all p = true := by
  rw [List.all_eq_true]
  intro n hn
  obtain ⟨j, hj, rfl⟩ := List.mem_iff_getElem.1 hn
  have := h j hj
  simpa [List.getD, hj] using this
theorem not_all_getD {p : Int → Bool} {L : List Int} {j : Nat} (hj : j < L.length) (h : p (L.getD j 0) = false) : L.all p = false := by
  rw [List.all_eq_false]
  refine ⟨L[j], List.getElem_mem hj, ?_⟩
  simpa [List.getD, hj] using h
theorem upto_succ {p : Nat → Prop} {k : Nat} (h : ∀ j, j < k → p j) (hk : p k) : ∀ j, j < k + 1 → p j := fun j hj => by
  by_cases hjk : j < k
  · exact h j hjk
  · obtain rfl : j = k := by omega
    exact hk
theorem celB_no {n : Int} (h : celB n = false) : n < 0 ∨ 4294967295 < n := by
  unfold celB at h
  simp at h
  omega
theorem cmE_shp {D S : Int} {L : List Int} (h : shpB D S = false) : cmE D S L = 5 := by unfold cmE; rw [if_pos h]
theorem cmE_len {D S : Int} {L : List Int} (h : shpB D S = true) (h2 : ¬ (L.length : Int) = D * S) : cmE D S L = 18 := by unfold cmE; rw [if_neg (by rw [h]; simp), if_pos h2]
theorem cmE_bad {D S : Int} {L : List Int} (h : shpB D S = true) (h2 : (L.length : Int) = D * S) {j : Nat} (hj : j < L.length) (h3 : celB (L.getD j 0) = false) : cmE D S L = 5 := by
  unfold cmE
  rw [if_neg (by rw [h]; simp), if_neg (by omega), if_neg (by rw [not_all_getD hj h3]; simp)]
theorem cmE_all {D S : Int} {L : List Int} (h : shpB D S = true) (h2 : (L.length : Int) = D * S) (h3 : ∀ j, j < L.length → celB (L.getD j 0) = true) : cmE D S L = 0 := by
  unfold cmE
  rw [if_neg (by rw [h]; simp), if_neg (by omega), if_pos (all_getD h3)]
theorem shp_bd {D S : Int} (h : shpB D S = true) : 1 ≤ D ∧ D ≤ 8 ∧ 1 ≤ S ∧ S ≤ 64 ∧ 0 ≤ D * S ∧ D * S ≤ 512 := by
  obtain ⟨a, b, c, d⟩ := (shpB_iff D S).1 h
  have := Int.mul_nonneg (show 0 ≤ D by omega) (show 0 ≤ S by omega)
  have : D * S ≤ 8 * 64 := Int.mul_le_mul b d (by omega) (by omega)
  omega
set_option maxRecDepth 100000 in
set_option maxHeartbeats 1000000 in
theorem cval_any (D S x : Int) (L : List Int) (a : Option Addr) (n cap : Nat) (s : Bool) (w : World) (D0 : -9223372036854775808 ≤ D) (D1 : D ≤ 9223372036854775807) (S0 : -9223372036854775808 ≤ S) (S1 : S ≤ 9223372036854775807) (h : RdI L (.slice a n cap) w) :
    Calls Tryz.prog 106 #[.agg #[.int .i64 D, .int .i64 S, .int .u64 x, .slice a n cap, .bool s]] w fun e w' => e = .returned (.int .i64 (cmE D S L)) ∧ Below w.heap.size w w' := by
  obtain ⟨hy, a', cap', he, h1, h2, h3⟩ := h
  simp only [Value.slice.injEq] at he
  obtain ⟨rfl, rfl, rfl⟩ := he
  have hs := fun w => isShape_any D S w
  by_cases hE : shpB D S = false
  · rw [cmE_shp hE]
    rw [hE] at hs
    clear hE hy h1 h2 h3
    go_enter Tryz.func106, Tryz.ntmps106
    go_wp2_with (go_at_call 139; refine (hs _).mono ?_; rintro e w' ⟨rfl, rfl⟩)
    go_ret
    exact ⟨rfl, b1 _⟩
  · have hE : shpB D S = true := by simpa using hE
    obtain ⟨d0, d1, s0, s1, p0, p1⟩ := shp_bd hE
    have hl1 : (L.length : Int) ≤ 9223372036854775807 := by unfold maxLen at h2; omega
    by_cases hL : (L.length : Int) = D * S
    · have H5 := Lib.hid (fun j (hj : j < L.length) (h : celB (L.getD j 0) = false) => cmE_bad hE hL hj h)
      have H0 := Lib.hid (fun h => cmE_all hE hL h)
      rw [hE] at hs
      have HC := Lib.hid h3
      have HY := Lib.hid (fun k => Rng.at_ hy k)
      have hl2 : L.length ≤ 512 := by omega
      generalize cmE D S L = E at *
      clear hE hy h3 h1 h2
      go_enter Tryz.func106, Tryz.ntmps106
      go_wp2_with (go_at_call 139; refine (hs _).mono ?_; rintro e w' ⟨rfl, rfl⟩)
      go_loop [4, 23] (fun _ i => ∃ k : Nat, k ≤ L.length ∧ i = .int .i64 (k : Int) ∧ Hid (∀ j, j < k → celB (L.getD j 0) = true)) (fun _ i => L.length - (intOf i).toNat)
      case atStart => exact ⟨0, by omega, rfl, Lib.hid (fun j hj => by omega)⟩
      case round =>
        obtain ⟨k, hk, rfl, HA⟩ := hrel
        by_cases hlt : k < L.length
        · obtain ⟨b, off, rfl, hb, hcell⟩ := HC.out (by omega)
          have hc := hcell k hlt
          have hbd := HY.out k
          by_cases hcb : celB (L.getD k 0) = true
          · have HN := Lib.hid (upto_succ (p := fun j => celB (L.getD j 0) = true) HA.out hcb)
            have hq := (celB_iff _).1 hcb
            obtain ⟨q0, q1⟩ := hq
            clear hcb hcell
            generalize L.getD k 0 = z at *
            go_wp2
            go_round
            case rel => exact ⟨k + 1, by omega, by go_num, HN⟩
            case measure => simp [intOf]; omega
          · have hcb : celB (L.getD k 0) = false := by simpa using hcb
            have e5 := H5.out k hlt hcb
            have hq := celB_no hcb
            have E5 := Lib.hid e5
            clear hcb hcell H5 H0 e5
            generalize L.getD k 0 = z at *
            rcases hq with hq | hq
            · go_wp2
              go_ret
              exact ⟨ret_int E5.out.symm, b1 _⟩
            · have hq0 : ¬ z < 0 := by omega
              go_wp2
              go_ret
              exact ⟨ret_int E5.out.symm, b1 _⟩
        · obtain rfl : k = L.length := by omega
          have E0 := Lib.hid (H0.out HA.out)
          go_wp2
          go_ret
          exact ⟨ret_int E0.out.symm, b1 _⟩
    · rw [cmE_len hE hL]
      rw [hE] at hs
      have hL2 : ((L.length : Int) != D * S) = true := by simpa using hL
      clear hE hy h1 h2 h3
      go_enter Tryz.func106, Tryz.ntmps106
      go_wp2_with (go_at_call 139; refine (hs _).mono ?_; rintro e w' ⟨rfl, rfl⟩)
      go_ret
      exact ⟨rfl, b1 _⟩
end Go.Proofs.YtjibbnknliamkaaGreatDoor
