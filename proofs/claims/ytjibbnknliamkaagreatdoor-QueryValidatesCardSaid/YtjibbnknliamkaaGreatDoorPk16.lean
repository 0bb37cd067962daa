/- FqG, ISrt, FqIns: in one text. -/
import Derived.Test.YtjibbnknliamkaaGreatDoorPk05
import Derived.Test.YtjibbnknliamkaaGreatDoorPk07
import Derived.Test.YtjibbnknliamkaaGreatDoorPk01
import Derived.Test.YtjibbnknliamkaaGreatDoorPk03
import Derived.Test.YtjibbnknliamkaaGreatDoorPk00
import Derived.Test.YtjibbnknliamkaaGreatDoorPk09
import Derived.Lib.AppendZeros
import Derived.Lib.SliceRun
import Derived.Shelf.Abstract
import Derived.Deep.Cut
namespace Go.Proofs.YtjibbnknliamkaaGreatDoor
open Go.RowKit
set_option linter.unusedVariables false
set_option linter.unusedSimpArgs false
/-- How much, and what, of three lists lies behind k of them. -/
def p3 (a b c : Nat) : Nat → Nat
  | 0 => 0
  | 1 => a
  | 2 => a + b
  | _ => a + b + c
def l3 (A B C : List Ent) : Nat → List Ent
  | 0 => []
  | 1 => A
  | 2 => A ++ B
  | _ => A ++ B ++ C
end Go.Proofs.YtjibbnknliamkaaGreatDoor
namespace Go.Proofs.YtjibbnknliamkaaGreatDoor
open Go.RowKit
set_option linter.unusedVariables false
set_option linter.unusedSimpArgs false
theorem OwnI.cellAt {B : Nat} {L : List Int} {g n cap : Nat} {w : World} (h : OwnI B L (.slice (some ⟨g, 0, none⟩) n cap) w) {j : Nat} (hj : j < L.length) : w.cell? ⟨g, j, none⟩ = some (.int .i64 (L.getD j 0)) ∧ w.frozen? ⟨g, j, none⟩ = false := by
  obtain ⟨g', he, -, -, hc, -⟩ := h.cells (by omega)
  cases he
  exact hc j hj
theorem OwnI.put {B : Nat} {L : List Int} {g n cap : Nat} {w : World} (h : OwnI B L (.slice (some ⟨g, 0, none⟩) n cap) w) (hp : 0 < L.length) (j : Nat) {c : Int} (hc : -9223372036854775808 ≤ c ∧ c ≤ 9223372036854775807) : OwnI B (L.set j c) (.slice (some ⟨g, 0, none⟩) n cap) (w.setCell ⟨g, j, none⟩ (.int .i64 c)) := by
  obtain ⟨g', he, -, -, -, hs⟩ := h.cells hp
  cases he
  exact hs j c hc
theorem OwnI.ge {B : Nat} {L : List Int} {g n cap : Nat} {w : World} (h : OwnI B L (.slice (some ⟨g, 0, none⟩) n cap) w) : B ≤ g := by
  rcases h.2.2 with ⟨he, _⟩ | ⟨g', cap', cur, he, hb, _⟩
  · cases he
  · simp only [Value.slice.injEq, Option.some.injEq] at he
    obtain ⟨he, _⟩ := he
    cases he
    exact hb
end Go.Proofs.YtjibbnknliamkaaGreatDoor
namespace Go.Proofs.YtjibbnknliamkaaGreatDoor
open Go.RowKit
set_option linter.unusedVariables false
set_option linter.unusedSimpArgs false
theorem pnewQ_any (S : Int) (w : World) :
    Calls Tryz.prog 179 #[.int .i64 S] w fun e w' => ∃ v, e = .returned (.tuple #[v, .int .i64 (newQE S)]) ∧ OwnQ w.heap.size (newQ S) v w' ∧ Below w.heap.size w w' := by
  have hz := fun w => isSz_any S w
  unfold newQE newQ
  by_cases hs : S < 1 ∨ 32 < S
  · rw [show (decide (1 ≤ S) && decide (S ≤ 32)) = false by rw [Bool.and_eq_false_iff]; simp; omega] at hz
    rw [if_pos hs, if_pos hs]
    clear hs
    go_enter Tryz.func179, Tryz.ntmps179
    go_wp2_with (go_at_call 145; refine (hz _).mono ?_; rintro e w' ⟨rfl, rfl⟩)
    refine bodyPost_ret (v := .tuple #[.agg #[.int .i64 0, .int .i64 0, .int .i64 0, .slice none 0 0, .bool false], .int .i64 5]) (by simp [results, Tryz.results179, go_sem, *]) rfl ⟨_, rfl, ⟨none, 0, 0, rfl, OwnE.empty _ _⟩, b1 _⟩
  · rw [show (decide (1 ≤ S) && decide (S ≤ 32)) = true by simp; omega] at hz
    rw [if_neg hs, if_neg hs]
    clear hs
    go_enter Tryz.func179, Tryz.ntmps179
    go_wp2_with (go_at_call 145; refine (hz _).mono ?_; rintro e w' ⟨rfl, rfl⟩)
    refine bodyPost_ret (v := .tuple #[.agg #[.int .i64 S, .int .i64 0, .int .i64 0, .slice none 0 0, .bool false], .int .i64 0]) (by simp [results, Tryz.results179, go_sem, *]) rfl ⟨_, rfl, ⟨none, 0, 0, rfl, OwnE.empty _ _⟩, b1 _⟩
section
variable {W w w' : World} {a : FQ} {v : Value} {k : ByteArray} {x : Int}
end
end Go.Proofs.YtjibbnknliamkaaGreatDoor
