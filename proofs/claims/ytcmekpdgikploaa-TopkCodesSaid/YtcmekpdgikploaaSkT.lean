/- A summary in a struct of the call's own, as the laws' walks keep it from call to call; bounds on made summaries. -/
import Derived.Test.YtcmekpdgikploaaTopN
import Derived.Test.YtcmekpdgikploaaMade9
namespace Go.Proofs.Ytcmekpdgikploaa
open Go.RowKit
set_option linter.unusedVariables false
set_option linter.unusedSimpArgs false
theorem WfT.b0 {c : TP} (h : WfT c) : -9223372036854775808 ≤ c.S := h.1.1
theorem WfT.b1 {c : TP} (h : WfT c) : c.S ≤ 9223372036854775807 := h.1.2
theorem WfT.b2 {c : TP} (h : WfT c) : -9223372036854775808 ≤ c.T := h.2.1
theorem WfT.b3 {c : TP} (h : WfT c) : c.T ≤ 9223372036854775807 := h.2.2
/-- A summary lies in block g, its entries can be read. -/
def SkT (g : Nat) (c : TP) (v : Value) (w : World) : Prop := TopS g c.S c.T v c.s w ∧ RdE c.L v w
theorem SkT.rdE {g : Nat} {c : TP} {v : Value} {w : World} (h : SkT g c v w) : RdE c.L v w := h.2
theorem SkT.new {c : TP} {v : Value} {w : World} (h : RdE c.L v w) : SkT w.heap.size c v (w.alloc (.cells #[.int .i64 c.S, .int .i64 c.T, v, .bool c.s] 25)) :=
  ⟨TopS.new _ _ _ _ _ _, h.below (b1 _)⟩
theorem SkT.go {g : Nat} {c : TP} {v : Value} {w w' : World} (h : SkT g c v w) (hb : Below w.heap.size w w') : SkT g c v w' := ⟨h.1.below hb h.1.lt, h.2.below hb⟩
theorem SkT.alloc {g : Nat} {c : TP} {v : Value} {w : World} (h : SkT g c v w) (o : Obj) : SkT g c v (w.alloc o) := h.go (b1 o)
theorem SkT.lt {g : Nat} {c : TP} {v : Value} {w : World} (h : SkT g c v w) : g < w.heap.size := h.1.lt
theorem SkT.cells {g : Nat} {c : TP} {v : Value} {w : World} (h : SkT g c v w) : w.cell? ⟨g, 0, none⟩ = some (.int .i64 c.S) ∧ w.cell? ⟨g, 1, none⟩ = some (.int .i64 c.T) ∧ w.cell? ⟨g, 2, none⟩ = some v ∧ w.cell? ⟨g, 3, none⟩ = some (.bool c.s) := h.1.1
theorem SkT.rd {g : Nat} {c : TP} {a : Option Addr} {n cap : Nat} {w : World} (h : SkT g c (.slice a n cap) w) : RdT c (.agg #[.int .i64 c.S, .int .i64 c.T, .slice a n cap, .bool c.s]) w := ⟨a, n, cap, rfl, h.2⟩
/-- Four cells of an older block. -/
theorem four_below {g : Nat} {w w' : World} {a b c d : Value} (hb : Below w.heap.size w w') (h : w.cell? ⟨g, 0, none⟩ = some a ∧ w.cell? ⟨g, 1, none⟩ = some b ∧ w.cell? ⟨g, 2, none⟩ = some c ∧ w.cell? ⟨g, 3, none⟩ = some d) : w'.cell? ⟨g, 0, none⟩ = some a ∧ w'.cell? ⟨g, 1, none⟩ = some b ∧ w'.cell? ⟨g, 2, none⟩ = some c ∧ w'.cell? ⟨g, 3, none⟩ = some d := by
  have l : g < w.heap.size := block_lt_of_cell h.1
  have f : ∀ j, w'.cell? ⟨g, j, none⟩ = w.cell? ⟨g, j, none⟩ := fun j => hb.cell (p := ⟨g, j, none⟩) l
  exact ⟨(f _).trans h.1, (f _).trans h.2.1, (f _).trans h.2.2.1, (f _).trans h.2.2.2⟩
/-- A struct of two cells: an item. -/
def Two (g : Nat) (K : ByteArray) (y : Int) (w : World) : Prop := w.cell? ⟨g, 0, none⟩ = some (.string K) ∧ w.cell? ⟨g, 1, none⟩ = some (.int .i64 y) ∧ g < w.heap.size
theorem Two.new (w : World) (K : ByteArray) (y : Int) (t : TypeId) : Two w.heap.size K y (w.alloc (.cells #[.string K, .int .i64 y] t)) := ⟨by go_simp, by go_simp, by simp⟩
theorem Two.below {g : Nat} {K : ByteArray} {y : Int} {w w' : World} (h : Two g K y w) (hb : Below w.heap.size w w') : Two g K y w' :=
  ⟨(hb.cell (p := ⟨g, 0, none⟩) h.2.2).trans h.1, (hb.cell (p := ⟨g, 1, none⟩) h.2.2).trans h.2.1, Nat.lt_of_lt_of_le h.2.2 hb.size⟩
theorem start9 {c : TP} {a : Option Addr} {n cap : Nat} {w : World} (h : RdE c.L (.slice a n cap) w) (K : ByteArray) (y : Int) :
    SkT w.heap.size c (.slice a n cap) ((w.alloc (.cells #[.int .i64 c.S, .int .i64 c.T, .slice a n cap, .bool c.s] 25)).alloc (.cells #[.string K, .int .i64 y] 29)) ∧ Two (w.heap.size + 1) K y ((w.alloc (.cells #[.int .i64 c.S, .int .i64 c.T, .slice a n cap, .bool c.s] 25)).alloc (.cells #[.string K, .int .i64 y] 29)) ∧ Below w.heap.size w ((w.alloc (.cells #[.int .i64 c.S, .int .i64 c.T, .slice a n cap, .bool c.s] 25)).alloc (.cells #[.string K, .int .i64 y] 29)) := by
  refine ⟨(SkT.new h).alloc _, ?_, b2 _ _⟩
  have := Two.new (w.alloc (.cells #[.int .i64 c.S, .int .i64 c.T, .slice a n cap, .bool c.s] 25)) K y 29
  rwa [show (w.alloc (.cells #[.int .i64 c.S, .int .i64 c.T, .slice a n cap, .bool c.s] 25)).heap.size = w.heap.size + 1 by simp] at this
/-- Insertions never lengthen a list beyond the size. -/
theorem insA_len {S : Int} {L : List Ent} (s0 : 1 ≤ S) (hl : (L.length : Int) ≤ S) (k : ByteArray) (x : Int) : ((insA S L k x).length : Int) ≤ S := by
  unfold insA
  split
  · rw [List.length_set]; exact hl
  · rw [List.length_append, List.length_take]
    simp
    omega
theorem insTop_four {c : TP} (h : c.S ≤ 4) (k : ByteArray) (x : Int) : (insTop c k x).S ≤ 4 ∧ (insTop c k x).L.length ≤ 4 := by
  unfold insTop
  split
  · exact ⟨by decide, by decide⟩
  · rename_i hv
    split
    · exact ⟨by decide, by decide⟩
    · have hv := valE_ok (by simpa using hv)
      refine ⟨h, ?_⟩
      dsimp only
      rw [sortE_len]
      have := insA_len hv.s0 hv.len k x
      omega
theorem mdT_four {c : TP} (h : c.S ≤ 4 ∧ c.L.length ≤ 4) (l : List Int) : (mdT c l).S ≤ 4 ∧ (mdT c l).L.length ≤ 4 := by
  unfold mdT
  induction l generalizing c with
  | nil => exact h
  | cons n l ih => exact ih (insTop_four h.1 _ _)
/-- What is known of a made summary. -/
theorem madeT_ok (S : Int) (L : List Int) : WfT (madeT S L) ∧ (madeT S L).S ≤ 4 ∧ (madeT S L).L.length ≤ 4 := by
  unfold madeT
  refine ⟨(newT_wf (by omega) (by omega)).up _, mdT_four ?_ _⟩
  unfold newT
  rw [if_neg (by omega)]
  exact ⟨by dsimp only; omega, by simp⟩
theorem newT_ok {S : Int} (h0 : -9223372036854775808 ≤ S) (h1 : S ≤ 9223372036854775807) : WfT (newT S) ∧ (newT S).L.length ≤ 32 := ⟨newT_wf h0 h1, newT_len S⟩
end Go.Proofs.Ytcmekpdgikploaa
