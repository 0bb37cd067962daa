/- Rank summaries in blocks of a law; coins that a law looks at. -/
import Derived.Test.YtdifilhfmbpalaaDoorRkZ
import Derived.Test.YtdifilhfmbpalaaDoorLaw11X
namespace Go.Proofs.YtdifilhfmbpalaaDoor
open Go.RowKit
set_option linter.unusedVariables false
set_option linter.unusedSimpArgs false
/-- Summary c lies in block g, its levels can be read. -/
def SkR (g : Nat) (c : RK) (v : Value) (w : World) : Prop := RsS g c.S c.T c.K v c.s w ∧ RdB 0 c.L v w
section
variable {g : Nat} {c : RK} {v : Value} {w w' : World}
theorem SkR.go (h : SkR g c v w) (hb : Below w.heap.size w w') : SkR g c v w' := ⟨h.1.go hb, h.2.below hb⟩
theorem SkR.al (h : SkR g c v w) (o : Obj) : SkR g c v (w.alloc o) := h.go (b1 o)
theorem SkR.lt (h : SkR g c v w) : g < w.heap.size := h.1.lt
theorem SkR.lv (h : SkR g c v w) : RdL c.L v w := h.2.rd
theorem SkR.rd {a : Option Addr} {n cap : Nat} (h : SkR g c (.slice a n cap) w) : RdR c (.agg #[.int .i64 c.S, .int .i64 c.T, .int .i64 c.K, .slice a n cap, .bool c.s]) w := ⟨a, n, cap, rfl, h.2.rd⟩
theorem SkR.rb {a : Option Addr} {n cap : Nat} (h : SkR g c (.slice a n cap) w) : RbR 0 c (.agg #[.int .i64 c.S, .int .i64 c.T, .int .i64 c.K, .slice a n cap, .bool c.s]) w := ⟨a, n, cap, rfl, h.2⟩
theorem SkR.new {B : Nat} (h : RdB B c.L v w) : SkR w.heap.size c v (w.alloc (.cells #[.int .i64 c.S, .int .i64 c.T, .int .i64 c.K, v, .bool c.s] 28)) := ⟨RsS.new _ _ _ _ _ _ _, (h.mono (Nat.zero_le _)).below (b1 _)⟩
theorem SkR.next {B : Nat} {o : Obj} (h : RdB B c.L v w) : SkR (w.heap.size + 1) c v ((w.alloc o).alloc (.cells #[.int .i64 c.S, .int .i64 c.T, .int .i64 c.K, v, .bool c.s] 28)) := by
  have := SkR.new (c := c) (h.below (b1 o))
  rwa [show (w.alloc o).heap.size = w.heap.size + 1 by simp] at this
theorem SkR.cells (h : SkR g c v w) : w.cell? ⟨g, 0, none⟩ = some (.int .i64 c.S) ∧ w.cell? ⟨g, 1, none⟩ = some (.int .i64 c.T) ∧ w.cell? ⟨g, 2, none⟩ = some (.int .i64 c.K) ∧ w.cell? ⟨g, 3, none⟩ = some v ∧ w.cell? ⟨g, 4, none⟩ = some (.bool c.s) := h.1.1
end
/-- A summary and an item in two new blocks. -/
theorem startR {c : RK} {a : Option Addr} {n cap B : Nat} {w : World} (h : RdB B c.L (.slice a n cap) w) (K : ByteArray) (y : Int) :
    SkR w.heap.size c (.slice a n cap) ((w.alloc (.cells #[.int .i64 c.S, .int .i64 c.T, .int .i64 c.K, .slice a n cap, .bool c.s] 28)).alloc (.cells #[.string K, .int .i64 y] 32)) ∧ Two (w.heap.size + 1) K y ((w.alloc (.cells #[.int .i64 c.S, .int .i64 c.T, .int .i64 c.K, .slice a n cap, .bool c.s] 28)).alloc (.cells #[.string K, .int .i64 y] 32)) ∧ Below w.heap.size w ((w.alloc (.cells #[.int .i64 c.S, .int .i64 c.T, .int .i64 c.K, .slice a n cap, .bool c.s] 28)).alloc (.cells #[.string K, .int .i64 y] 32)) := by
  refine ⟨(SkR.new h).al _, ?_, b2 _ _⟩
  have := Two.new (w.alloc (.cells #[.int .i64 c.S, .int .i64 c.T, .int .i64 c.K, .slice a n cap, .bool c.s] 28)) K y 32
  rwa [show (w.alloc (.cells #[.int .i64 c.S, .int .i64 c.T, .int .i64 c.K, .slice a n cap, .bool c.s] 28)).heap.size = w.heap.size + 1 by simp] at this
theorem lok_nil : LOk [] := ⟨by simp, by simp⟩
theorem insR_lok (c : RK) (k : ByteArray) (x : Int) (Z : List Int) (a : Int) : LOk (insR c k x Z a).1.L := by
  unfold insR
  split
  · rename_i hv
    split
    · rename_i hi
      have hir := itemR hi.1
      have v := valR_ok hv
      exact (sumK_val (Z := Z) (a := a) v (Kn.one (k := k) v.s0 v.s1 v.ev hir.1 hir.2.1 hir.2.2).v).lok
    · exact lok_nil
  · exact lok_nil
theorem merR_lok (c d : RK) (Z : List Int) (a : Int) : LOk (merR c d Z a).1.L := by
  unfold merR
  split
  · rename_i hv
    split
    · rename_i hw
      split
      · exact (sumK_val (Z := Z) (a := a) (valR_ok hv) (valR_ok hw)).lok
      · exact lok_nil
    · exact lok_nil
  · exact lok_nil
theorem newR_lok (S : Int) : LOk (newR S).L := by unfold newR; split <;> exact lok_nil
/-- The cells of five blocks survive. -/
theorem cell_ltR {w : World} {g o : Nat} {v : Value} (h : w.cell? ⟨g, o, none⟩ = some v) : g < w.heap.size := by
  unfold World.cell? at h
  cases hb : w.heap[g]? with
  | none => simp [hb] at h
  | some o => exact (Array.getElem?_eq_some_iff.1 hb).1
theorem five_belowR {g : Nat} {w w' : World} {a b c d e : Value} (hb : Below w.heap.size w w') (h : w.cell? ⟨g, 0, none⟩ = some a ∧ w.cell? ⟨g, 1, none⟩ = some b ∧ w.cell? ⟨g, 2, none⟩ = some c ∧ w.cell? ⟨g, 3, none⟩ = some d ∧ w.cell? ⟨g, 4, none⟩ = some e) :
    w'.cell? ⟨g, 0, none⟩ = some a ∧ w'.cell? ⟨g, 1, none⟩ = some b ∧ w'.cell? ⟨g, 2, none⟩ = some c ∧ w'.cell? ⟨g, 3, none⟩ = some d ∧ w'.cell? ⟨g, 4, none⟩ = some e := by
  have l : g < w.heap.size := cell_ltR h.1
  have f : ∀ j, w'.cell? ⟨g, j, none⟩ = w.cell? ⟨g, j, none⟩ := fun j => hb.cell (p := ⟨g, j, none⟩) l
  exact ⟨(f _).trans h.1, (f _).trans h.2.1, (f _).trans h.2.2.1, (f _).trans h.2.2.2.1, (f _).trans h.2.2.2.2⟩
end Go.Proofs.YtdifilhfmbpalaaDoor
