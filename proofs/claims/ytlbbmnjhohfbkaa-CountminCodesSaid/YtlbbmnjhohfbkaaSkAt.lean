/- A sketch in a struct of the call's own, as the law's walks keep it from call to call. -/
import Derived.Test.YtlbbmnjhohfbkaaCmNew
import Derived.Test.YtlbbmnjhohfbkaaCmMem
namespace Go.Proofs.Ytlbbmnjhohfbkaa
open Go.RowKit
set_option linter.unusedVariables false
set_option linter.unusedSimpArgs false
/-- A sketch lies in block g, its cells can be read. -/
def SkAt (g : Nat) (c : CM) (v : Value) (w : World) : Prop := CSt g c.D c.S c.x v c.s w ∧ RdI c.L v w ∧ g < w.heap.size
theorem SkAt.new {c : CM} {v : Value} {w : World} (h : RdI c.L v w) (t : TypeId) : SkAt w.heap.size c v (w.alloc (.cells #[.int .i64 c.D, .int .i64 c.S, .int .u64 c.x, v, .bool c.s] t)) :=
  ⟨CSt.new _ _ _ _ _ _ _, h.below (b1 _), by simp⟩
theorem SkAt.below {g : Nat} {c : CM} {v : Value} {w w' : World} (h : SkAt g c v w) (hb : Below w.heap.size w w') : SkAt g c v w' :=
  ⟨h.1.below hb h.2.2, h.2.1.below hb, Nat.lt_of_lt_of_le h.2.2 hb.size⟩
theorem SkAt.go {g : Nat} {c : CM} {v : Value} {w w' : World} (h : SkAt g c v w) {o : Obj} (hb : Below (w.alloc o).heap.size (w.alloc o) w') : SkAt g c v w' :=
  (h.below (b1 o)).below hb
theorem SkAt.alloc {g : Nat} {c : CM} {v : Value} {w : World} (h : SkAt g c v w) (o : Obj) : SkAt g c v (w.alloc o) := h.below (b1 o)
theorem SkAt.rd {g : Nat} {c : CM} {a : Option Addr} {n cap : Nat} {w : World} (h : SkAt g c (.slice a n cap) w) : RdC c (.agg #[.int .i64 c.D, .int .i64 c.S, .int .u64 c.x, .slice a n cap, .bool c.s]) w := ⟨a, n, cap, rfl, h.2.1⟩
/-- A sketch in block g, and all that lay in X. -/
def HoldC (X : World) (g : Nat) (c : CM) (v : Value) (w : World) : Prop := Below X.heap.size X w ∧ w.cell? ⟨g, 0, none⟩ = some (.int .i64 c.D) ∧ w.cell? ⟨g, 1, none⟩ = some (.int .i64 c.S) ∧ w.cell? ⟨g, 2, none⟩ = some (.int .u64 c.x) ∧ w.cell? ⟨g, 3, none⟩ = some v ∧ w.cell? ⟨g, 4, none⟩ = some (.bool c.s)
theorem HoldC.below {X : World} {g : Nat} {c : CM} {v : Value} {w w' : World} (h : HoldC X g c v w) (hb : Below w.heap.size w w') : HoldC X g c v w' := by
  obtain ⟨h, h0, h1, h2, h3, h4⟩ := h
  have l : g < w.heap.size := block_lt_of_cell h0
  have f : ∀ j, w'.cell? ⟨g, j, none⟩ = w.cell? ⟨g, j, none⟩ := fun j => hb.cell (p := ⟨g, j, none⟩) l
  exact ⟨bgo h hb, (f _).trans h0, (f _).trans h1, (f _).trans h2, (f _).trans h3, (f _).trans h4⟩
theorem HoldC.of {g : Nat} {c : CM} {v : Value} {X w : World} (h : SkAt g c v w) (hb : Below X.heap.size X w) : HoldC X g c v w := by
  obtain ⟨⟨⟨p0, p1, p2, p3, p4⟩, _⟩, _⟩ := h
  exact ⟨hb, p0, p1, p2, p3, p4⟩
theorem HoldC.bel {X : World} {g : Nat} {c : CM} {v : Value} {w : World} (h : HoldC X g c v w) : Below X.heap.size X w := h.1
end Go.Proofs.Ytlbbmnjhohfbkaa
