/- A sketch in a struct of the call's own, as the law's walks keep it from call to call. -/
import Derived.Test.YtgnopnifdiipkaaDoorLl
namespace Go.Proofs.YtgnopnifdiipkaaDoor
open Go.RowKit
set_option linter.unusedVariables false
set_option linter.unusedSimpArgs false
/-- A sketch lies in block g, its cells can be read. -/
def SkL (g : Nat) (c : LL) (v : Value) (w : World) : Prop := LSt g c.P c.x v w ∧ RdI c.L v w ∧ g < w.heap.size
theorem SkL.new {c : LL} {v : Value} {w : World} (h : RdI c.L v w) (t : TypeId) : SkL w.heap.size c v (w.alloc (.cells #[.int .i64 c.P, .int .u64 c.x, v] t)) :=
  ⟨LSt.new _ _ _ _ _, h.below (b1 _), by simp⟩
theorem SkL.below {g : Nat} {c : LL} {v : Value} {w w' : World} (h : SkL g c v w) (hb : Below w.heap.size w w') : SkL g c v w' :=
  ⟨h.1.below hb h.2.2, h.2.1.below hb, Nat.lt_of_lt_of_le h.2.2 hb.size⟩
theorem SkL.go {g : Nat} {c : LL} {v : Value} {w w' : World} (h : SkL g c v w) {o : Obj} (hb : Below (w.alloc o).heap.size (w.alloc o) w') : SkL g c v w' :=
  (h.below (b1 o)).below hb
theorem SkL.alloc {g : Nat} {c : LL} {v : Value} {w : World} (h : SkL g c v w) (o : Obj) : SkL g c v (w.alloc o) := h.below (b1 o)
theorem SkL.rd {g : Nat} {c : LL} {a : Option Addr} {n cap : Nat} {w : World} (h : SkL g c (.slice a n cap) w) : RdL c (.agg #[.int .i64 c.P, .int .u64 c.x, .slice a n cap]) w := ⟨a, n, cap, rfl, h.2.1⟩
/-- A sketch in block g, and all that lay in X. -/
def HoldL (X : World) (g : Nat) (c : LL) (v : Value) (w : World) : Prop := Below X.heap.size X w ∧ w.cell? ⟨g, 0, none⟩ = some (.int .i64 c.P) ∧ w.cell? ⟨g, 1, none⟩ = some (.int .u64 c.x) ∧ w.cell? ⟨g, 2, none⟩ = some v
theorem HoldL.below {X : World} {g : Nat} {c : LL} {v : Value} {w w' : World} (h : HoldL X g c v w) (hb : Below w.heap.size w w') : HoldL X g c v w' := by
  obtain ⟨h, h0, h1, h2⟩ := h
  have l : g < w.heap.size := block_lt_of_cell h0
  have f : ∀ j, w'.cell? ⟨g, j, none⟩ = w.cell? ⟨g, j, none⟩ := fun j => hb.cell (p := ⟨g, j, none⟩) l
  exact ⟨bgo h hb, (f _).trans h0, (f _).trans h1, (f _).trans h2⟩
theorem HoldL.of {g : Nat} {c : LL} {v : Value} {X w : World} (h : SkL g c v w) (hb : Below X.heap.size X w) : HoldL X g c v w := by
  obtain ⟨⟨⟨p0, p1, p2⟩, _⟩, _⟩ := h
  exact ⟨hb, p0, p1, p2⟩
theorem HoldL.bel {X : World} {g : Nat} {c : LL} {v : Value} {w : World} (h : HoldL X g c v w) : Below X.heap.size X w := h.1
end Go.Proofs.YtgnopnifdiipkaaDoor
