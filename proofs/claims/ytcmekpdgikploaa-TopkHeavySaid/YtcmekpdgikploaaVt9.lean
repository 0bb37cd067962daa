/- Summaries in variables of a law: each a struct that is written, and entries of the call's own. -/
import Derived.Test.YtcmekpdgikploaaRIns
import Derived.Test.YtcmekpdgikploaaSkT
import Derived.Test.YtcmekpdgikploaaMerS
namespace Go.Proofs.Ytcmekpdgikploaa
open Go.RowKit
set_option linter.unusedVariables false
set_option linter.unusedSimpArgs false
/-- The variable in block g holds summary c; its slice is v. -/
def Vt (g : Nat) (c : TP) (v : Value) (w : World) : Prop := TR g c.S c.T v c.s w ∧ ∃ B, OwnE B c.L v w
theorem Vt.lt {g : Nat} {c : TP} {v : Value} {w : World} (h : Vt g c v w) : g < w.heap.size := h.1.lt
theorem Vt.rd {g : Nat} {c : TP} {v : Value} {w : World} (h : Vt g c v w) : RdE c.L v w := by obtain ⟨_, B, h⟩ := h; exact h.rd
theorem Vt.go {g : Nat} {c : TP} {v : Value} {w w' : World} (h : Vt g c v w) (hb : Below w.heap.size w w') : Vt g c v w' := by
  obtain ⟨h1, B, h2⟩ := h
  exact ⟨h1.keep (hb.block _ h1.lt), B, h2.below hb⟩
theorem Vt.al {g : Nat} {c : TP} {v : Value} {w : World} (h : Vt g c v w) (o : Obj) : Vt g c v (w.alloc o) := h.go (b1 o)
theorem Vt.new {c : TP} {v : Value} {B : Nat} {w : World} (h : OwnE B c.L v w) : Vt w.heap.size c v (w.alloc (.cells #[.int .i64 c.S, .int .i64 c.T, v, .bool c.s] 25)) := ⟨TR.new _ _ _ _ _, B, h.alloc _⟩
theorem Vt.cells {g : Nat} {c : TP} {v : Value} {w : World} (h : Vt g c v w) :
    (w.cell? ⟨g, 0, none⟩ = some (.int .i64 c.S) ∧ w.cell? ⟨g, 1, none⟩ = some (.int .i64 c.T) ∧ w.cell? ⟨g, 2, none⟩ = some v ∧ w.cell? ⟨g, 3, none⟩ = some (.bool c.s)) ∧ w.frozen? ⟨g, 0, none⟩ = false ∧ w.frozen? ⟨g, 1, none⟩ = false ∧ w.frozen? ⟨g, 2, none⟩ = false ∧ w.frozen? ⟨g, 3, none⟩ = false := h.1.cells
/-- It is overwritten. -/
theorem Vt.put {g : Nat} {c d : TP} {v : Value} {w : World} (h : Vt g c v w) {B : Nat} {u : Value} (hd : OwnE B d.L u w) : Vt g d u ((((w.setCell ⟨g, 0, none⟩ (.int .i64 d.S)).setCell ⟨g, 1, none⟩ (.int .i64 d.T)).setCell ⟨g, 2, none⟩ u).setCell ⟨g, 3, none⟩ (.bool d.s)) := by
  have ha := h.1.apart hd
  exact ⟨(((h.1.set0 d.S).set1 d.T).set2 u).set3 d.s, B, ((((hd.away ha _ _).away ha _ _).away ha _ _).away ha _ _)⟩
/-- Another variable is written. -/
theorem Vt.other {g k : Nat} {c e : TP} {v v' : Value} {w : World} (h : Vt g c v w) (hk : Vt k e v' w) (hne : g ≠ k) (x0 x1 x2 x3 : Value) : Vt g c v ((((w.setCell ⟨k, 0, none⟩ x0).setCell ⟨k, 1, none⟩ x1).setCell ⟨k, 2, none⟩ x2).setCell ⟨k, 3, none⟩ x3) := by
  obtain ⟨h1, B, h2⟩ := h
  have ha := hk.1.apart h2
  refine ⟨h1.keep ?_, B, ((((h2.away ha _ _).away ha _ _).away ha _ _).away ha _ _)⟩
  rw [Below.heap_setCell _ ⟨k, 3, none⟩ _ _ hne, Below.heap_setCell _ ⟨k, 2, none⟩ _ _ hne, Below.heap_setCell _ ⟨k, 1, none⟩ _ _ hne, Below.heap_setCell _ ⟨k, 0, none⟩ _ _ hne]
/-- Two variables. -/
def V2 (W : World) (g : Nat) (c : TP) (v : Value) (k : Nat) (d : TP) (u : Value) (w : World) : Prop := Vt g c v w ∧ Vt k d u w ∧ g ≠ k ∧ W.heap.size ≤ g ∧ W.heap.size ≤ k ∧ Below W.heap.size W w
theorem V2.go {W : World} {g k : Nat} {c d : TP} {v u : Value} {w w' : World} (h : V2 W g c v k d u w) (hb : Below w.heap.size w w') : V2 W g c v k d u w' := ⟨h.1.go hb, h.2.1.go hb, h.2.2.1, h.2.2.2.1, h.2.2.2.2.1, bgo h.2.2.2.2.2 hb⟩
theorem V2.al {W : World} {g k : Nat} {c d : TP} {v u : Value} {w : World} (h : V2 W g c v k d u w) (o : Obj) : V2 W g c v k d u (w.alloc o) := h.go (b1 o)
theorem V2.bel {W : World} {g k : Nat} {c d : TP} {v u : Value} {w : World} (h : V2 W g c v k d u w) : Below W.heap.size W w := h.2.2.2.2.2
theorem V2.one {W : World} {g k : Nat} {c d : TP} {v u : Value} {w : World} (h : V2 W g c v k d u w) : Vt g c v w := h.1
theorem V2.two {W : World} {g k : Nat} {c d : TP} {v u : Value} {w : World} (h : V2 W g c v k d u w) : Vt k d u w := h.2.1
theorem V2.rd1 {W : World} {g k : Nat} {c d : TP} {v u : Value} {w : World} (h : V2 W g c v k d u w) : RdE c.L v w := h.1.rd
theorem V2.rd2 {W : World} {g k : Nat} {c d : TP} {v u : Value} {w : World} (h : V2 W g c v k d u w) : RdE d.L u w := h.2.1.rd
theorem V2.put1 {W : World} {g k : Nat} {c d e : TP} {v u : Value} {w : World} (h : V2 W g c v k d u w) {B : Nat} {x : Value} (he : OwnE B e.L x w) :
    V2 W g e x k d u ((((w.setCell ⟨g, 0, none⟩ (.int .i64 e.S)).setCell ⟨g, 1, none⟩ (.int .i64 e.T)).setCell ⟨g, 2, none⟩ x).setCell ⟨g, 3, none⟩ (.bool e.s)) := by
  obtain ⟨h1, h2, h3, h4, h5, h6⟩ := h
  exact ⟨h1.put he, h2.other h1 (Ne.symm h3) _ _ _ _, h3, h4, h5, bset (bset (bset (bset h6 _ _ _ h4) _ _ _ h4) _ _ _ h4) _ _ _ h4⟩
theorem V2.put2 {W : World} {g k : Nat} {c d e : TP} {v u : Value} {w : World} (h : V2 W g c v k d u w) {B : Nat} {x : Value} (he : OwnE B e.L x w) :
    V2 W g c v k e x ((((w.setCell ⟨k, 0, none⟩ (.int .i64 e.S)).setCell ⟨k, 1, none⟩ (.int .i64 e.T)).setCell ⟨k, 2, none⟩ x).setCell ⟨k, 3, none⟩ (.bool e.s)) := by
  obtain ⟨h1, h2, h3, h4, h5, h6⟩ := h
  exact ⟨h1.other h2 h3 _ _ _ _, h2.put he, h3, h4, h5, bset (bset (bset (bset h6 _ _ _ h5) _ _ _ h5) _ _ _ h5) _ _ _ h5⟩
theorem V2.new {W : World} {c d : TP} {v u : Value} {B g : Nat} {w w' : World} (h : Vt g c v w) (hb : Below W.heap.size W w) (hw : Below w.heap.size w w') (ho : OwnE B d.L u w') (hg : W.heap.size ≤ g) :
    V2 W g c v w'.heap.size d u (w'.alloc (.cells #[.int .i64 d.S, .int .i64 d.T, u, .bool d.s] 25)) := by
  have hl := (h.go hw).lt
  exact ⟨(h.go hw).al _, Vt.new ho, by omega, hg, (bgo hb hw).size, bal (bgo hb hw) _⟩
/-- The item in block i survives that a variable is written. -/
theorem Two.other {i : Nat} {K : ByteArray} {y : Int} {w : World} (h : Two i K y w) {g : Nat} {c : TP} {v : Value} (hv : Vt g c v w) (x0 x1 x2 x3 : Value) (hne : i ≠ g) : Two i K y ((((w.setCell ⟨g, 0, none⟩ x0).setCell ⟨g, 1, none⟩ x1).setCell ⟨g, 2, none⟩ x2).setCell ⟨g, 3, none⟩ x3) := by
  have hb : ((((w.setCell ⟨g, 0, none⟩ x0).setCell ⟨g, 1, none⟩ x1).setCell ⟨g, 2, none⟩ x2).setCell ⟨g, 3, none⟩ x3).heap[i]? = w.heap[i]? := by
    rw [Below.heap_setCell _ ⟨g, 3, none⟩ _ _ hne, Below.heap_setCell _ ⟨g, 2, none⟩ _ _ hne, Below.heap_setCell _ ⟨g, 1, none⟩ _ _ hne, Below.heap_setCell _ ⟨g, 0, none⟩ _ _ hne]
  exact ⟨(World.cell?_of_block (w := w) (a := ⟨i, 0, none⟩) hb).trans h.1, (World.cell?_of_block (w := w) (a := ⟨i, 1, none⟩) hb).trans h.2.1, by simpa using h.2.2⟩
end Go.Proofs.Ytcmekpdgikploaa
