/- Summaries in the law's variables. -/
import Derived.Test.YtmmdnomfpfcjiaaFqR
import Derived.Test.YtmmdnomfpfcjiaaSkQ
namespace Go.Proofs.Ytmmdnomfpfcjiaa
open Go.RowKit
set_option linter.unusedVariables false
set_option linter.unusedSimpArgs false
/-- Five stores into block g. -/
def put5 (w : World) (g : Nat) (x0 x1 x2 x3 x4 : Value) : World := ((((w.setCell ⟨g, 0, none⟩ x0).setCell ⟨g, 1, none⟩ x1).setCell ⟨g, 2, none⟩ x2).setCell ⟨g, 3, none⟩ x3).setCell ⟨g, 4, none⟩ x4
theorem put5_heap (w : World) {g i : Nat} (h : i ≠ g) (x0 x1 x2 x3 x4 : Value) : (put5 w g x0 x1 x2 x3 x4).heap[i]? = w.heap[i]? := by
  unfold put5
  rw [Below.heap_setCell _ ⟨g, 4, none⟩ _ _ h, Below.heap_setCell _ ⟨g, 3, none⟩ _ _ h, Below.heap_setCell _ ⟨g, 2, none⟩ _ _ h, Below.heap_setCell _ ⟨g, 1, none⟩ _ _ h, Below.heap_setCell _ ⟨g, 0, none⟩ _ _ h]
theorem put5_bel {W w : World} (h : Below W.heap.size W w) {g : Nat} (hg : W.heap.size ≤ g) (x0 x1 x2 x3 x4 : Value) : Below W.heap.size W (put5 w g x0 x1 x2 x3 x4) := bset (bset (bset (bset (bset h _ _ _ hg) _ _ _ hg) _ _ _ hg) _ _ _ hg) _ _ _ hg
/-- The variable in block g holds summary c; its slice is v. -/
def VtQ (g : Nat) (c : FQ) (v : Value) (w : World) : Prop := TQ g c.S c.T c.K v c.s w ∧ ∃ B, OwnE B c.L v w
theorem VtQ.lt {g : Nat} {c : FQ} {v : Value} {w : World} (h : VtQ g c v w) : g < w.heap.size := h.1.lt
theorem VtQ.rd {g : Nat} {c : FQ} {v : Value} {w : World} (h : VtQ g c v w) : RdE c.L v w := by obtain ⟨_, B, h⟩ := h; exact h.rd
theorem VtQ.rq {g : Nat} {c : FQ} {a : Option Addr} {n cap : Nat} {w : World} (h : VtQ g c (.slice a n cap) w) : RdQ c (.agg #[.int .i64 c.S, .int .i64 c.T, .int .i64 c.K, .slice a n cap, .bool c.s]) w := ⟨a, n, cap, rfl, h.rd⟩
theorem VtQ.go {g : Nat} {c : FQ} {v : Value} {w w' : World} (h : VtQ g c v w) (hb : Below w.heap.size w w') : VtQ g c v w' := by
  obtain ⟨h1, B, h2⟩ := h
  exact ⟨h1.keep (hb.block _ h1.lt), B, h2.below hb⟩
theorem VtQ.al {g : Nat} {c : FQ} {v : Value} {w : World} (h : VtQ g c v w) (o : Obj) : VtQ g c v (w.alloc o) := h.go (b1 o)
theorem VtQ.new {c : FQ} {v : Value} {B : Nat} {w : World} (h : OwnE B c.L v w) : VtQ w.heap.size c v (w.alloc (.cells #[.int .i64 c.S, .int .i64 c.T, .int .i64 c.K, v, .bool c.s] 25)) := ⟨TQ.new _ _ _ _ _ _, B, h.alloc _⟩
theorem VtQ.cells {g : Nat} {c : FQ} {v : Value} {w : World} (h : VtQ g c v w) :
    (w.cell? ⟨g, 0, none⟩ = some (.int .i64 c.S) ∧ w.cell? ⟨g, 1, none⟩ = some (.int .i64 c.T) ∧ w.cell? ⟨g, 2, none⟩ = some (.int .i64 c.K) ∧ w.cell? ⟨g, 3, none⟩ = some v ∧ w.cell? ⟨g, 4, none⟩ = some (.bool c.s)) ∧ w.frozen? ⟨g, 0, none⟩ = false ∧ w.frozen? ⟨g, 1, none⟩ = false ∧ w.frozen? ⟨g, 2, none⟩ = false ∧ w.frozen? ⟨g, 3, none⟩ = false ∧ w.frozen? ⟨g, 4, none⟩ = false := h.1.cells
/-- It is overwritten. -/
theorem VtQ.put {g : Nat} {c d : FQ} {v : Value} {w : World} (h : VtQ g c v w) {B : Nat} {u : Value} (hd : OwnE B d.L u w) : VtQ g d u (put5 w g (.int .i64 d.S) (.int .i64 d.T) (.int .i64 d.K) u (.bool d.s)) := by
  have ha := h.1.apart hd
  exact ⟨((((h.1.set0 d.S).set1 d.T).set2 d.K).set3 u).set4 d.s, B, (((((hd.away ha _ _).away ha _ _).away ha _ _).away ha _ _).away ha _ _)⟩
/-- Another variable is written. -/
theorem VtQ.other {g k : Nat} {c e : FQ} {v v' : Value} {w : World} (h : VtQ g c v w) (hk : VtQ k e v' w) (hne : g ≠ k) (x0 x1 x2 x3 x4 : Value) : VtQ g c v (put5 w k x0 x1 x2 x3 x4) := by
  obtain ⟨h1, B, h2⟩ := h
  have ha := hk.1.apart h2
  exact ⟨h1.keep (put5_heap w hne _ _ _ _ _), B, (((((h2.away ha _ _).away ha _ _).away ha _ _).away ha _ _).away ha _ _)⟩
/-- Two variables. -/
def VQ2 (W : World) (g : Nat) (c : FQ) (v : Value) (k : Nat) (d : FQ) (u : Value) (w : World) : Prop := VtQ g c v w ∧ VtQ k d u w ∧ g ≠ k ∧ W.heap.size ≤ g ∧ W.heap.size ≤ k ∧ Below W.heap.size W w
section
variable {W : World} {g k : Nat} {c d e : FQ} {v u : Value} {w w' : World}
theorem VQ2.go (h : VQ2 W g c v k d u w) (hb : Below w.heap.size w w') : VQ2 W g c v k d u w' := ⟨h.1.go hb, h.2.1.go hb, h.2.2.1, h.2.2.2.1, h.2.2.2.2.1, bgo h.2.2.2.2.2 hb⟩
theorem VQ2.al (h : VQ2 W g c v k d u w) (o : Obj) : VQ2 W g c v k d u (w.alloc o) := h.go (b1 o)
theorem VQ2.bel (h : VQ2 W g c v k d u w) : Below W.heap.size W w := h.2.2.2.2.2
theorem VQ2.one (h : VQ2 W g c v k d u w) : VtQ g c v w := h.1
theorem VQ2.two (h : VQ2 W g c v k d u w) : VtQ k d u w := h.2.1
theorem VQ2.put1 (h : VQ2 W g c v k d u w) {B : Nat} {x : Value} (he : OwnE B e.L x w) : VQ2 W g e x k d u (put5 w g (.int .i64 e.S) (.int .i64 e.T) (.int .i64 e.K) x (.bool e.s)) := by
  obtain ⟨h1, h2, h3, h4, h5, h6⟩ := h
  exact ⟨h1.put he, h2.other h1 (Ne.symm h3) _ _ _ _ _, h3, h4, h5, put5_bel h6 h4 _ _ _ _ _⟩
theorem VQ2.put2 (h : VQ2 W g c v k d u w) {B : Nat} {x : Value} (he : OwnE B e.L x w) : VQ2 W g c v k e x (put5 w k (.int .i64 e.S) (.int .i64 e.T) (.int .i64 e.K) x (.bool e.s)) := by
  obtain ⟨h1, h2, h3, h4, h5, h6⟩ := h
  exact ⟨h1.other h2 h3 _ _ _ _ _, h2.put he, h3, h4, h5, put5_bel h6 h5 _ _ _ _ _⟩
theorem VQ2.new {B : Nat} (h : VtQ g c v w) (hb : Below W.heap.size W w) (hw : Below w.heap.size w w') (ho : OwnE B d.L u w') (hg : W.heap.size ≤ g) :
    VQ2 W g c v w'.heap.size d u (w'.alloc (.cells #[.int .i64 d.S, .int .i64 d.T, .int .i64 d.K, u, .bool d.s] 25)) := by
  have hl := (h.go hw).lt
  exact ⟨(h.go hw).al _, VtQ.new ho, by omega, hg, (bgo hb hw).size, bal (bgo hb hw) _⟩
end
/-- The item in block i survives that a variable is written. -/
theorem Two.otherQ {i : Nat} {K : ByteArray} {y : Int} {w : World} (h : Two i K y w) {g : Nat} (x0 x1 x2 x3 x4 : Value) (hne : i ≠ g) : Two i K y (put5 w g x0 x1 x2 x3 x4) := by
  have hb := put5_heap w hne x0 x1 x2 x3 x4
  exact ⟨(World.cell?_of_block (w := w) (a := ⟨i, 0, none⟩) hb).trans h.1, (World.cell?_of_block (w := w) (a := ⟨i, 1, none⟩) hb).trans h.2.1, by unfold put5; simpa using h.2.2⟩
end Go.Proofs.Ytmmdnomfpfcjiaa
