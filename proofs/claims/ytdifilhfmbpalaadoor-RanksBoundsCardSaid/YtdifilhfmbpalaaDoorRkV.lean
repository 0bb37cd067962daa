/- Rank summaries in the law's variables. -/
import Derived.Test.YtdifilhfmbpalaaDoorRkP
import Derived.Test.YtdifilhfmbpalaaDoorBase
namespace Go.Proofs.YtdifilhfmbpalaaDoor
open Go.RowKit
set_option linter.unusedVariables false
set_option linter.unusedSimpArgs false
/-- No levels: whatever turns. -/
theorem RdB.nilL {B B' : Nat} {v : Value} {w : World} (h : RdB B [] v w) : RdB B' [] v w := by
  obtain ⟨us, h⟩ := h
  have h0 := h w (Nat.le_refl _) (fun _ _ _ => rfl)
  obtain rfl : us = [] := List.eq_nil_of_length_eq_zero h0.2.1
  refine ⟨[], fun w' _ _ => ⟨⟨fun u hu => (by cases hu), ?_⟩, rfl, fun j hj => (by cases hj)⟩⟩
  obtain ⟨-, a, cap, he, h1, h2, -⟩ := h0.1
  exact ⟨a, cap, he, h1, h2, fun h => (by cases h)⟩
/-- Five stores into block g. -/
def put5 (w : World) (g : Nat) (x0 x1 x2 x3 x4 : Value) : World := ((((w.setCell ⟨g, 0, none⟩ x0).setCell ⟨g, 1, none⟩ x1).setCell ⟨g, 2, none⟩ x2).setCell ⟨g, 3, none⟩ x3).setCell ⟨g, 4, none⟩ x4
theorem put5_heap (w : World) {g i : Nat} (h : i ≠ g) (x0 x1 x2 x3 x4 : Value) : (put5 w g x0 x1 x2 x3 x4).heap[i]? = w.heap[i]? := by
  unfold put5
  rw [Below.heap_setCell _ ⟨g, 4, none⟩ _ _ h, Below.heap_setCell _ ⟨g, 3, none⟩ _ _ h, Below.heap_setCell _ ⟨g, 2, none⟩ _ _ h, Below.heap_setCell _ ⟨g, 1, none⟩ _ _ h, Below.heap_setCell _ ⟨g, 0, none⟩ _ _ h]
theorem put5_size (w : World) (g : Nat) (x0 x1 x2 x3 x4 : Value) : (put5 w g x0 x1 x2 x3 x4).heap.size = w.heap.size := by unfold put5; simp
theorem put5_bel {W w : World} (h : Below W.heap.size W w) {g : Nat} (hg : W.heap.size ≤ g) (x0 x1 x2 x3 x4 : Value) : Below W.heap.size W (put5 w g x0 x1 x2 x3 x4) := bset (bset (bset (bset (bset h _ _ _ hg) _ _ _ hg) _ _ _ hg) _ _ _ hg) _ _ _ hg
theorem RdB.put5 {B b : Nat} {L : List (List ByteArray)} {v : Value} {w : World} (h : RdB B L v w) (hb : b < B) (x0 x1 x2 x3 x4 : Value) : RdB B L v (put5 w b x0 x1 x2 x3 x4) := ((((h.under hb).under hb).under hb).under hb).under hb
/-- The variable in block g holds summary c; its slice is v; whatever turns below block B. -/
def VtK (B g : Nat) (c : RK) (v : Value) (w : World) : Prop := RsS g c.S c.T c.K v c.s w ∧ RdB B c.L v w ∧ g < B
section
variable {B g : Nat} {c d : RK} {v u : Value} {w w' : World}
theorem VtK.lt (h : VtK B g c v w) : g < w.heap.size := h.1.lt
theorem VtK.go (h : VtK B g c v w) (hb : Below w.heap.size w w') : VtK B g c v w' := ⟨h.1.go hb, h.2.1.below hb, h.2.2⟩
theorem VtK.al (h : VtK B g c v w) (o : Obj) : VtK B g c v (w.alloc o) := h.go (b1 o)
theorem VtK.mono {B' : Nat} (h : VtK B g c v w) (hB : B' ≤ B) (hg : g < B') : VtK B' g c v w := ⟨h.1, h.2.1.mono hB, hg⟩
theorem VtK.nilL {B' : Nat} (h : VtK B g c v w) (hL : c.L = []) (hg : g < B') : VtK B' g c v w := ⟨h.1, by have h2 := h.2.1; rw [hL] at h2 ⊢; exact h2.nilL, hg⟩
theorem VtK.rd {a : Option Addr} {n cap : Nat} (h : VtK B g c (.slice a n cap) w) : RdR c (.agg #[.int .i64 c.S, .int .i64 c.T, .int .i64 c.K, .slice a n cap, .bool c.s]) w := ⟨a, n, cap, rfl, h.2.1.rd⟩
theorem VtK.rb {a : Option Addr} {n cap : Nat} (h : VtK B g c (.slice a n cap) w) : RbR B c (.agg #[.int .i64 c.S, .int .i64 c.T, .int .i64 c.K, .slice a n cap, .bool c.s]) w := ⟨a, n, cap, rfl, h.2.1⟩
theorem VtK.cells (h : VtK B g c v w) :
    (w.cell? ⟨g, 0, none⟩ = some (.int .i64 c.S) ∧ w.cell? ⟨g, 1, none⟩ = some (.int .i64 c.T) ∧ w.cell? ⟨g, 2, none⟩ = some (.int .i64 c.K) ∧ w.cell? ⟨g, 3, none⟩ = some v ∧ w.cell? ⟨g, 4, none⟩ = some (.bool c.s)) ∧ w.frozen? ⟨g, 0, none⟩ = false ∧ w.frozen? ⟨g, 1, none⟩ = false ∧ w.frozen? ⟨g, 2, none⟩ = false ∧ w.frozen? ⟨g, 3, none⟩ = false ∧ w.frozen? ⟨g, 4, none⟩ = false := h.1
theorem VtK.new (h : RdB B c.L v w) (hL : c.L = [] ∨ w.heap.size < B) : VtK (w.heap.size + 1) w.heap.size c v (w.alloc (.cells #[.int .i64 c.S, .int .i64 c.T, .int .i64 c.K, v, .bool c.s] 28)) := by
  refine ⟨RsS.new _ _ _ _ _ _ _, ?_, by omega⟩
  rcases hL with hL | hL
  · rw [hL] at h ⊢
    exact h.nilL.below (b1 _)
  · exact (h.below (b1 _)).mono (by omega)
/-- It is overwritten. -/
theorem VtK.put (h : VtK B g c v w) (hd : RdB B d.L u w) : VtK B g d u (put5 w g (.int .i64 d.S) (.int .i64 d.T) (.int .i64 d.K) u (.bool d.s)) := ⟨h.1.put5 _ _ _ _ _, hd.put5 h.2.2 _ _ _ _ _, h.2.2⟩
/-- Another variable is written. -/
theorem VtK.other {k : Nat} (h : VtK B g c v w) (hk : k < B) (hne : g ≠ k) (x0 x1 x2 x3 x4 : Value) : VtK B g c v (put5 w k x0 x1 x2 x3 x4) := ⟨h.1.keep (put5_heap w hne _ _ _ _ _), h.2.1.put5 hk _ _ _ _ _, h.2.2⟩
end
/-- One variable. -/
def VK1 (W : World) (B g : Nat) (c : RK) (v : Value) (w : World) : Prop := VtK B g c v w ∧ B ≤ w.heap.size ∧ W.heap.size ≤ g ∧ Below W.heap.size W w
section
variable {W : World} {B g : Nat} {c d : RK} {v u : Value} {w w' : World}
theorem VK1.go (h : VK1 W B g c v w) (hb : Below w.heap.size w w') : VK1 W B g c v w' := ⟨h.1.go hb, Nat.le_trans h.2.1 hb.size, h.2.2.1, bgo h.2.2.2 hb⟩
theorem VK1.al (h : VK1 W B g c v w) (o : Obj) : VK1 W B g c v (w.alloc o) := h.go (b1 o)
theorem VK1.bel (h : VK1 W B g c v w) : Below W.heap.size W w := h.2.2.2
theorem VK1.one (h : VK1 W B g c v w) : VtK B g c v w := h.1
theorem VK1.size (h : VK1 W B g c v w) : B ≤ w.heap.size := h.2.1
theorem VK1.put (h : VK1 W B g c v w) (hd : RdB B d.L u w) : VK1 W B g d u (put5 w g (.int .i64 d.S) (.int .i64 d.T) (.int .i64 d.K) u (.bool d.s)) :=
  ⟨h.1.put hd, by rw [put5_size]; exact h.2.1, h.2.2.1, put5_bel h.2.2.2 h.2.2.1 _ _ _ _ _⟩
theorem VK1.new (h : RdB B c.L v w) (hL : c.L = [] ∨ w.heap.size < B) (hb : Below W.heap.size W w) : VK1 W (w.heap.size + 1) w.heap.size c v (w.alloc (.cells #[.int .i64 c.S, .int .i64 c.T, .int .i64 c.K, v, .bool c.s] 28)) :=
  ⟨VtK.new h hL, by simp, hb.size, bal hb _⟩
end
/-- Two variables. -/
def VK2 (W : World) (B g : Nat) (c : RK) (v : Value) (k : Nat) (d : RK) (u : Value) (w : World) : Prop := VtK B g c v w ∧ VtK B k d u w ∧ g ≠ k ∧ B ≤ w.heap.size ∧ W.heap.size ≤ g ∧ W.heap.size ≤ k ∧ Below W.heap.size W w
section
variable {W : World} {B g k : Nat} {c d e : RK} {v u : Value} {w w' : World}
theorem VK2.go (h : VK2 W B g c v k d u w) (hb : Below w.heap.size w w') : VK2 W B g c v k d u w' := ⟨h.1.go hb, h.2.1.go hb, h.2.2.1, Nat.le_trans h.2.2.2.1 hb.size, h.2.2.2.2.1, h.2.2.2.2.2.1, bgo h.2.2.2.2.2.2 hb⟩
theorem VK2.al (h : VK2 W B g c v k d u w) (o : Obj) : VK2 W B g c v k d u (w.alloc o) := h.go (b1 o)
theorem VK2.bel (h : VK2 W B g c v k d u w) : Below W.heap.size W w := h.2.2.2.2.2.2
theorem VK2.size (h : VK2 W B g c v k d u w) : B ≤ w.heap.size := h.2.2.2.1
theorem VK2.one (h : VK2 W B g c v k d u w) : VtK B g c v w := h.1
theorem VK2.two (h : VK2 W B g c v k d u w) : VtK B k d u w := h.2.1
theorem VK2.put1 (h : VK2 W B g c v k d u w) {x : Value} (he : RdB B e.L x w) : VK2 W B g e x k d u (put5 w g (.int .i64 e.S) (.int .i64 e.T) (.int .i64 e.K) x (.bool e.s)) := by
  obtain ⟨h1, h2, h3, h4, h5, h6, h7⟩ := h
  exact ⟨h1.put he, h2.other h1.2.2 (Ne.symm h3) _ _ _ _ _, h3, by rw [put5_size]; exact h4, h5, h6, put5_bel h7 h5 _ _ _ _ _⟩
theorem VK2.put2 (h : VK2 W B g c v k d u w) {x : Value} (he : RdB B e.L x w) : VK2 W B g c v k e x (put5 w k (.int .i64 e.S) (.int .i64 e.T) (.int .i64 e.K) x (.bool e.s)) := by
  obtain ⟨h1, h2, h3, h4, h5, h6, h7⟩ := h
  exact ⟨h1.other h2.2.2 h3 _ _ _ _ _, h2.put he, h3, by rw [put5_size]; exact h4, h5, h6, put5_bel h7 h6 _ _ _ _ _⟩
theorem VK2.new {B' : Nat} (h : VtK B' g c v w) (hc : c.L = []) (hb : Below W.heap.size W w) (hw : Below w.heap.size w w') (ho : RdB B d.L u w') (hd : d.L = []) (hg : W.heap.size ≤ g) :
    VK2 W (w'.heap.size + 1) g c v w'.heap.size d u (w'.alloc (.cells #[.int .i64 d.S, .int .i64 d.T, .int .i64 d.K, u, .bool d.s] 28)) := by
  have hl := (h.go hw).lt
  exact ⟨((h.go hw).al _).nilL hc (by omega), VtK.new ho (.inl hd), by omega, by simp, hg, (bgo hb hw).size, bal (bgo hb hw) _⟩
end
/-- A struct of two cells: an item. -/
def Two (g : Nat) (K : ByteArray) (y : Int) (w : World) : Prop := w.cell? ⟨g, 0, none⟩ = some (.string K) ∧ w.cell? ⟨g, 1, none⟩ = some (.int .i64 y) ∧ g < w.heap.size
theorem Two.new (w : World) (K : ByteArray) (y : Int) (t : TypeId) : Two w.heap.size K y (w.alloc (.cells #[.string K, .int .i64 y] t)) := ⟨by go_simp, by go_simp, by simp⟩
theorem Two.below {g : Nat} {K : ByteArray} {y : Int} {w w' : World} (h : Two g K y w) (hb : Below w.heap.size w w') : Two g K y w' :=
  ⟨(hb.cell (p := ⟨g, 0, none⟩) h.2.2).trans h.1, (hb.cell (p := ⟨g, 1, none⟩) h.2.2).trans h.2.1, Nat.lt_of_lt_of_le h.2.2 hb.size⟩
/-- The item in block i survives that a variable is written. -/
theorem Two.other {i : Nat} {K : ByteArray} {y : Int} {w : World} (h : Two i K y w) {g : Nat} (x0 x1 x2 x3 x4 : Value) (hne : i ≠ g) : Two i K y (put5 w g x0 x1 x2 x3 x4) := by
  have hb := put5_heap w hne x0 x1 x2 x3 x4
  exact ⟨(World.cell?_of_block (w := w) (a := ⟨i, 0, none⟩) hb).trans h.1, (World.cell?_of_block (w := w) (a := ⟨i, 1, none⟩) hb).trans h.2.1, by rw [put5_size]; exact h.2.2⟩
end Go.Proofs.YtdifilhfmbpalaaDoor
