/- Small words on worlds in which nothing old turns. No program. -/
import Derived.WalkKit
import Derived.ProofKit
import Derived.Handy
import Derived.Below
namespace Go.Proofs.YtpehbfghajlgmaaGreat
open Go.RowKit
theorem bgo {a w w' : World} (h : Below a.heap.size a w) (hb : Below w.heap.size w w') : Below a.heap.size a w' := h.trans (hb.mono h.size)
theorem bal {a w : World} (h : Below a.heap.size a w) (o : Obj) : Below a.heap.size a (w.alloc o) := h.alloc h.size o
theorem b1 {a : World} (o : Obj) : Below a.heap.size a (a.alloc o) := bal (Below.refl _ _) o
theorem b2 {a : World} (o p : Obj) : Below a.heap.size a ((a.alloc o).alloc p) := bal (b1 o) p
theorem b3 {a : World} (o p q : Obj) : Below a.heap.size a (((a.alloc o).alloc p).alloc q) := bal (b2 o p) q
theorem bset {a w : World} (h : Below a.heap.size a w) (k o : Nat) (v : Value) (hk : a.heap.size ≤ k) : Below a.heap.size a (w.setCell ⟨k, o, none⟩ v) := h.setCell (p := ⟨k, o, none⟩) hk v
theorem bcell {W w1 : World} (hb : Below W.heap.size W w1) : (∀ b o, b < W.heap.size → w1.cell? ⟨b, o, none⟩ = W.cell? ⟨b, o, none⟩) ∧ (∀ b o, b < W.heap.size → w1.frozen? ⟨b, o, none⟩ = W.frozen? ⟨b, o, none⟩) :=
  ⟨fun b o h => hb.cell (p := ⟨b, o, none⟩) h, fun b o h => hb.frozen (p := ⟨b, o, none⟩) h⟩
theorem room1 {n m : Nat} (h : n + 1 < m) : n < m ∧ n + 1 < m := by omega
theorem room {n m : Nat} (h : n + 2 < m) : n < m ∧ n + 1 < m ∧ n + 1 + 1 < m := by omega
theorem room4 {n m : Nat} (h : n + 3 < m) : n < m ∧ n + 1 < m ∧ n + 1 + 1 < m ∧ n + 1 + 1 + 1 < m := by omega
end Go.Proofs.YtpehbfghajlgmaaGreat
