/- The reference's RemovePin. -/
import Derived.Test.YtpehbfghajlgmaaGreatPnR
namespace Go.Proofs.YtpehbfghajlgmaaGreat
open Go.RowKit
set_option linter.unusedVariables false
set_option linter.unusedSimpArgs false
theorem remP_snoc (c : Int) : ∀ (L : List Pn) (p : Pn), remP c (L ++ [p]) = if 0 < (decP c p).n then remP c L ++ [decP c p] else remP c L
  | [], p => by simp only [List.nil_append, remP]
  | q :: L, p => by
    simp only [List.cons_append, remP, remP_snoc c L p]
    by_cases h1 : 0 < (decP c q).n <;> by_cases h2 : 0 < (decP c p).n <;> simp [h1, h2]
theorem remF_snoc (c : Int) (L : List Pn) (p : Pn) : remF (L ++ [p]) c = (remF L c || p.m == c) := by simp [remF]
theorem remP_len (c : Int) : ∀ L : List Pn, (remP c L).length ≤ L.length
  | [] => Nat.le_refl _
  | p :: L => by
    have := remP_len c L
    unfold remP
    split <;> simp <;> omega
theorem OwnPn.one1 {x : Pn} (hx : x.ok) (w : World) (o : Obj) : OwnPn w.heap.size [x] (.slice (some ⟨w.heap.size + 1, 0, none⟩) 1 1) ((w.alloc o).alloc (.cells #[.int .i64 x.m, .int .i64 x.n] 34)) := by
  have h := OwnPn.one hx (w.alloc o)
  have e : (w.alloc o).heap.size = w.heap.size + 1 := by simp
  rw [e] at h
  exact h.mono (by omega)
/-- What has been kept of the first q pins. -/
def RmS (B q : Nat) (L : List Pn) (c : Int) (w wr : World) (o : Value) : Prop := OwnPn B (remP c (L.take q)) o wr ∧ Below w.heap.size w wr
end Go.Proofs.YtpehbfghajlgmaaGreat
