/- The reference's Prune. -/
import Derived.Test.YtpehbfghajlgmaaBgR
import Derived.Test.YtpehbfghajlgmaaPnR
namespace Go.Proofs.Ytpehbfghajlgmaa
open Go.RowKit
set_option linter.unusedVariables false
set_option linter.unusedSimpArgs false
/-- What stays of a directory at these pins. -/
def keepB (P : List Pn) (x : Bg) : Bool := x.s == 0 || covP x.k x.s P
def prnB (P : List Pn) (L : List Bg) : List Bg := L.filter (keepB P)
theorem prnB_take (P : List Pn) {L : List Bg} {q : Nat} (h : q < L.length) : prnB P (L.take (q + 1)) = prnB P (L.take q) ++ (if keepB P (L.getD q Bg.z) = true then [L.getD q Bg.z] else []) := by
  unfold prnB
  have e : L.take (q + 1) = L.take q ++ [L.getD q Bg.z] := by
    rw [List.take_add_one]
    simp [List.getD, h]
  rw [e, List.filter_append]
  congr 1
  simp only [List.filter_cons, List.filter_nil]
theorem prnB_len (P : List Pn) (L : List Bg) : (prnB P L).length ≤ L.length := List.length_filter_le _ _
theorem OwnBg.oneS {x : Bg} (hx : x.ok) (w : World) {s : Nat} (hs : w.heap.size = s) : OwnBg s [x] (.slice (some ⟨s, 0, none⟩) 1 1) (w.alloc (.cells #[.string x.n, .int .i64 x.r, .int .i64 x.k, .int .i64 x.s] 49)) := by
  subst hs
  exact OwnBg.one hx w
end Go.Proofs.Ytpehbfghajlgmaa
