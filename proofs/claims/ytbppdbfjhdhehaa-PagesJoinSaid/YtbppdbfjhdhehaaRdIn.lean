/- A slice of bytes that came in can be read. -/
import Derived.Test.YtbppdbfjhdhehaaWords
namespace Go.Proofs.Ytbppdbfjhdhehaa
open Go.RowKit
set_option linter.unusedVariables false
set_option linter.unusedSimpArgs false
/-- A slice of bytes that came in can be read. -/
theorem inRow_rd {W : World} {a : Option Addr} {n cap : Nat} {z : List Int} (h : InRow .u8 W a n cap z) : Rd (z.take n) (.slice a n cap) W := by
  obtain ⟨h1, h2, h3, h4, h5⟩ := h
  have hl : (z.take n).length = n := by simp; omega
  have hy : Byt (z.take n) := fun x hx => by
    have := h4 x (List.mem_of_mem_take hx)
    simpa [Lit.wf, IntKind.min, IntKind.max, IntKind.signed, IntKind.bits] using this
  refine ⟨hy, a, cap, by rw [hl], by omega, h2, fun hp => ?_⟩
  obtain ⟨b, off, rfl, hb, hc⟩ := h5 (by omega)
  refine ⟨b, off, rfl, hb, fun j hj => ?_⟩
  rw [hc j (by omega)]
  simp [List.getD, List.getElem?_take, show j < n by omega]
theorem wf_bd8 {n : Int} (h : (Lit.int .u8 n).wf = true) : 0 ≤ n ∧ n ≤ 255 := by
  simpa [Lit.wf, IntKind.min, IntKind.max, IntKind.signed, IntKind.bits] using h
end Go.Proofs.Ytbppdbfjhdhehaa
