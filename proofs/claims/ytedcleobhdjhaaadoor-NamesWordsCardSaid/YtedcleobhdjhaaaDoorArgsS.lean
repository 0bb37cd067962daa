/- What a walk is told of a slice of strings that came in. -/
import Derived.Test.YtedcleobhdjhaaaDoorStrRow
import Derived.SliceStrings
import Derived.OpenShut
namespace Go.Proofs.YtedcleobhdjhaaaDoor
open Go.RowKit Go.ChangeShapes Go.WideShapes
set_option linter.unusedVariables false
set_option linter.unusedSimpArgs false
def InStr (w : World) (a : Option Addr) (len cap : Nat) (zs : List ByteArray) : Prop :=
  len ≤ cap ∧ cap ≤ maxLen ∧ zs.length = cap ∧ (∀ s ∈ zs, s.size ≤ maxLen) ∧ (0 < cap → ∃ b off, a = some ⟨b, off, none⟩ ∧ b < w.heap.size ∧ ∀ j, j < cap → w.cell? ⟨b, off + j, none⟩ = some (.string (zs.getD j ByteArray.empty)))
theorem inStr_of {H : Type} {enc : TypeId × Value → H} {P : Program} {w : World} {t e : TypeId} {fuel : Nat} {x : DataW H × List MemPlace} {a : Option Addr} {len cap : Nat}
    (ht : P.underlying t = some (.slice e)) (he : P.underlying e = some .string) (hc : P.cellsOf e = 1) (h : DataW.trod enc P w 0 (fun _ => true) true fuel t [.slice a len cap] = some x) : ∃ zs, InStr w a len cap zs := by
  rcases open_strings ht he hc h with ⟨hcs, _⟩ | ⟨y, l, c, zs, hcs, _, hl, hm, hz, _, hcell, hwz⟩
  · simp only [List.cons.injEq, Value.slice.injEq, and_true] at hcs
    obtain ⟨rfl, rfl, rfl⟩ := hcs
    exact ⟨[], by omega, by simp [maxLen], rfl, by simp, fun h => by omega⟩
  · simp only [List.cons.injEq, Value.slice.injEq, and_true] at hcs
    obtain ⟨rfl, rfl, rfl⟩ := hcs
    have hz' : zs.length = cap := by simpa using hz
    refine ⟨zs, hl, hm, hz', hwz, fun hp => ?_⟩
    obtain ⟨b, off, spot⟩ := y
    have hspot : spot = none := by simpa [Addr.add] using World.cell?_spot (hcell 0 (by omega))
    subst hspot
    have hx : ∀ j, j < cap → w.cell? ⟨b, off + j, none⟩ = some (.string (zs.getD j ByteArray.empty)) := fun j hj => by rw [← Go.WideShapes.add_plain]; exact hcell j (by omega)
    exact ⟨b, off, rfl, block_lt_of_cell (hx 0 (by omega)), hx⟩
theorem inStr_rd {w : World} {a : Option Addr} {len cap : Nat} {zs : List ByteArray} (h : InStr w a len cap zs) : RdS (zs.take len) (.slice a len cap) w := by
  obtain ⟨h1, h2, h3, _, h5⟩ := h
  have hl : (zs.take len).length = len := by rw [List.length_take]; omega
  refine ⟨a, cap, by rw [hl], by rw [hl]; exact h1, h2, fun hp => ?_⟩
  rw [hl] at hp
  obtain ⟨b, off, rfl, hb, hc⟩ := h5 (by omega)
  refine ⟨b, off, rfl, hb, fun j hj => ?_⟩
  rw [hl] at hj
  rw [hc j (by omega)]
  simp [List.getD, List.getElem?_take, hj]
end Go.Proofs.YtedcleobhdjhaaaDoor
