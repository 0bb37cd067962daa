/- TabQ: in one text. -/
import Derived.Lib.LaidTab
import Derived.OpenShut
import Derived.Below
namespace Go.Proofs.YtjibbnknliamkaaGreatDoor
open Go Go.RowKit
set_option linter.unusedVariables false
set_option linter.unusedSimpArgs false
/-- The table as a row lists it. -/
def gridData {H : Type} (L : List (List Bool)) : DataW H := .agg (L.map fun r => .agg (r.map fun p => .lit (.bool p)))
theorem grid_cell {H : Type} {enc : TypeId × Value → H} {P : Program} {w : World} {base : Nat} {sp : Nat → Bool} {held : Bool} {fuel : Nat} {t e b : TypeId} {n m : Nat} {cs : List Value} {L : List (List Bool)} {p : List MemPlace}
    (ht : P.underlying t = some (.array n e)) (he : P.underlying e = some (.array m b)) (hb : P.underlying b = some .bool) (cb : P.cellsOf b = 1) (ce : P.cellsOf e = m)
    (h : DataW.trod enc P w base sp held fuel t cs = some (gridData L, p)) (i j : Nat) (r : List Bool) (q : Bool) (hr : L[i]? = some r) (hq : r[j]? = some q) : cs[i * m + j]? = some (.bool q) := by
  obtain ⟨xs, k1, rfl, hx, hl, hlen, hf⟩ := DataW.trod_array ht h
  have hx1 : xs.map (·.1) = L.map fun r => (DataW.agg (r.map fun p => .lit (.bool p)) : DataW H) := by
    have := congrArg Prod.fst hx
    simpa [gridData] using this.symm
  have hiL : i < L.length := (List.getElem?_eq_some_iff.1 hr).1
  have hi : i < n := by
    have := congrArg List.length hx1
    simp at this
    omega
  obtain ⟨y, hy⟩ : ∃ y, xs[i]? = some y := ⟨xs[i]'(by omega), List.getElem?_eq_getElem (by omega)⟩
  have hy1 : y.1 = DataW.agg (r.map fun p => .lit (.bool p)) := by
    have := congrArg (·[i]?) hx1
    simpa [hy, hr] using this
  have hfi := hf i hi
  rw [hy, ce] at hfi
  obtain ⟨ys, k2, rfl, hz, hl2, hlen2, hg⟩ := DataW.trod_array he hfi
  have hz1 : ys.map (·.1) = r.map fun p => (DataW.lit (.bool p) : DataW H) := by
    have := congrArg Prod.fst hz
    rw [hy1] at this
    simpa using this.symm
  have hjr : j < r.length := (List.getElem?_eq_some_iff.1 hq).1
  have hj : j < m := by
    have := congrArg List.length hz1
    simp at this
    omega
  obtain ⟨z, hz2⟩ : ∃ z, ys[j]? = some z := ⟨ys[j]'(by omega), List.getElem?_eq_getElem (by omega)⟩
  have hz3 : z.1 = DataW.lit (.bool q) := by
    have := congrArg (·[j]?) hz1
    simpa [hz2, hq] using this
  have hgj := hg j hj
  rw [hz2, cb] at hgj
  obtain ⟨c, h1, h2⟩ := DataW.trod_bool hb hgj
  have hc : c = q := by
    have : z.1 = DataW.lit (.bool c) := by rw [h2]
    rw [hz3] at this
    simpa using this.symm
  subst hc
  have h3 := congrArg (·[0]?) h1
  simpa [List.getElem?_take, List.getElem?_drop, hj, Nat.mul_one] using h3
/-- The variable's cells. -/
theorem grid_at {P : Program} {W : World} {name : String} {L : List (List Bool)} {rest : List (String × DataW Unit)} {g : Nat} {t e b : TypeId} {n m : Nat}
    (hg : P.globalNamed name = some g) (hty : (P.globals[g]?).map (·.type) = some t) (ht : P.underlying t = some (.array n e)) (he : P.underlying e = some (.array m b)) (hb : P.underlying b = some .bool) (cb : P.cellsOf b = 1) (ce : P.cellsOf e = m)
    (h : laidMet P ((name, gridData L) :: rest) W) (i j : Nat) (r : List Bool) (q : Bool) (hr : L[i]? = some r) (hq : r[j]? = some q) : W.cell? ⟨g, i * m + j, none⟩ = some (.bool q) := by
  obtain ⟨ps, ⟨g', t', cs, fuel, p, u, hg', ht', hvar, hd, _, _⟩, _⟩ := h
  obtain rfl := Option.some.inj (hg.symm.trans hg')
  obtain rfl := Option.some.inj (hty.symm.trans ht')
  have hc := grid_cell ht he hb cb ce hd i j r q hr hq
  rw [World.var?_cell hg hvar (i * m + j)]
  simpa using hc
/-- Which kinds of sketches answer which kinds of queries. -/
def supL : List (List Bool) := [[false, false, false, false, false, false, false], [false, true, false, false, true, true, true], [false, false, true, false, true, true, false], [false, false, true, true, false, false, false], [false, false, false, true, false, false, false], [false, false, false, false, true, true, false], [false, false, false, false, false, false, true], [false, false, false, false, false, false, true]]
/-- The table as it was laid. -/
def SupT (W : World) : Prop := 0 < W.heap.size ∧ ∀ (i j : Nat) (r : List Bool) (q : Bool), supL[i]? = some r → r[j]? = some q → W.cell? ⟨0, i * 7 + j, none⟩ = some (.bool q)
theorem SupT.go {w w' : World} (h : SupT w) (hb : Below w.heap.size w w') : SupT w' := by
  refine ⟨Nat.lt_of_lt_of_le h.1 hb.size, fun i j r q hr hq => ?_⟩
  rw [← h.2 i j r q hr hq]
  exact hb.cell h.1
end Go.Proofs.YtjibbnknliamkaaGreatDoor
