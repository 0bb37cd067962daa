/- Registers in an array of bytes: the words for 256 bytes by value and in a block. -/
import Derived.Test.YtgnopnifdiipkaaDoorLl
import Derived.Test.YtgnopnifdiipkaaDoorOthI
import Derived.Deep.MidRow
import Derived.Laws.Rows
import Derived.Laws.CopyOwn
import Derived.Laws.ResultCell
namespace Go.Proofs.YtgnopnifdiipkaaDoor
open Go.RowKit
set_option linter.unusedVariables false
set_option linter.unusedSimpArgs false
theorem info_pk : (Tryd.prog.info? 68).map (·.size) = some 256 := by kernel_rfl
def pkA (Z : List Int) : Array Value := (cells8 Z).toArray
theorem pkA_size (Z : List Int) : (pkA Z).size = Z.length := by simp [pkA, cells8]
theorem pkA_at {Z : List Int} {j : Nat} (h : j < Z.length) : (pkA Z)[j]? = some (.int .u8 (Z.getD j 0)) := by
  unfold pkA
  rw [List.getElem?_toArray]
  exact cells8_at h
theorem pkA_set (Z : List Int) (j : Nat) (z : Int) : (pkA Z).setIfInBounds j (.int .u8 z) = pkA (Z.set j z) := by
  simp [pkA, cells8, List.map_set]
theorem oneCell_pk (Z : List Int) : (pkA Z).all (·.oneCell') = true := by
  refine all_oneCell_toArray (cs := cells8 Z) fun v hv => ?_
  obtain ⟨n, _, rfl⟩ := List.mem_map.1 hv
  rfl
theorem Byt.set {Z : List Int} (h : Byt Z) (j : Nat) {z : Int} (hz : 0 ≤ z ∧ z ≤ 255) : Byt (Z.set j z) := fun x hx => by
  rcases List.mem_or_eq_of_mem_set hx with h' | rfl
  · exact h x h'
  · exact hz
/-- The bytes Z lie in block g, whole. -/
def PkAt (g : Nat) (Z : List Int) (w : World) : Prop := (Byt Z ∧ Z.length = 256) ∧ ∃ t, w.heap[g]? = some (.cells (pkA Z) t (0, 0))
theorem PkAt.keep {g : Nat} {Z : List Int} {w w' : World} (h : PkAt g Z w) (hb : w'.heap[g]? = w.heap[g]?) : PkAt g Z w' := ⟨h.1, h.2.elim fun t ht => ⟨t, hb.trans ht⟩⟩
theorem PkAt.size {g : Nat} {Z : List Int} {w : World} (h : PkAt g Z w) : g < w.heap.size := h.2.elim fun _ ht => (Array.getElem?_eq_some_iff.1 ht).1
theorem PkAt.below {g B : Nat} {Z : List Int} {w w' : World} (h : PkAt g Z w) (hb : Below B w w') (hg : g < B) : PkAt g Z w' := h.keep (hb.block g hg)
theorem PkAt.go {g : Nat} {Z : List Int} {w w' : World} (h : PkAt g Z w) (hb : Below w.heap.size w w') : PkAt g Z w' := h.below hb h.size
theorem PkAt.oth {g k : Nat} {Z : List Int} {w w' : World} (h : PkAt g Z w) (ho : Oth k w w') (hg : g ≠ k) : PkAt g Z w' := h.keep (ho.2 g hg)
theorem PkAt.drewN {g : Nat} {Z : List Int} {w : World} (h : PkAt g Z w) (j : Nat) : PkAt g Z (w.drewN j) := h
theorem PkAt.drew {g : Nat} {Z : List Int} {w : World} (h : PkAt g Z w) : PkAt g Z w.drew := h
theorem PkAt.cell {g : Nat} {Z : List Int} {w : World} (h : PkAt g Z w) {j : Nat} (hj : j < 256) : w.cell? ⟨g, j, none⟩ = some (.int .u8 (Z.getD j 0)) ∧ w.frozen? ⟨g, j, none⟩ = false := by
  obtain ⟨⟨_, hl⟩, t, ht⟩ := h
  exact ⟨(cell_of_row w g j _ t _ ht).trans (pkA_at (by omega)), frozen_of_row w g j _ t ht⟩
theorem PkAt.set {g : Nat} {Z : List Int} {w : World} (h : PkAt g Z w) (j : Nat) {z : Int} (hz : 0 ≤ z ∧ z ≤ 255) : PkAt g (Z.set j z) (w.setCell ⟨g, j, none⟩ (.int .u8 z)) := by
  obtain ⟨⟨hy, hl⟩, t, ht⟩ := h
  refine ⟨⟨hy.set j hz, by simpa using hl⟩, t, ?_⟩
  rw [heap_setCell_same w g j _ t _ ht, pkA_set]
theorem PkAt.far {g k : Nat} {Z : List Int} {w : World} (h : PkAt g Z w) (hg : g ≠ k) (o : Nat) (u : Value) : PkAt g Z (w.setCell ⟨k, o, none⟩ u) := h.keep (Below.heap_setCell w ⟨k, o, none⟩ u g hg)
theorem PkAt.byt {g : Nat} {Z : List Int} {w : World} (h : PkAt g Z w) : Byt Z := h.1.1
/-- A new one. -/
def zero256 : List Int := List.replicate 256 0
theorem zero_pk : Tryd.zeroCells68 = pkA zero256 := by kernel_rfl
theorem PkAt.new (w : World) : PkAt w.heap.size zero256 (w.alloc (.cells Tryd.zeroCells68 68)) := by
  refine ⟨⟨fun n hn => by rw [List.eq_of_mem_replicate hn]; omega, List.length_replicate⟩, 68, ?_⟩
  rw [zero_pk]
  exact heap_alloc_new w _
/-- Its first bytes as a slice. -/
theorem PkAt.rd {g : Nat} {Z : List Int} {w : World} (h : PkAt g Z w) {n c : Nat} (hn : n ≤ 256) (hc : n ≤ c) (hm : c ≤ maxLen) : Rd (Z.take n) (.slice (some ⟨g, 0, none⟩) n c) w := by
  have hl : (Z.take n).length = n := by rw [List.length_take, h.1.2]; omega
  refine ⟨h.byt.take n, some ⟨g, 0, none⟩, c, by rw [hl], by rw [hl]; exact hc, hm, fun hp => ⟨g, 0, rfl, h.size, fun j hj => ?_⟩⟩
  rw [hl] at hj
  rw [Nat.zero_add, (h.cell (show j < 256 by omega)).1]
  simp [List.getD, List.getElem?_take, hj]
section
variable {w : World}
/-- A load of the whole array. -/
theorem wp_load_pk {ops : Array Oper} {rest : List Oper} {o : Oper} {a : Act} {Q : Exit → Act → World → Prop} (hgd : o.guard = none) (p : Operand) (ho : o.op = .load 68 p) (g : Nat) (hp : a.eval p = .pointer (some ⟨g, 0, none⟩))
    {Z : List Int} (hc : PkAt g Z w) (hK : wpList Tryd.prog ops Q rest (a.put o.dst (.agg (pkA Z))) w) : wpList Tryd.prog ops Q (o :: rest) a w := by
  obtain ⟨⟨_, hl⟩, t, ht⟩ := hc
  exact wpList_load_row hgd _ p ho g hp t (pkA Z) (0, 0) _ ht Tryd.underlying68 rfl (by rw [info_pk, pkA_size, hl]) hK
/-- A store of a whole array. -/
theorem wp_store_pk {ops : Array Oper} {rest : List Oper} {o : Oper} {a : Act} {Q : Exit → Act → World → Prop} (hgd : o.guard = none) (p y : Operand) (ho : o.op = .store 68 p y) (g : Nat) (hp : a.eval p = .pointer (some ⟨g, 0, none⟩))
    {Z0 : List Int} (hc : PkAt g Z0 w) {Z : List Int} (hy : a.eval y = .agg (pkA Z)) (hb : Byt Z) (hl : Z.length = 256)
    (hK : ∀ w', PkAt g Z w' → Oth g w w' → wpList Tryd.prog ops Q rest (a.put o.dst undef) w') : wpList Tryd.prog ops Q (o :: rest) a w := by
  refine wpList_plain hgd fun K hK' => ?_
  obtain ⟨⟨_, hl0⟩, t, ht⟩ := hc
  unfold Oper.wp execOp
  simp only [ho, hp, hy, Instr.storeAt, Instr.sureAddr, Sem.run_bind, Sem.run_pure, Result.andThen_ok, run_storeVar_row w g t 68 (pkA Z0) (pkA Z) ht (by rw [info_pk, pkA_size, hl]) (by rw [pkA_size, pkA_size, hl, hl0]) (oneCell_pk Z)]
  refine hK' _ _ (hK _ ⟨⟨hb, hl⟩, t, setRow_heap w g _ _ t _ ht⟩ ⟨⟨rfl, rfl, rfl, by simp [World.setRow], fun k hk => setRow_other w g k _ (by omega)⟩, fun b hb => setRow_other w g b _ hb⟩)
end
/-- The result of a function that hands the array back. -/
theorem res_pk {fn : Func} {p : Tmp} (h : fn.results = #[.cell p 68]) (tmps : Array Value) (w : World) (g : Nat) {Z : List Int} (hp : tmps.getD p undef = .pointer (some ⟨g, 0, none⟩)) (hc : PkAt g Z w) :
    (results fn tmps).run Tryd.prog w = .ok (.agg (pkA Z)) w := by
  obtain ⟨⟨_, hl⟩, t, ht⟩ := hc
  exact results_cell_row h tmps w g t (pkA Z) (0, 0) _ hp ht Tryd.underlying68 rfl (by rw [info_pk, pkA_size, hl])
theorem oneCells_set (g o : Nat) (w : World) (u : Value) : Oth g w (w.setCell ⟨g, o, none⟩ u) :=
  ⟨(Below.refl g w).setCell (p := ⟨g, o, none⟩) (Nat.le_refl _) _, fun b hb => Below.heap_setCell w ⟨g, o, none⟩ u b hb⟩
end Go.Proofs.YtgnopnifdiipkaaDoor
