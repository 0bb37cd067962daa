/- Insertions into summaries, as numbers and lists; the memory of an insertion. -/
import Derived.Test.YtcmekpdgikploaaPIdx
import Derived.Test.YtcmekpdgikploaaSrtF
namespace Go.Proofs.Ytcmekpdgikploaa
open Go.RowKit
set_option linter.unusedVariables false
set_option linter.unusedSimpArgs false
def insA (S : Int) (L : List Ent) (k : ByteArray) (x : Int) : List Ent :=
  if hasK L k = true then L.set (findI L k).toNat ⟨(L.getD (findI L k).toNat Ent.z).k, tS (L.getD (findI L k).toNat Ent.z).c x, (L.getD (findI L k).toNat Ent.z).e⟩
  else L.take (min L.length (S - 1).toNat) ++ [entOf k (tS (leastI S L) x) (leastI S L)]
def insF (S : Int) (L : List Ent) (k : ByteArray) (x : Int) : Bool := if hasK L k = true then tF (L.getD (findI L k).toNat Ent.z).c x else tF (leastI S L) x
def insE (t : TP) (k : ByteArray) (x : Int) : Int := if valE t.S t.T t.L ≠ 0 then valE t.S t.T t.L else itemE (byt k) x
def insTop (t : TP) (k : ByteArray) (x : Int) : TP :=
  if valE t.S t.T t.L ≠ 0 then TP.none else if itemE (byt k) x ≠ 0 then TP.none else ⟨t.S, tS t.T x, sortE (insA t.S t.L k x), t.s || insF t.S t.L k x || tF t.T x⟩
/-- A struct of two cells in memory: an item. -/
def Itm (g : Nat) (k : ByteArray) (x : Int) (w : World) : Prop := w.cell? ⟨g, 0, none⟩ = some (.string k) ∧ w.cell? ⟨g, 1, none⟩ = some (.int .i64 x)
theorem Itm.keep {g : Nat} {k : ByteArray} {x : Int} {w w' : World} (h : Itm g k x w) (hb : w'.heap[g]? = w.heap[g]?) : Itm g k x w' :=
  ⟨(World.cell?_of_block (w := w) (a := ⟨g, 0, none⟩) hb).trans h.1, (World.cell?_of_block (w := w) (a := ⟨g, 1, none⟩) hb).trans h.2⟩
/-- A struct of one cell in memory: whether a sum was cut off. -/
def Fl (g : Nat) (s : Bool) (w : World) : Prop := w.cell? ⟨g, 0, none⟩ = some (.bool s) ∧ w.frozen? ⟨g, 0, none⟩ = false
theorem Fl.keep {g : Nat} {s : Bool} {w w' : World} (h : Fl g s w) (hb : w'.heap[g]? = w.heap[g]?) : Fl g s w' :=
  ⟨(World.cell?_of_block (w := w) (a := ⟨g, 0, none⟩) hb).trans h.1, (World.frozen?_of_block (w := w) (a := ⟨g, 0, none⟩) hb).trans h.2⟩
theorem Fl.lt {g : Nat} {s : Bool} {w : World} (h : Fl g s w) : g < w.heap.size := by
  have h0 := h.1
  unfold World.cell? at h0
  cases hb : w.heap[g]? with
  | none => simp [hb] at h0
  | some o => exact (Array.getElem?_eq_some_iff.1 hb).1
theorem Fl.set {g : Nat} {s : Bool} {w : World} (h : Fl g s w) (t : Bool) : Fl g t (w.setCell ⟨g, 0, none⟩ (.bool t)) := by
  obtain ⟨h0, f0⟩ := h
  exact ⟨by go_simp, by go_simp⟩
/-- The three structs of an insertion. -/
def Mem3 (W : World) (S T : Int) (v : Value) (s : Bool) (k : ByteArray) (x : Int) (w : World) : Prop :=
  TopS W.heap.size S T v s w ∧ Itm (W.heap.size + 1) k x w ∧ TopS (W.heap.size + 2) 0 0 (.slice none 0 0) false w ∧ Below W.heap.size W w
theorem Mem3.lt {W : World} {S T : Int} {v : Value} {s : Bool} {k : ByteArray} {x : Int} {w : World} (h : Mem3 W S T v s k x w) : W.heap.size + 2 < w.heap.size := h.2.2.1.lt
theorem Mem3.keep {W : World} {S T : Int} {v : Value} {s : Bool} {k : ByteArray} {x : Int} {w w' : World} (h : Mem3 W S T v s k x w) (hb : Below (W.heap.size + 3) w w') : Mem3 W S T v s k x w' :=
  ⟨h.1.keep (hb.block _ (by omega)), h.2.1.keep (hb.block _ (by omega)), h.2.2.1.keep (hb.block _ (by omega)), h.2.2.2.trans (hb.mono (by omega))⟩
theorem Mem3.go {W : World} {S T : Int} {v : Value} {s : Bool} {k : ByteArray} {x : Int} {w w' : World} (h : Mem3 W S T v s k x w) (hb : Below w.heap.size w w') : Mem3 W S T v s k x w' := h.keep (hb.mono (by have := h.lt; omega))
theorem Mem3.new (W : World) (S T : Int) (v : Value) (s : Bool) (k : ByteArray) (x : Int) :
    Mem3 W S T v s k x (((W.alloc (.cells #[.int .i64 S, .int .i64 T, v, .bool s] 25)).alloc (.cells #[.string k, .int .i64 x] 29)).alloc (.cells #[.int .i64 0, .int .i64 0, .slice none 0 0, .bool false] 25)) :=
  ⟨((TopS.new S T v s 25 W).below (b1 _) (by simp)).below (b1 _) (by simp; omega), ⟨by go_simp, by go_simp⟩, ⟨⟨by go_simp, by go_simp, by go_simp, by go_simp⟩, by go_simp, by go_simp, by go_simp, by go_simp⟩, b3 _ _ _⟩
theorem Mem3.cells {W : World} {S T : Int} {v : Value} {s : Bool} {k : ByteArray} {x : Int} {w : World} (h : Mem3 W S T v s k x w) :
    (w.cell? ⟨W.heap.size, 0, none⟩ = some (.int .i64 S) ∧ w.cell? ⟨W.heap.size, 1, none⟩ = some (.int .i64 T) ∧ w.cell? ⟨W.heap.size, 2, none⟩ = some v ∧ w.cell? ⟨W.heap.size, 3, none⟩ = some (.bool s)) ∧
    (w.cell? ⟨W.heap.size + 1, 0, none⟩ = some (.string k) ∧ w.cell? ⟨W.heap.size + 1, 1, none⟩ = some (.int .i64 x)) ∧
    (w.cell? ⟨W.heap.size + 2, 0, none⟩ = some (.int .i64 0) ∧ w.cell? ⟨W.heap.size + 2, 1, none⟩ = some (.int .i64 0) ∧ w.cell? ⟨W.heap.size + 2, 2, none⟩ = some (.slice none 0 0) ∧ w.cell? ⟨W.heap.size + 2, 3, none⟩ = some (.bool false)) ∧
    (w.frozen? ⟨W.heap.size + 2, 0, none⟩ = false ∧ w.frozen? ⟨W.heap.size + 2, 1, none⟩ = false ∧ w.frozen? ⟨W.heap.size + 2, 2, none⟩ = false ∧ w.frozen? ⟨W.heap.size + 2, 3, none⟩ = false) :=
  ⟨h.1.1, h.2.1, h.2.2.1.1, h.2.2.1.2⟩
theorem Valid.one' {S T : Int} {L : List Ent} (h : Valid S T L) : OneL L := h.one
theorem Valid.small {S T : Int} {L : List Ent} (h : Valid S T L) : L.length ≤ 32 := by have := h.len; have := h.s1; omega
theorem OwnE.cut {B : Nat} {L : List Ent} {a : Option Addr} {n cap m : Nat} {w : World} (h : OwnE B L (.slice a n cap) w) (hm : m ≤ L.length) : OwnE B (L.take m) (.slice a m cap) w := by
  obtain ⟨hy, h1, h2⟩ := h
  have hl : (L.take m).length = m := by rw [List.length_take]; omega
  refine ⟨hy.take m, by rw [hl, cellsE_len, hl], ?_⟩
  rw [hl]
  rcases h2 with ⟨he, hn⟩ | ⟨g, cap', cur, he, hb, hg, h3, h4, h5, h6⟩
  · simp only [Value.slice.injEq] at he
    obtain ⟨rfl, rfl, rfl⟩ := he
    exact .inl ⟨by rw [show m = 0 by omega], by omega⟩
  · simp only [Value.slice.injEq] at he
    obtain ⟨rfl, rfl, rfl⟩ := he
    refine .inr ⟨g, cap, cur, rfl, hb, hg, by omega, h4, h5, ?_⟩
    rw [cellsE_take, ← h6, List.take_take, show min (m * 3) (L.length * 3) = m * 3 by omega]
theorem item_one {k : List Int} {x : Int} (h : itemE k x = 0) : 1 ≤ x := by
  unfold itemE at h
  split at h
  · cases h
  · split at h
    · cases h
    · omega
end Go.Proofs.Ytcmekpdgikploaa
