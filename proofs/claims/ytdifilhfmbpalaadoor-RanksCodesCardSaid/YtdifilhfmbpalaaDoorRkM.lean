/- A rank summary in memory. -/
import Derived.Test.YtdifilhfmbpalaaDoorRkN
import Derived.Test.YtdifilhfmbpalaaDoorLev
namespace Go.Proofs.YtdifilhfmbpalaaDoor
open Go.RowKit
set_option linter.unusedVariables false
set_option linter.unusedSimpArgs false
/-- Strings that a machine can hold. -/
def KOk (L : List (List ByteArray)) : Prop := ∀ l ∈ L, ∀ x ∈ l, x.size ≤ maxLen
def SOk (l : List ByteArray) : Prop := ∀ x ∈ l, x.size ≤ maxLen
theorem SOk.at_ {l : List ByteArray} (h : SOk l) (k : Nat) : (l.getD k ByteArray.empty).size ≤ maxLen := by
  by_cases hk : k < l.length
  · exact h _ (getD_mem hk)
  · rw [show l.getD k ByteArray.empty = ByteArray.empty by simp [List.getD, List.getElem?_eq_none (Nat.le_of_not_lt hk)]]
    exact Nat.zero_le _
theorem KOk.at_ {L : List (List ByteArray)} (h : KOk L) (k : Nat) : SOk (L.getD k []) := by
  by_cases hk : k < L.length
  · exact h _ (getD_mem hk)
  · rw [show L.getD k [] = [] by simp [List.getD, List.getElem?_eq_none (Nat.le_of_not_lt hk)]]
    intro x hx; cases hx
/-- A summary that can be read. -/
def RdR (t : RK) (v : Value) (w : World) : Prop := ∃ a n cap, v = .agg #[.int .i64 t.S, .int .i64 t.T, .int .i64 t.K, .slice a n cap, .bool t.s] ∧ RdL t.L (.slice a n cap) w
theorem RdR.below {t : RK} {v : Value} {w w' : World} (h : RdR t v w) (hb : Below w.heap.size w w') : RdR t v w' := by
  obtain ⟨a, n, cap, rfl, h⟩ := h
  exact ⟨a, n, cap, rfl, h.below hb⟩
/-- A struct of five cells in memory: a summary. -/
def RsS (g : Nat) (S T K : Int) (v : Value) (s : Bool) (w : World) : Prop :=
  (w.cell? ⟨g, 0, none⟩ = some (.int .i64 S) ∧ w.cell? ⟨g, 1, none⟩ = some (.int .i64 T) ∧ w.cell? ⟨g, 2, none⟩ = some (.int .i64 K) ∧ w.cell? ⟨g, 3, none⟩ = some v ∧ w.cell? ⟨g, 4, none⟩ = some (.bool s)) ∧
    w.frozen? ⟨g, 0, none⟩ = false ∧ w.frozen? ⟨g, 1, none⟩ = false ∧ w.frozen? ⟨g, 2, none⟩ = false ∧ w.frozen? ⟨g, 3, none⟩ = false ∧ w.frozen? ⟨g, 4, none⟩ = false
theorem RsS.keep {g : Nat} {S T K : Int} {v : Value} {s : Bool} {w w' : World} (h : RsS g S T K v s w) (hb : w'.heap[g]? = w.heap[g]?) : RsS g S T K v s w' := by
  obtain ⟨⟨h0, h1, h2, h3, h4⟩, f0, f1, f2, f3, f4⟩ := h
  have hc : ∀ o, w'.cell? ⟨g, o, none⟩ = w.cell? ⟨g, o, none⟩ := fun o => World.cell?_of_block (w := w) (a := ⟨g, o, none⟩) hb
  have hf : ∀ o, w'.frozen? ⟨g, o, none⟩ = w.frozen? ⟨g, o, none⟩ := fun o => World.frozen?_of_block (w := w) (a := ⟨g, o, none⟩) hb
  exact ⟨⟨(hc _).trans h0, (hc _).trans h1, (hc _).trans h2, (hc _).trans h3, (hc _).trans h4⟩, (hf _).trans f0, (hf _).trans f1, (hf _).trans f2, (hf _).trans f3, (hf _).trans f4⟩
theorem RsS.below {g : Nat} {S T K : Int} {v : Value} {s : Bool} {w w' : World} (h : RsS g S T K v s w) {B : Nat} (hb : Below B w w') (hg : g < B) : RsS g S T K v s w' := h.keep (hb.block g hg)
theorem RsS.new (S T K : Int) (v : Value) (s : Bool) (t : TypeId) (w : World) : RsS w.heap.size S T K v s (w.alloc (.cells #[.int .i64 S, .int .i64 T, .int .i64 K, v, .bool s] t)) := by
  exact ⟨⟨by go_simp, by go_simp, by go_simp, by go_simp, by go_simp⟩, by go_simp, by go_simp, by go_simp, by go_simp, by go_simp⟩
theorem RsS.lt {g : Nat} {S T K : Int} {v : Value} {s : Bool} {w : World} (h : RsS g S T K v s w) : g < w.heap.size := by
  have h0 := h.1.1
  unfold World.cell? at h0
  cases hb : w.heap[g]? with
  | none => simp [hb] at h0
  | some o => exact (Array.getElem?_eq_some_iff.1 hb).1
theorem RsS.go {g : Nat} {S T K : Int} {v : Value} {s : Bool} {w w' : World} (h : RsS g S T K v s w) (hb : Below w.heap.size w w') : RsS g S T K v s w' := h.below hb h.lt
/-- A summary in a block of the call's own, its levels readable. -/
def MR (W : World) (g : Nat) (t : RK) (v : Value) (w : World) : Prop := RsS g t.S t.T t.K v t.s w ∧ RdL t.L v w ∧ Below W.heap.size W w
theorem MR.go {W : World} {g : Nat} {t : RK} {v : Value} {w w' : World} (h : MR W g t v w) (hb : Below w.heap.size w w') : MR W g t v w' := ⟨h.1.go hb, h.2.1.below hb, bgo h.2.2 hb⟩
/-- The key ahead of position j. -/
def prevS (l : List ByteArray) (j : Nat) : ByteArray := if j = 0 then ⟨#[]⟩ else l.getD (j - 1) ByteArray.empty
theorem prevS_zero (l : List ByteArray) : prevS l 0 = ⟨#[]⟩ := rfl
theorem prevS_succ (l : List ByteArray) (j : Nat) : prevS l (j + 1) = l.getD j ByteArray.empty := by unfold prevS; rw [if_neg (by omega), Nat.add_sub_cancel]
theorem RdS.cell {l : List ByteArray} {a : Option Addr} {n cap : Nat} {w : World} (h : RdS l (.slice a n cap) w) {k : Nat} (hk : k < l.length) : ∃ b off, a = some ⟨b, off, none⟩ ∧ b < w.heap.size ∧ w.cell? ⟨b, off + k, none⟩ = some (.string (l.getD k ByteArray.empty)) := by
  obtain ⟨a', cap', he, h1, h2, h3⟩ := h
  simp only [Value.slice.injEq] at he
  obtain ⟨rfl, rfl, rfl⟩ := he
  obtain ⟨b, off, rfl, hb, hc⟩ := h3 (by omega)
  exact ⟨b, off, rfl, hb, hc k hk⟩
end Go.Proofs.YtdifilhfmbpalaaDoor
