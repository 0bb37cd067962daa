/- Slices of bools: the call's own (OwnO), and such as can be read (RdO). -/
import Derived.Test.YtbppdbfjhdhehaaWords
import Derived.Test.YtbppdbfjhdhehaaStepApp
import Derived.ProofKit
import Derived.Handy
import Derived.Lib.Hide
namespace Go.Proofs.Ytbppdbfjhdhehaa
open Go.RowKit
set_option linter.unusedVariables false
set_option linter.unusedSimpArgs false
theorem info_bool : (Try.prog.info? 4).map (fun i => (i.zero, i.size, i.bytes)) = some (some (.bool false), 1, 1) := by kernel_rfl
def cellsO (L : List Bool) : List Value := L.map Value.bool
theorem cellsO_len (L : List Bool) : (cellsO L).length = L.length := by simp [cellsO]
theorem cellsO_at {L : List Bool} {j : Nat} (h : j < L.length) : (cellsO L)[j]? = some (.bool (L.getD j false)) := by simp [cellsO, List.getD, h]
theorem cellsO_app (L M : List Bool) : cellsO (L ++ M) = cellsO L ++ cellsO M := by simp [cellsO]
def OwnO (B : Nat) (L : List Bool) (v : Value) (w : World) : Prop := w.ownsRow B 4 1 v L.length (cellsO L)
def RdO (L : List Bool) (v : Value) (w : World) : Prop :=
  ∃ a cap, v = .slice a L.length cap ∧ L.length ≤ cap ∧ cap ≤ maxLen ∧ (0 < L.length → ∃ b off, a = some ⟨b, off, none⟩ ∧ b < w.heap.size ∧ ∀ j, j < L.length → w.cell? ⟨b, off + j, none⟩ = some (.bool (L.getD j false)))
theorem RdO.below {L : List Bool} {v : Value} {w w' : World} (h : RdO L v w) (hb : Below w.heap.size w w') : RdO L v w' := by
  obtain ⟨a, cap, rfl, h1, h2, h3⟩ := h
  refine ⟨a, cap, rfl, h1, h2, fun hp => ?_⟩
  obtain ⟨b, off, rfl, hlt, hc⟩ := h3 hp
  exact ⟨b, off, rfl, Nat.lt_of_lt_of_le hlt hb.size, fun j hj => (hb.cell (p := ⟨b, off + j, none⟩) hlt).trans (hc j hj)⟩
theorem OwnO.rd {B : Nat} {L : List Bool} {v : Value} {w : World} (ho : OwnO B L v w) : RdO L v w := by
  have hl := World.ownsRow.lt ho
  rcases ho.2 with ⟨rfl, hn⟩ | ⟨g, cap, cur, rfl, hb, _, h1, h2, _⟩
  · exact ⟨none, 0, by rw [hn], by omega, by simp [maxLen], fun hp => by omega⟩
  · exact ⟨some ⟨g, 0, none⟩, cap, rfl, h1, h2, fun hp => ⟨g, 0, rfl, (hl g rfl).2, fun j hj => by
      rw [Nat.zero_add]; exact (World.ownsRow.cellAt ho j (by omega)).trans (cellsO_at hj)⟩⟩
theorem OwnO.alloc {B : Nat} {L : List Bool} {v : Value} {w : World} (h : OwnO B L v w) (o : Obj) : OwnO B L v (w.alloc o) := World.ownsRow.alloc h o
theorem OwnO.below {B : Nat} {L : List Bool} {v : Value} {w w' : World} (h : OwnO B L v w) (hb : Below w.heap.size w w') : OwnO B L v w' := by
  obtain ⟨h1, h2⟩ := h
  refine ⟨h1, ?_⟩
  rcases h2 with h2 | ⟨g, cap, cur, rfl, hb', hg, r⟩
  · exact .inl h2
  · exact .inr ⟨g, cap, cur, rfl, hb', (hb.block g (Array.getElem?_eq_some_iff.1 hg).1).trans hg, r⟩
theorem OwnO.mono {B B' : Nat} {L : List Bool} {v : Value} {w : World} (h : OwnO B L v w) (hB : B' ≤ B) : OwnO B' L v w := by
  obtain ⟨h1, h2⟩ := h
  refine ⟨h1, ?_⟩
  rcases h2 with h2 | ⟨g, cap, cur, rfl, hb, r⟩
  · exact .inl h2
  · exact .inr ⟨g, cap, cur, rfl, Nat.le_trans hB hb, r⟩
theorem OwnO.empty (B : Nat) (w : World) : OwnO B [] (.slice none 0 0) w := World.ownsRow_nil _ _ _ _
theorem OwnO.drewN {B : Nat} {L : List Bool} {v : Value} {w : World} (h : OwnO B L v w) (n : Nat) : OwnO B L v (w.drewN n) := h
theorem OwnO.one (s : Bool) (w : World) : OwnO w.heap.size [s] (.slice (some ⟨w.heap.size, 0, none⟩) 1 1) (w.alloc (.cells #[.bool s] 4)) :=
  ⟨rfl, .inr ⟨w.heap.size, 1, #[.bool s], rfl, Nat.le_refl _, Go.heap_alloc_new w _, Nat.le_refl _, by decide, rfl, rfl⟩⟩
/-- A whole new row. -/
theorem RdO.row (L : List Bool) (w : World) (hm : L.length ≤ maxLen) : RdO L (.slice (some ⟨w.heap.size, 0, none⟩) L.length L.length) (w.alloc (.cells (L.map Value.bool).toArray 4)) := by
  refine ⟨_, _, rfl, Nat.le_refl _, hm, fun hp => ⟨w.heap.size, 0, rfl, by simp, fun j hj => ?_⟩⟩
  rw [Nat.zero_add, cell_of_row _ w.heap.size j (L.map Value.bool).toArray 4 (0, 0) (Go.heap_alloc_new w _), List.getElem?_toArray]
  exact cellsO_at hj
def FromO (M : List Bool) (tx : TypeId) (u : Value) (w : World) : Prop := Src Try.prog 1 tx u M.length (cellsO M) w
theorem oneCell_bool (L : List Bool) : ∀ v ∈ cellsO L, v.oneCell' = true := by
  intro v hv
  obtain ⟨s, _, rfl⟩ := List.mem_map.1 hv
  rfl
theorem RdO.src {L : List Bool} {v : Value} {w : World} (h : RdO L v w) : FromO L 36 v w := by
  obtain ⟨a, cap, rfl, h1, h2, h3⟩ := h
  have hl : (cellsO L).length = L.length * 1 := by rw [cellsO_len, Nat.mul_one]
  cases a with
  | none =>
    by_cases hp : 0 < L.length
    · obtain ⟨b, off, he, _⟩ := h3 hp
      cases he
    · have : L = [] := List.eq_nil_of_length_eq_zero (by omega)
      subst this
      exact Src.ofNil w Try.underlying36 cap
  | some ad =>
    refine Src.ofSlice w Try.underlying36 ad L.length cap (cellsO L) hl (fun j u hu => ?_) (oneCell_bool L)
    have hj : j < L.length := by
      have := (List.getElem?_eq_some_iff.1 hu).1
      rwa [cellsO_len] at this
    obtain ⟨b, off, he, _, hc⟩ := h3 (by omega)
    cases he
    rw [Addr.add_lit, hc j hj]
    rw [cellsO_at hj] at hu
    exact hu
section
variable {w : World}
/-- append, onto strings of the call's own. -/
theorem wp_appO {ops : Array Oper} {rest : List Oper} {o : Oper} {a : Act} {Q : Exit → Act → World → Prop} (hgd : o.guard = none) (s x : Operand) (tx : TypeId)
    (ho : o.op = .call { callee := .builtin .append, args := #[s, x], argTypes := #[36, tx] }) (B : Nat) (L M : List Bool) (v u : Value) (hs : a.eval s = v) (hx : a.eval x = u)
    (hown : OwnO B L v w) (hsrc : FromO M tx u w) (hB : B ≤ w.heap.size) (hn : L.length + M.length ≤ 140737488355328)
    (h : ∀ v' w', OwnO B (L ++ M) v' w' → Below B w w' → wpList Try.prog ops Q rest (a.put o.dst v') w') : wpList Try.prog ops Q (o :: rest) a w := by
  obtain ⟨i0, hi, hz0, hz1, hz2⟩ := info_parts info_bool
  refine wpList_own_src w hgd s x 36 tx ho B 4 i0 (.bool false) 1 1 Try.underlying36 hi hz0 hz1 hz2 rfl (by decide) v L.length (cellsO L) hs hown u M.length (cellsO M) hx hsrc (by unfold maxLen; omega) (by omega) hB ?_
  intro v' w' h1 h2
  refine h v' w' ?_ ((Below.refl _ _).grown h2 hB (fun k hk => (World.ownsRow.lt hown k hk).1))
  unfold OwnO
  rw [List.length_append, cellsO_app]
  exact h1
/-- append, onto strings of the call's own, as one step of a region that draws its order. -/
theorem step_appO {ops : Array Oper} {o : Oper} {a : Act} {K : Act → World → Prop} {Q : Exit → Act → World → Prop} {E : Prop} (hgd : o.guard = none) (s x : Operand) (tx : TypeId)
    (ho : o.op = .call { callee := .builtin .append, args := #[s, x], argTypes := #[36, tx] }) (B : Nat) (L M : List Bool) (v u : Value) (hs : a.eval s = v) (hx : a.eval x = u)
    (hown : OwnO B L v w) (hsrc : FromO M tx u w) (hB : B ≤ w.heap.size) (hn : L.length + M.length ≤ 140737488355328)
    (h : ∀ v' w', OwnO B (L ++ M) v' w' → Below B w w' → K (a.put o.dst v') w') : if Region.wanted o (yielded ops a.tmps) = true then Oper.wp Try.prog o a w K Q else E := by
  have hw : Region.wanted o (yielded ops a.tmps) = true := by simp [Region.wanted, hgd]
  rw [if_pos hw]
  obtain ⟨i0, hi, hz0, hz1, hz2⟩ := info_parts info_bool
  obtain ⟨v', w', hr, h1, h2⟩ := run_own_src (P := Try.prog) w B 36 tx o.type 4 i0 (.bool false) 1 1 Try.underlying36 hi hz0 hz1 hz2 rfl (by decide) v L.length (cellsO L) hown u M.length (cellsO M) hsrc (by unfold maxLen; omega) (by omega) hB
  unfold Oper.wp execOp
  simp only [ho, resolve, invoke, builtin, Sem.run_bind, Sem.run_pure, Result.andThen_ok, List.map_toArray, List.map_cons, List.map_nil, hs, hx, hr]
  refine h v' w' ?_ ((Below.refl _ _).grown h2 hB (fun k hk => (World.ownsRow.lt hown k hk).1))
  unfold OwnO
  rw [List.length_append, cellsO_app]
  exact h1
end
section
variable {w : World}
/-- 'make([]bool, n)': of the call's own, all false. -/
theorem wp_makeO {ops : Array Oper} {rest : List Oper} {o : Oper} {a : Act} {Q : Exit → Act → World → Prop} (hgd : o.guard = none) (l c : Operand)
    (ho : o.op = Op.makeSlice 36 l c) (N : Nat) (hl : a.eval l = .int .i64 (N : Int)) (hc : a.eval c = .int .i64 (N : Int)) (hN : N ≤ 140737488355328)
    (h : ∀ w' : World, OwnO w.heap.size (List.replicate N false) (.slice (some ⟨w.heap.size, 0, none⟩) N N) w' → Below w.heap.size w w' → w.heap.size < w'.heap.size → wpList Try.prog ops Q rest (a.put o.dst (.slice (some ⟨w.heap.size, 0, none⟩) N N)) w') : wpList Try.prog ops Q (o :: rest) a w := by
  obtain ⟨i0, hi, hz0, hz1, hz2⟩ := info_parts info_bool
  refine wpList_make_full w hgd l c 36 ho w.heap.size 4 i0 (.bool false) 1 Try.underlying36 hi hz0 hz1 .i64 .i64 N N N hl hc rfl rfl (by rw [hz2]; omega) (by unfold maxLen; omega) (Nat.le_refl _) ?_
  intro w1 hown hgrow
  have ho : w1.ownsRow w.heap.size 4 1 (.slice (some ⟨w.heap.size, 0, none⟩) N N) (List.replicate N false).length (cellsO (List.replicate N false)) := by
    rw [show (Value.bool false).cells = #[Value.bool false] from rfl, toList_madeCells_one, Nat.mul_one] at hown
    have e : cellsO (List.replicate N false) = List.replicate N (Value.bool false) := by simp [cellsO]
    rw [e, List.length_replicate]
    exact hown
  exact h w1 ho ((Below.refl _ _).grown hgrow (Nat.le_refl _) (fun _ h => by cases h)) (World.ownsRow.lt ho _ rfl).2
end
theorem cellsO_set (L : List Bool) (j : Nat) (c : Bool) : (cellsO L).set j (.bool c) = cellsO (L.set j c) := by simp [cellsO, List.map_set]
/-- An own slice with an element: its cells, and what a store leaves. -/
theorem OwnO.cells {B : Nat} {L : List Bool} {a : Option Addr} {n cap : Nat} {w : World} (h : OwnO B L (.slice a n cap) w) (hp : 0 < L.length) :
    ∃ g, a = some ⟨g, 0, none⟩ ∧ B ≤ g ∧ g < w.heap.size ∧ (∀ j, j < L.length → w.cell? ⟨g, j, none⟩ = some (.bool (L.getD j false)) ∧ w.frozen? ⟨g, j, none⟩ = false) ∧
      ∀ j c, OwnO B (L.set j c) (.slice (some ⟨g, 0, none⟩) n cap) (w.setCell ⟨g, j, none⟩ (.bool c)) := by
  have ho := h
  have h2 := ho.2
  rcases h2 with ⟨he, hn⟩ | ⟨g, cap', cur, he, hb, _⟩
  · omega
  · simp only [Value.slice.injEq] at he
    obtain ⟨rfl, hnl, rfl⟩ := he
    subst hnl
    refine ⟨g, rfl, hb, (World.ownsRow.lt ho g rfl).2, fun j hj => ⟨(World.ownsRow.cellAt ho j (by omega)).trans (cellsO_at hj), World.ownsRow.frozenAt ho j⟩, fun j c => ?_⟩
    have := (World.ownsRow.stored ho j (.bool c)).1
    unfold OwnO
    rw [List.length_set]
    rw [cellsO_set] at this
    exact this
theorem RdO.shape {L : List Bool} {v : Value} {w : World} (h : RdO L v w) : ∃ a cap, v = .slice a L.length cap := by
  obtain ⟨a, cap, rfl, _⟩ := h
  exact ⟨a, cap, rfl⟩
end Go.Proofs.Ytbppdbfjhdhehaa
