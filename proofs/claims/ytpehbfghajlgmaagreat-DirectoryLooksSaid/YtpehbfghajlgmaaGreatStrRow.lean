/- Slices of strings: the call's own (OwnS), and such as can be read (RdS). -/
import Derived.Test.YtpehbfghajlgmaaGreatProg
import Derived.Test.YtpehbfghajlgmaaGreatWords
import Derived.Test.YtpehbfghajlgmaaGreatStepApp
import Derived.ProofKit
import Derived.Handy
import Derived.Lib.Hide
import Derived.Lib.Split
namespace Go.Proofs.YtpehbfghajlgmaaGreat
open Go.RowKit
set_option linter.unusedVariables false
set_option linter.unusedSimpArgs false
theorem info_str : (Tryz.prog.info? 9).map (fun i => (i.zero, i.size, i.bytes)) = some (some (.string ByteArray.empty), 1, 16) := by kernel_rfl
def cellsS (L : List ByteArray) : List Value := L.map Value.string
theorem cellsS_len (L : List ByteArray) : (cellsS L).length = L.length := by simp [cellsS]
theorem cellsS_at {L : List ByteArray} {j : Nat} (h : j < L.length) : (cellsS L)[j]? = some (.string (L.getD j ByteArray.empty)) := by simp [cellsS, List.getD, h]
theorem cellsS_app (L M : List ByteArray) : cellsS (L ++ M) = cellsS L ++ cellsS M := by simp [cellsS]
def OwnS (B : Nat) (L : List ByteArray) (v : Value) (w : World) : Prop := w.ownsRow B 9 1 v L.length (cellsS L)
def RdS (L : List ByteArray) (v : Value) (w : World) : Prop :=
  ∃ a cap, v = .slice a L.length cap ∧ L.length ≤ cap ∧ cap ≤ maxLen ∧ (0 < L.length → ∃ b off, a = some ⟨b, off, none⟩ ∧ b < w.heap.size ∧ ∀ j, j < L.length → w.cell? ⟨b, off + j, none⟩ = some (.string (L.getD j ByteArray.empty)))
theorem RdS.below {L : List ByteArray} {v : Value} {w w' : World} (h : RdS L v w) (hb : Below w.heap.size w w') : RdS L v w' := by
  obtain ⟨a, cap, rfl, h1, h2, h3⟩ := h
  refine ⟨a, cap, rfl, h1, h2, fun hp => ?_⟩
  obtain ⟨b, off, rfl, hlt, hc⟩ := h3 hp
  exact ⟨b, off, rfl, Nat.lt_of_lt_of_le hlt hb.size, fun j hj => (hb.cell (p := ⟨b, off + j, none⟩) hlt).trans (hc j hj)⟩
theorem OwnS.rd {B : Nat} {L : List ByteArray} {v : Value} {w : World} (ho : OwnS B L v w) : RdS L v w := by
  have hl := World.ownsRow.lt ho
  rcases ho.2 with ⟨rfl, hn⟩ | ⟨g, cap, cur, rfl, hb, _, h1, h2, _⟩
  · exact ⟨none, 0, by rw [hn], by omega, by simp [maxLen], fun hp => by omega⟩
  · exact ⟨some ⟨g, 0, none⟩, cap, rfl, h1, h2, fun hp => ⟨g, 0, rfl, (hl g rfl).2, fun j hj => by
      rw [Nat.zero_add]; exact (World.ownsRow.cellAt ho j (by omega)).trans (cellsS_at hj)⟩⟩
theorem OwnS.alloc {B : Nat} {L : List ByteArray} {v : Value} {w : World} (h : OwnS B L v w) (o : Obj) : OwnS B L v (w.alloc o) := World.ownsRow.alloc h o
theorem OwnS.below {B : Nat} {L : List ByteArray} {v : Value} {w w' : World} (h : OwnS B L v w) (hb : Below w.heap.size w w') : OwnS B L v w' := by
  obtain ⟨h1, h2⟩ := h
  refine ⟨h1, ?_⟩
  rcases h2 with h2 | ⟨g, cap, cur, rfl, hb', hg, r⟩
  · exact .inl h2
  · exact .inr ⟨g, cap, cur, rfl, hb', (hb.block g (Array.getElem?_eq_some_iff.1 hg).1).trans hg, r⟩
theorem OwnS.mono {B B' : Nat} {L : List ByteArray} {v : Value} {w : World} (h : OwnS B L v w) (hB : B' ≤ B) : OwnS B' L v w := by
  obtain ⟨h1, h2⟩ := h
  refine ⟨h1, ?_⟩
  rcases h2 with h2 | ⟨g, cap, cur, rfl, hb, r⟩
  · exact .inl h2
  · exact .inr ⟨g, cap, cur, rfl, Nat.le_trans hB hb, r⟩
theorem OwnS.empty (B : Nat) (w : World) : OwnS B [] (.slice none 0 0) w := World.ownsRow_nil _ _ _ _
theorem OwnS.drewN {B : Nat} {L : List ByteArray} {v : Value} {w : World} (h : OwnS B L v w) (n : Nat) : OwnS B L v (w.drewN n) := h
theorem OwnS.one (s : ByteArray) (w : World) : OwnS w.heap.size [s] (.slice (some ⟨w.heap.size, 0, none⟩) 1 1) (w.alloc (.cells #[.string s] 9)) :=
  ⟨rfl, .inr ⟨w.heap.size, 1, #[.string s], rfl, Nat.le_refl _, Go.heap_alloc_new w _, Nat.le_refl _, by decide, rfl, rfl⟩⟩
/-- A whole new row. -/
theorem RdS.row (L : List ByteArray) (w : World) (hm : L.length ≤ maxLen) : RdS L (.slice (some ⟨w.heap.size, 0, none⟩) L.length L.length) (w.alloc (.cells (L.map Value.string).toArray 9)) := by
  refine ⟨_, _, rfl, Nat.le_refl _, hm, fun hp => ⟨w.heap.size, 0, rfl, by simp, fun j hj => ?_⟩⟩
  rw [Nat.zero_add, cell_of_row _ w.heap.size j (L.map Value.string).toArray 9 (0, 0) (Go.heap_alloc_new w _), List.getElem?_toArray]
  exact cellsS_at hj
def FromS (M : List ByteArray) (tx : TypeId) (u : Value) (w : World) : Prop := Src Tryz.prog 1 tx u M.length (cellsS M) w
theorem oneCell_str (L : List ByteArray) : ∀ v ∈ cellsS L, v.oneCell' = true := by
  intro v hv
  obtain ⟨s, _, rfl⟩ := List.mem_map.1 hv
  rfl
theorem RdS.src {L : List ByteArray} {v : Value} {w : World} (h : RdS L v w) : FromS L 44 v w := by
  obtain ⟨a, cap, rfl, h1, h2, h3⟩ := h
  have hl : (cellsS L).length = L.length * 1 := by rw [cellsS_len, Nat.mul_one]
  cases a with
  | none =>
    by_cases hp : 0 < L.length
    · obtain ⟨b, off, he, _⟩ := h3 hp
      cases he
    · have : L = [] := List.eq_nil_of_length_eq_zero (by omega)
      subst this
      exact Src.ofNil w Tryz.underlying44 cap
  | some ad =>
    refine Src.ofSlice w Tryz.underlying44 ad L.length cap (cellsS L) hl (fun j u hu => ?_) (oneCell_str L)
    have hj : j < L.length := by
      have := (List.getElem?_eq_some_iff.1 hu).1
      rwa [cellsS_len] at this
    obtain ⟨b, off, he, _, hc⟩ := h3 (by omega)
    cases he
    rw [Addr.add_lit, hc j hj]
    rw [cellsS_at hj] at hu
    exact hu
section
variable {w : World}
/-- append, onto strings of the call's own. -/
theorem wp_appS {ops : Array Oper} {rest : List Oper} {o : Oper} {a : Act} {Q : Exit → Act → World → Prop} (hgd : o.guard = none) (s x : Operand) (tx : TypeId)
    (ho : o.op = .call { callee := .builtin .append, args := #[s, x], argTypes := #[44, tx] }) (B : Nat) (L M : List ByteArray) (v u : Value) (hs : a.eval s = v) (hx : a.eval x = u)
    (hown : OwnS B L v w) (hsrc : FromS M tx u w) (hB : B ≤ w.heap.size) (hn : L.length + M.length ≤ 8796093022208)
    (h : ∀ v' w', OwnS B (L ++ M) v' w' → Below B w w' → wpList Tryz.prog ops Q rest (a.put o.dst v') w') : wpList Tryz.prog ops Q (o :: rest) a w := by
  obtain ⟨i0, hi, hz0, hz1, hz2⟩ := info_parts info_str
  refine wpList_own_src w hgd s x 44 tx ho B 9 i0 (.string ByteArray.empty) 1 16 Tryz.underlying44 hi hz0 hz1 hz2 rfl (by decide) v L.length (cellsS L) hs hown u M.length (cellsS M) hx hsrc (by unfold maxLen; omega) (by omega) hB ?_
  intro v' w' h1 h2
  refine h v' w' ?_ ((Below.refl _ _).grown h2 hB (fun k hk => (World.ownsRow.lt hown k hk).1))
  unfold OwnS
  rw [List.length_append, cellsS_app]
  exact h1
/-- append, onto strings of the call's own, as one step of a region that draws its order. -/
theorem step_appS {ops : Array Oper} {o : Oper} {a : Act} {K : Act → World → Prop} {Q : Exit → Act → World → Prop} {E : Prop} (hgd : o.guard = none) (s x : Operand) (tx : TypeId)
    (ho : o.op = .call { callee := .builtin .append, args := #[s, x], argTypes := #[44, tx] }) (B : Nat) (L M : List ByteArray) (v u : Value) (hs : a.eval s = v) (hx : a.eval x = u)
    (hown : OwnS B L v w) (hsrc : FromS M tx u w) (hB : B ≤ w.heap.size) (hn : L.length + M.length ≤ 8796093022208)
    (h : ∀ v' w', OwnS B (L ++ M) v' w' → Below B w w' → K (a.put o.dst v') w') : if Region.wanted o (yielded ops a.tmps) = true then Oper.wp Tryz.prog o a w K Q else E := by
  have hw : Region.wanted o (yielded ops a.tmps) = true := by simp [Region.wanted, hgd]
  rw [if_pos hw]
  obtain ⟨i0, hi, hz0, hz1, hz2⟩ := info_parts info_str
  obtain ⟨v', w', hr, h1, h2⟩ := run_own_src (P := Tryz.prog) w B 44 tx o.type 9 i0 (.string ByteArray.empty) 1 16 Tryz.underlying44 hi hz0 hz1 hz2 rfl (by decide) v L.length (cellsS L) hown u M.length (cellsS M) hsrc (by unfold maxLen; omega) (by omega) hB
  unfold Oper.wp execOp
  simp only [ho, resolve, invoke, builtin, Sem.run_bind, Sem.run_pure, Result.andThen_ok, List.map_toArray, List.map_cons, List.map_nil, hs, hx, hr]
  refine h v' w' ?_ ((Below.refl _ _).grown h2 hB (fun k hk => (World.ownsRow.lt hown k hk).1))
  unfold OwnS
  rw [List.length_append, cellsS_app]
  exact h1
end
end Go.Proofs.YtpehbfghajlgmaaGreat
