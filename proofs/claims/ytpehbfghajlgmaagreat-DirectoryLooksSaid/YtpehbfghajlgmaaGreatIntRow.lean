/- Slices of ints: the call's own (OwnI), and such as can be read (RdI). -/
import Derived.Test.YtpehbfghajlgmaaGreatProg
import Derived.Test.YtpehbfghajlgmaaGreatWords
import Derived.Test.YtpehbfghajlgmaaGreatBel
import Derived.Deep.RegionLaw
import Derived.Deep.QuietTactic
import Derived.BigQuiet
import Derived.ProofKit
import Derived.Handy
import Derived.Lib.Hide
namespace Go.Proofs.YtpehbfghajlgmaaGreat
open Go.RowKit
set_option linter.unusedVariables false
set_option linter.unusedSimpArgs false
theorem info_int : (Tryz.prog.info? 3).map (fun i => (i.zero, i.size, i.bytes)) = some (some (.int .i64 0), 1, 8) := by kernel_rfl
/-- Ints of 64 bits. -/
def Rng (L : List Int) : Prop := ∀ n ∈ L, -9223372036854775808 ≤ n ∧ n ≤ 9223372036854775807
theorem Rng.nil : Rng [] := fun _ h => by cases h
theorem Rng.app {L M : List Int} (h : Rng L) (k : Rng M) : Rng (L ++ M) := fun n hn => by
  rcases List.mem_append.1 hn with h' | h'
  · exact h n h'
  · exact k n h'
theorem Rng.one {c : Int} (h : -9223372036854775808 ≤ c ∧ c ≤ 9223372036854775807) : Rng [c] := fun n hn => by
  rw [List.mem_singleton] at hn
  subst hn
  exact h
theorem Rng.at_ {L : List Int} (h : Rng L) (k : Nat) : -9223372036854775808 ≤ L.getD k 0 ∧ L.getD k 0 ≤ 9223372036854775807 := by
  by_cases hk : k < L.length
  · have := h L[k] (List.getElem_mem hk)
    simpa [List.getD, hk] using this
  · simp [List.getD, List.getElem?_eq_none (Nat.le_of_not_lt hk)]
theorem Rng.set {L : List Int} (h : Rng L) (j : Nat) {c : Int} (hc : -9223372036854775808 ≤ c ∧ c ≤ 9223372036854775807) : Rng (L.set j c) := fun x hx => by
  rcases List.mem_or_eq_of_mem_set hx with h' | rfl
  · exact h x h'
  · exact hc
theorem Rng.rep {c : Int} (n : Nat) (h : -9223372036854775808 ≤ c ∧ c ≤ 9223372036854775807) : Rng (List.replicate n c) := fun x hx => by
  rw [List.eq_of_mem_replicate hx]
  exact h
def cellsI (L : List Int) : List Value := L.map (Value.int .i64)
theorem cellsI_len (L : List Int) : (cellsI L).length = L.length := by simp [cellsI]
theorem cellsI_at {L : List Int} {j : Nat} (h : j < L.length) : (cellsI L)[j]? = some (.int .i64 (L.getD j 0)) := by simp [cellsI, List.getD, h]
theorem cellsI_app (L M : List Int) : cellsI (L ++ M) = cellsI L ++ cellsI M := by simp [cellsI]
theorem cellsI_set (L : List Int) (j : Nat) (c : Int) : (cellsI L).set j (.int .i64 c) = cellsI (L.set j c) := by simp [cellsI, List.map_set]
/-- A slice of ints of the call's own. -/
def OwnI (B : Nat) (L : List Int) (v : Value) (w : World) : Prop := Rng L ∧ w.ownsRow B 3 1 v L.length (cellsI L)
/-- A slice of ints that can be read. -/
def RdI (Z : List Int) (v : Value) (w : World) : Prop :=
  (∀ n ∈ Z, -9223372036854775808 ≤ n ∧ n ≤ 9223372036854775807) ∧ ∃ a cap, v = .slice a Z.length cap ∧ Z.length ≤ cap ∧ cap ≤ maxLen ∧ (0 < Z.length → ∃ b off, a = some ⟨b, off, none⟩ ∧ b < w.heap.size ∧ ∀ j, j < Z.length → w.cell? ⟨b, off + j, none⟩ = some (.int .i64 (Z.getD j 0)))
theorem RdI.below {L : List Int} {v : Value} {w w' : World} (h : RdI L v w) (hb : Below w.heap.size w w') : RdI L v w' := by
  obtain ⟨hy, a, cap, rfl, h1, h2, h3⟩ := h
  refine ⟨hy, a, cap, rfl, h1, h2, fun hp => ?_⟩
  obtain ⟨b, off, rfl, hlt, hc⟩ := h3 hp
  exact ⟨b, off, rfl, Nat.lt_of_lt_of_le hlt hb.size, fun j hj => (hb.cell (p := ⟨b, off + j, none⟩) hlt).trans (hc j hj)⟩
theorem RdI.at_ {Z : List Int} {v : Value} {w : World} (h : RdI Z v w) (k : Nat) : -9223372036854775808 ≤ Z.getD k 0 ∧ Z.getD k 0 ≤ 9223372036854775807 := Rng.at_ h.1 k
theorem RdI.drewN {L : List Int} {v : Value} {w : World} (h : RdI L v w) (n : Nat) : RdI L v (w.drewN n) := h
theorem OwnI.rd {B : Nat} {L : List Int} {v : Value} {w : World} (h : OwnI B L v w) : RdI L v w := by
  obtain ⟨hy, ho⟩ := h
  have hl := World.ownsRow.lt ho
  refine ⟨hy, ?_⟩
  rcases ho.2 with ⟨rfl, hn⟩ | ⟨g, cap, cur, rfl, hb, _, h1, h2, _⟩
  · exact ⟨none, 0, by rw [hn], by omega, by simp [maxLen], fun hp => by omega⟩
  · exact ⟨some ⟨g, 0, none⟩, cap, rfl, h1, h2, fun hp => ⟨g, 0, rfl, (hl g rfl).2, fun j hj => by
      rw [Nat.zero_add]; exact (World.ownsRow.cellAt ho j (by omega)).trans (cellsI_at hj)⟩⟩
theorem RdI.shape {L : List Int} {v : Value} {w : World} (h : RdI L v w) : ∃ a cap, v = .slice a L.length cap := by
  obtain ⟨_, a, cap, rfl, _⟩ := h
  exact ⟨a, cap, rfl⟩
theorem OwnI.mono {B B' : Nat} {L : List Int} {v : Value} {w : World} (h : OwnI B L v w) (hB : B' ≤ B) : OwnI B' L v w := by
  obtain ⟨hy, h1, h2⟩ := h
  refine ⟨hy, h1, ?_⟩
  rcases h2 with h2 | ⟨g, cap, cur, rfl, hb, r⟩
  · exact .inl h2
  · exact .inr ⟨g, cap, cur, rfl, Nat.le_trans hB hb, r⟩
theorem OwnI.alloc {B : Nat} {L : List Int} {v : Value} {w : World} (h : OwnI B L v w) (o : Obj) : OwnI B L v (w.alloc o) := ⟨h.1, World.ownsRow.alloc h.2 o⟩
theorem OwnI.below {B : Nat} {L : List Int} {v : Value} {w w' : World} (h : OwnI B L v w) (hb : Below w.heap.size w w') : OwnI B L v w' := by
  obtain ⟨hy, h1, h2⟩ := h
  refine ⟨hy, h1, ?_⟩
  rcases h2 with h2 | ⟨g, cap, cur, rfl, hb', hg, r⟩
  · exact .inl h2
  · exact .inr ⟨g, cap, cur, rfl, hb', (hb.block g (Array.getElem?_eq_some_iff.1 hg).1).trans hg, r⟩
theorem OwnI.empty (B : Nat) (w : World) : OwnI B [] (.slice none 0 0) w := ⟨Rng.nil, World.ownsRow_nil _ _ _ _⟩
theorem OwnI.drewN {B : Nat} {L : List Int} {v : Value} {w : World} (h : OwnI B L v w) (n : Nat) : OwnI B L v (w.drewN n) := h
/-- It stays where a block below it is written. -/
theorem OwnI.keep {B b : Nat} {L : List Int} {v : Value} {w : World} (h : OwnI B L v w) (hb : b < B) (o : Nat) (u : Value) : OwnI B L v (w.setCell ⟨b, o, none⟩ u) := ⟨h.1, ownsRow_setCell_below h.2 hb u⟩
theorem OwnI.one {c : Int} (hc : -9223372036854775808 ≤ c ∧ c ≤ 9223372036854775807) (w : World) : OwnI w.heap.size [c] (.slice (some ⟨w.heap.size, 0, none⟩) 1 1) (w.alloc (.cells #[.int .i64 c] 3)) :=
  ⟨Rng.one hc, rfl, .inr ⟨w.heap.size, 1, #[.int .i64 c], rfl, Nat.le_refl _, Go.heap_alloc_new w _, Nat.le_refl _, by decide, rfl, rfl⟩⟩
theorem OwnI.two {c d : Int} (hc : -9223372036854775808 ≤ c ∧ c ≤ 9223372036854775807) (hd : -9223372036854775808 ≤ d ∧ d ≤ 9223372036854775807) (w : World) : OwnI w.heap.size [c, d] (.slice (some ⟨w.heap.size, 0, none⟩) 2 2) (w.alloc (.cells #[.int .i64 c, .int .i64 d] 3)) :=
  ⟨(Rng.one hc).app (Rng.one hd), rfl, .inr ⟨w.heap.size, 2, #[.int .i64 c, .int .i64 d], rfl, Nat.le_refl _, Go.heap_alloc_new w _, Nat.le_refl _, by decide, rfl, rfl⟩⟩
/-- What may be appended: the ints M. -/
def FromI (M : List Int) (tx : TypeId) (u : Value) (w : World) : Prop := Rng M ∧ Src Tryz.prog 1 tx u M.length (cellsI M) w
theorem oneCell_int (L : List Int) : ∀ v ∈ cellsI L, v.oneCell' = true := by
  intro v hv
  obtain ⟨s, _, rfl⟩ := List.mem_map.1 hv
  rfl
theorem RdI.src {L : List Int} {v : Value} {w : World} (h : RdI L v w) : FromI L 23 v w := by
  obtain ⟨hy, a, cap, rfl, h1, h2, h3⟩ := h
  refine ⟨hy, ?_⟩
  have hl : (cellsI L).length = L.length * 1 := by rw [cellsI_len, Nat.mul_one]
  cases a with
  | none =>
    by_cases hp : 0 < L.length
    · obtain ⟨b, off, he, _⟩ := h3 hp
      cases he
    · have : L = [] := List.eq_nil_of_length_eq_zero (by omega)
      subst this
      exact Src.ofNil w Tryz.underlying23 cap
  | some ad =>
    refine Src.ofSlice w Tryz.underlying23 ad L.length cap (cellsI L) hl (fun j u hu => ?_) (oneCell_int L)
    have hj : j < L.length := by
      have := (List.getElem?_eq_some_iff.1 hu).1
      rwa [cellsI_len] at this
    obtain ⟨b, off, he, _, hc⟩ := h3 (by omega)
    cases he
    rw [Addr.add_lit, hc j hj]
    rw [cellsI_at hj] at hu
    exact hu
section
variable {w : World}
/-- append, onto ints of the call's own. -/
theorem wp_appI {ops : Array Oper} {rest : List Oper} {o : Oper} {a : Act} {Q : Exit → Act → World → Prop} (hgd : o.guard = none) (s x : Operand) (tx : TypeId)
    (ho : o.op = .call { callee := .builtin .append, args := #[s, x], argTypes := #[23, tx] }) (B : Nat) (L M : List Int) (v u : Value) (hs : a.eval s = v) (hx : a.eval x = u)
    (hown : OwnI B L v w) (hsrc : FromI M tx u w) (hB : B ≤ w.heap.size) (hn : L.length + M.length ≤ 17592186044416)
    (h : ∀ v' w', OwnI B (L ++ M) v' w' → Below B w w' → wpList Tryz.prog ops Q rest (a.put o.dst v') w') : wpList Tryz.prog ops Q (o :: rest) a w := by
  obtain ⟨i0, hi, hz0, hz1, hz2⟩ := info_parts info_int
  refine wpList_own_src w hgd s x 23 tx ho B 3 i0 (.int .i64 0) 1 8 Tryz.underlying23 hi hz0 hz1 hz2 rfl (by decide) v L.length (cellsI L) hs hown.2 u M.length (cellsI M) hx hsrc.2 (by unfold maxLen; omega) (by omega) hB ?_
  intro v' w' h1 h2
  refine h v' w' ⟨hown.1.app hsrc.1, ?_⟩ ((Below.refl _ _).grown h2 hB (fun k hk => (World.ownsRow.lt hown.2 k hk).1))
  rw [List.length_append, cellsI_app]
  exact h1
/-- append, onto ints of the call's own, as one step of a region that draws its order. -/
theorem step_appI {ops : Array Oper} {o : Oper} {a : Act} {K : Act → World → Prop} {Q : Exit → Act → World → Prop} {E : Prop} (hgd : o.guard = none) (s x : Operand) (tx : TypeId)
    (ho : o.op = .call { callee := .builtin .append, args := #[s, x], argTypes := #[23, tx] }) (B : Nat) (L M : List Int) (v u : Value) (hs : a.eval s = v) (hx : a.eval x = u)
    (hown : OwnI B L v w) (hsrc : FromI M tx u w) (hB : B ≤ w.heap.size) (hn : L.length + M.length ≤ 17592186044416)
    (h : ∀ v' w', OwnI B (L ++ M) v' w' → Below B w w' → K (a.put o.dst v') w') : if Region.wanted o (yielded ops a.tmps) = true then Oper.wp Tryz.prog o a w K Q else E := by
  have hw : Region.wanted o (yielded ops a.tmps) = true := by simp [Region.wanted, hgd]
  rw [if_pos hw]
  obtain ⟨i0, hi, hz0, hz1, hz2⟩ := info_parts info_int
  obtain ⟨v', w', hr, h1, h2⟩ := run_own_src (P := Tryz.prog) w B 23 tx o.type 3 i0 (.int .i64 0) 1 8 Tryz.underlying23 hi hz0 hz1 hz2 rfl (by decide) v L.length (cellsI L) hown.2 u M.length (cellsI M) hsrc.2 (by unfold maxLen; omega) (by omega) hB
  unfold Oper.wp execOp
  simp only [ho, resolve, invoke, builtin, Sem.run_bind, Sem.run_pure, Result.andThen_ok, List.map_toArray, List.map_cons, List.map_nil, hs, hx, hr]
  refine h v' w' ⟨hown.1.app hsrc.1, ?_⟩ ((Below.refl _ _).grown h2 hB (fun k hk => (World.ownsRow.lt hown.2 k hk).1))
  rw [List.length_append, cellsI_app]
  exact h1
/-- 'make([]int, n)': zeros of the call's own. -/
theorem wp_makeI {ops : Array Oper} {rest : List Oper} {o : Oper} {a : Act} {Q : Exit → Act → World → Prop} (hgd : o.guard = none) (l c : Operand)
    (ho : o.op = Op.makeSlice 23 l c) (N : Nat) (hl : a.eval l = .int .i64 (N : Int)) (hc : a.eval c = .int .i64 (N : Int)) (hN : N ≤ 35184372088832)
    (h : ∀ w' : World, OwnI w.heap.size (List.replicate N 0) (.slice (some ⟨w.heap.size, 0, none⟩) N N) w' → Below w.heap.size w w' → w.heap.size < w'.heap.size → wpList Tryz.prog ops Q rest (a.put o.dst (.slice (some ⟨w.heap.size, 0, none⟩) N N)) w') : wpList Tryz.prog ops Q (o :: rest) a w := by
  obtain ⟨i0, hi, hz0, hz1, hz2⟩ := info_parts info_int
  refine wpList_make_full w hgd l c 23 ho w.heap.size 3 i0 (.int .i64 0) 1 Tryz.underlying23 hi hz0 hz1 .i64 .i64 N N N hl hc rfl rfl (by rw [hz2]; omega) (by unfold maxLen; omega) (Nat.le_refl _) ?_
  intro w1 hown hgrow
  have ho : w1.ownsRow w.heap.size 3 1 (.slice (some ⟨w.heap.size, 0, none⟩) N N) (List.replicate N (0 : Int)).length (cellsI (List.replicate N 0)) := by
    rw [show (Value.int .i64 0).cells = #[Value.int .i64 0] from rfl, toList_madeCells_one, Nat.mul_one] at hown
    have e : cellsI (List.replicate N 0) = List.replicate N (Value.int .i64 0) := by simp [cellsI]
    rw [e, List.length_replicate]
    exact hown
  exact h w1 ⟨Rng.rep N (by omega), ho⟩ ((Below.refl _ _).grown hgrow (Nat.le_refl _) (fun _ h => by cases h)) (World.ownsRow.lt ho _ rfl).2
end
/-- An own slice with an element: its cells, and what a store leaves. -/
theorem OwnI.cells {B : Nat} {L : List Int} {a : Option Addr} {n cap : Nat} {w : World} (h : OwnI B L (.slice a n cap) w) (hp : 0 < L.length) :
    ∃ g, a = some ⟨g, 0, none⟩ ∧ B ≤ g ∧ g < w.heap.size ∧ (∀ j, j < L.length → w.cell? ⟨g, j, none⟩ = some (.int .i64 (L.getD j 0)) ∧ w.frozen? ⟨g, j, none⟩ = false) ∧
      ∀ j c, -9223372036854775808 ≤ c ∧ c ≤ 9223372036854775807 → OwnI B (L.set j c) (.slice (some ⟨g, 0, none⟩) n cap) (w.setCell ⟨g, j, none⟩ (.int .i64 c)) := by
  obtain ⟨hy, ho⟩ := h
  have h2 := ho.2
  rcases h2 with ⟨he, hn⟩ | ⟨g, cap', cur, he, hb, _⟩
  · omega
  · simp only [Value.slice.injEq] at he
    obtain ⟨rfl, hnl, rfl⟩ := he
    subst hnl
    refine ⟨g, rfl, hb, (World.ownsRow.lt ho g rfl).2, fun j hj => ⟨(World.ownsRow.cellAt ho j (by omega)).trans (cellsI_at hj), World.ownsRow.frozenAt ho j⟩, fun j c hc => ⟨Rng.set hy j hc, ?_⟩⟩
    have := (World.ownsRow.stored ho j (.int .i64 c)).1
    rw [List.length_set]
    rw [cellsI_set] at this
    exact this
end Go.Proofs.YtpehbfghajlgmaaGreat
